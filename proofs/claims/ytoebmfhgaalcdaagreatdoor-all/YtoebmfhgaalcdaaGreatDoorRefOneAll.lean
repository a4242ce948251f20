/-
  Our own. What package sprigsref reads, as plain functions.
-/
import Derived.Test.YtoebmfhgaalcdaaGreatDoorPlain
import Derived.Deep.LoopGhost
import Derived.BigRegion
namespace Go.Proofs.YtoebmfhgaalcdaaGreatDoor

/-- A NUM as the document's answer reads it: a digit behind a nought fails at once. -/
def numF (s : ByteArray) (i : Nat) : Nm :=
  if isDig (nx s i) = false then .bad i else
  if nx s i = 48 then (if isDig (nx s (i + 1)) = true then .bad (i + 1) else .ok 0 (i + 1)) else numGo s (s.size + 1 - i) i 0

theorem Rs.ok_inj {α : Type} {a b : α} {i r j q : Nat} (h : Rs.ok a i r = Rs.ok b j q) : a = b ∧ i = j ∧ r = q := by
  injection h with h; injection h with h; injection h with h1 h2; injection h2 with h2 h3; exact ⟨h1, h2, h3⟩
theorem Rs.bad_ok {α : Type} {a : α} {i j q : Nat} (h : Rs.bad i = Rs.ok a j q) : False := by
  injection h with h; injection h

/-- What an ID that was read is made of. -/
theorem idR_inv (s : ByteArray) (h i r : Nat) (t : Tr Bool) (j q : Nat) (e : idR s h i r = .ok t j q) :
    (nx s i = 48 ∧ t = .leaf false ∧ j = i + 1 ∧ q = r) ∨ (nx s i = 49 ∧ t = .leaf true ∧ j = i + 1 ∧ q = r) ∨
    ∃ h' l u i2 r2 i4 r4, h = h' + 1 ∧ nx s i = 40 ∧ idR s h' (i + 1) r = .ok l i2 r2 ∧ nx s i2 = 44 ∧ idR s h' (i2 + 1) r2 = .ok u i4 r4 ∧ nx s i4 = 41 ∧ t = .pair l u ∧ j = i4 + 1 ∧
      q = (if sameB l u = true then min r4 i else r4) := by
  by_cases c0 : nx s i = 48
  · rw [idR_zero h c0] at e
    obtain ⟨rfl, rfl, rfl⟩ := Rs.ok_inj e
    exact Or.inl ⟨c0, rfl, rfl, rfl⟩
  · by_cases c1 : nx s i = 49
    · rw [idR_one h c1] at e
      obtain ⟨rfl, rfl, rfl⟩ := Rs.ok_inj e
      exact Or.inr (Or.inl ⟨c1, rfl, rfl, rfl⟩)
    · right; right
      cases h with
      | zero => rw [idR_deep c0 c1] at e; exact (Rs.bad_ok e).elim
      | succ h =>
        by_cases c2 : nx s i = 40
        · cases f1 : idR s h (i + 1) r using Rs.cs with
          | bad k => rw [idR_bad1 c2 f1] at e; exact (Rs.bad_ok e).elim
          | ok l i2 r2 =>
            by_cases g1 : nx s i2 = 44
            · cases f2 : idR s h (i2 + 1) r2 using Rs.cs with
              | bad k => rw [idR_bad3 c2 f1 g1 f2] at e; exact (Rs.bad_ok e).elim
              | ok u i4 r4 =>
                by_cases g2 : nx s i4 = 41
                · rw [idR_pair c2 f1 g1 f2 g2] at e
                  obtain ⟨rfl, rfl, rfl⟩ := Rs.ok_inj e
                  exact ⟨h, l, u, i2, r2, i4, r4, rfl, c2, f1, g1, f2, g2, rfl, rfl, rfl⟩
                · rw [idR_bad4 c2 f1 g1 f2 g2] at e; exact (Rs.bad_ok e).elim
            · rw [idR_bad2 c2 f1 g1] at e; exact (Rs.bad_ok e).elim
        · rw [idR_bad0 c0 c1 c2] at e; exact (Rs.bad_ok e).elim

/-- What an EV that was read is made of. -/
theorem evR_inv (s : ByteArray) (h base i r : Nat) (t : Tr Nat) (n j q : Nat) (e : evR s h base i r = .ok (t, n) j q) :
    (nx s i ≠ 40 ∧ numR s i = .ok n j ∧ t = .leaf (base + n) ∧ q = r) ∨
    ∃ h' i1 l ln u un i2 r2 i4 r4, h = h' + 1 ∧ nx s i = 40 ∧ numR s (i + 1) = .ok n i1 ∧ nx s i1 = 44 ∧ evR s h' (base + n) (i1 + 1) r = .ok (l, ln) i2 r2 ∧ nx s i2 = 44 ∧
      evR s h' (base + n) (i2 + 1) r2 = .ok (u, un) i4 r4 ∧ nx s i4 = 41 ∧ t = .pair l u ∧ j = i4 + 1 ∧ q = (if (decide (0 < ln) && decide (0 < un) || sameI l u) = true then min r4 i else r4) := by
  by_cases c0 : nx s i = 40
  · right
    cases h with
    | zero => rw [evR_deep c0] at e; exact (Rs.bad_ok e).elim
    | succ h =>
      cases f : numR s (i + 1) using Nm.cs with
      | bad k => rw [evR_bad0 c0 f] at e; exact (Rs.bad_ok e).elim
      | ok m i1 =>
        by_cases g0 : nx s i1 = 44
        · cases f1 : evR s h (base + m) (i1 + 1) r using Rs.cs with
          | bad k => rw [evR_bad2 c0 f g0 f1] at e; exact (Rs.bad_ok e).elim
          | ok o i2 r2 =>
            obtain ⟨l, ln⟩ := o
            by_cases g1 : nx s i2 = 44
            · cases f2 : evR s h (base + m) (i2 + 1) r2 using Rs.cs with
              | bad k => rw [evR_bad4 c0 f g0 f1 g1 f2] at e; exact (Rs.bad_ok e).elim
              | ok o i4 r4 =>
                obtain ⟨u, un⟩ := o
                by_cases g2 : nx s i4 = 41
                · rw [evR_pair c0 f g0 f1 g1 f2 g2] at e
                  obtain ⟨e1, rfl, rfl⟩ := Rs.ok_inj e
                  injection e1 with e1 e2
                  subst e1 e2
                  exact ⟨h, i1, l, ln, u, un, i2, r2, i4, r4, rfl, c0, rfl, g0, f1, g1, f2, g2, rfl, rfl, rfl⟩
                · rw [evR_bad5 c0 f g0 f1 g1 f2 g2] at e; exact (Rs.bad_ok e).elim
            · rw [evR_bad3 c0 f g0 f1 g1] at e; exact (Rs.bad_ok e).elim
        · rw [evR_bad1 c0 f g0] at e; exact (Rs.bad_ok e).elim
  · left
    cases f : numR s i using Nm.cs with
    | bad k => rw [evR_numbad h c0 f] at e; exact (Rs.bad_ok e).elim
    | ok m i1 =>
      rw [evR_num h c0 f] at e
      obtain ⟨e1, rfl, rfl⟩ := Rs.ok_inj e
      injection e1 with e1 e2
      subst e1 e2
      exact ⟨c0, rfl, rfl, rfl⟩

theorem idR_le (s : ByteArray) : ∀ (h i r : Nat) (t : Tr Bool) (j q : Nat), idR s h i r = .ok t j q → i < j ∧ j ≤ s.size := by
  intro h
  induction h with
  | zero =>
    intro i r t j q e
    rcases idR_inv s 0 i r t j q e with ⟨c, _, rfl, _⟩ | ⟨c, _, rfl, _⟩ | ⟨h', _, _, _, _, _, _, hh, _⟩
    · have := lt_of_nx s i (by omega); omega
    · have := lt_of_nx s i (by omega); omega
    · omega
  | succ h ih =>
    intro i r t j q e
    rcases idR_inv s (h + 1) i r t j q e with ⟨c, _, rfl, _⟩ | ⟨c, _, rfl, _⟩ | ⟨h', l, u, i2, r2, i4, r4, hh, c, f1, g1, f2, g2, _, rfl, _⟩
    · have := lt_of_nx s i (by omega); omega
    · have := lt_of_nx s i (by omega); omega
    · obtain rfl : h' = h := by omega
      have a1 := ih _ _ _ _ _ f1
      have a2 := ih _ _ _ _ _ f2
      have := lt_of_nx s i4 (by omega)
      omega

end Go.Proofs.YtoebmfhgaalcdaaGreatDoor

namespace Go.Proofs.YtoebmfhgaalcdaaGreatDoor
open Go.RowKit

set_option maxHeartbeats 400000 in
theorem rdigit_any (s : ByteArray) (i : Nat) (w : World) :
    Calls Tryz.prog 140 #[.string s, .int .i64 i] w fun e w' => e = .returned (.bool (isDig (nx s i))) ∧ w' = w := by
  by_cases h : i < s.size
  · have e := nx_in s i h
    by_cases h1 : 48 ≤ nx s i
    · have d1 : (48 : Int) ≤ (s[i].toNat : Int) := by omega
      by_cases h2 : nx s i ≤ 57
      · have d2 : (s[i].toNat : Int) ≤ 57 := by omega
        have hg : isDig (nx s i) = true := (isDig_iff _).2 ⟨h1, h2⟩
        rw [hg]
        clear hg e h1 h2
        go_enter Tryz.func140, Tryz.ntmps140
        go_wp2_with fail
        go_ret
        exact ⟨rfl, rfl⟩
      · have d2 : ¬ (s[i].toNat : Int) ≤ 57 := by omega
        have hg : isDig (nx s i) = false := (isDig_no _).2 (by omega)
        rw [hg]
        clear hg e h1 h2
        go_enter Tryz.func140, Tryz.ntmps140
        go_wp2_with fail
        go_ret
        exact ⟨rfl, rfl⟩
    · have d1 : ¬ (48 : Int) ≤ (s[i].toNat : Int) := by omega
      have hg : isDig (nx s i) = false := (isDig_no _).2 (by omega)
      rw [hg]
      clear hg e h1
      go_enter Tryz.func140, Tryz.ntmps140
      go_wp2_with fail
      go_ret
      exact ⟨rfl, rfl⟩
  · have hg : isDig (nx s i) = false := by
      unfold nx
      rw [List.getD_eq_getElem?_getD, List.getElem?_eq_none (by simpa using h)]; rfl
    rw [hg]
    clear hg
    go_enter Tryz.func140, Tryz.ntmps140
    go_wp2_with fail
    go_ret
    exact ⟨rfl, rfl⟩

/-- What a call of number answers. -/
def numRes : Nm → Value
  | ⟨.inl (n, j)⟩ => .tuple #[.int .i64 n, .int .i64 j, .int .i64 (-1)]
  | ⟨.inr j⟩ => .tuple #[.int .i64 0, .int .i64 0, .int .i64 j]

set_option maxHeartbeats 400000 in
theorem number_none (s : ByteArray) (i : Nat) (w : World) (hg : isDig (nx s i) = false) :
    Calls Tryz.prog 124 #[.string s, .int .i64 i] w fun e w' => e = .returned (numRes (.bad i)) ∧ w' = w := by
  have D := hide (fun w1 => rdigit_any s i w1)
  rw [hg] at D
  clear hg
  go_enter Tryz.func124, Tryz.ntmps124
  go_wp2_with fail
  refine (unhide D _).mono ?_
  rintro e w1 ⟨rfl, rfl⟩
  go_wp2_with fail
  go_ret3
  exact ⟨rfl, rfl⟩

set_option maxHeartbeats 1000000 in
theorem number_some (s : ByteArray) (i : Nat) (w : World) (hs : s.size ≤ 20000) (hi : i < s.size) (hg : isDig (nx s i) = true) (hz : nx s i ≠ 48) :
    Calls Tryz.prog 124 #[.string s, .int .i64 i] w fun e w' => e = .returned (numRes (numGo s (s.size + 1 - i) i 0)) ∧ w' = w := by
  have D := hide (fun w1 => rdigit_any s i w1)
  rw [hg] at D
  have hz2 : ((s[i].toNat : Int) == 48) = false := by
    rw [nx_in s i hi] at hz
    exact beq_eq_false_iff_ne.2 (by omega)
  have HG := hide hg
  clear hg hz
  go_enter Tryz.func124, Tryz.ntmps124
  go_wp2_with fail
  refine (unhide D _).mono ?_
  rintro e w1 ⟨rfl, rfl⟩
  go_wp2_with fail
  go_loop [7, 8, 9] (fun n j d => ∃ nn jj : Nat, n = .int .i64 nn ∧ j = .int .i64 jj ∧ d = .bool (isDig (nx s jj)) ∧ i ≤ jj ∧ jj ≤ s.size ∧ nn ≤ 1099511627776 ∧ numGo s (s.size + 1 - i) i 0 = numGo s (s.size + 1 - jj) jj nn)
    (fun _ j _ => s.size - (intOf j).toNat)
  case atStart => exact ⟨0, i, rfl, rfl, by rw [unhide HG], by omega, by omega, by omega, rfl⟩
  case round =>
    obtain ⟨n, j, rfl, rfl, rfl, h1, h2, h3, h4⟩ := hrel
    have H4 := hide h4
    clear h4
    cases hg : isDig (nx s j)
    · go_wp2_with fail
      go_ret3
      rw [unhide H4, numGo_end s j n h2 hg]
      exact ⟨rfl, rfl⟩
    · obtain ⟨d1, d2⟩ := (isDig_iff _).1 hg
      have hlt : j < s.size := lt_of_nx s j (by omega)
      have e := nx_in s j hlt
      have d3 : (48 : Int) ≤ (s[j].toNat : Int) := by omega
      have d4 : (s[j].toNat : Int) ≤ 57 := by omega
      have N := hide (fun w1 => rdigit_any s (j + 1) w1)
      by_cases hov : 1099511627776 < 10 * n + (nx s j - 48)
      · have hov2 : (1099511627776 : Int) < 10 * (n : Int) + ((s[j].toNat : Int) - 48) := by omega
        have HF := hide (numGo_bad s j n hlt hg hov)
        have E := hide e
        clear hov e
        go_wp2_with fail
        go_ret3
        rw [unhide H4, unhide HF]
        exact ⟨rfl, rfl⟩
      · have hov2 : ¬ (1099511627776 : Int) < 10 * (n : Int) + ((s[j].toNat : Int) - 48) := by omega
        have HF := hide (numGo_step s j n hlt hg hov)
        have q1 : 10 * n + (nx s j - 48) ≤ 1099511627776 := by omega
        have q2 : ((10 * n + (nx s j - 48) : Nat) : Int) = 10 * (n : Int) + ((s[j].toNat : Int) - 48) := by omega
        have Q := hide (And.intro q1 q2)
        clear hov e q1 q2
        by_cases hij : (i : Int) < (j : Int)
        · go_wp2_with fail
          refine (unhide N _).mono ?_
          rintro e w1 ⟨rfl, rfl⟩
          go_wp2_with fail
          go_round
          case rel =>
            refine ⟨10 * n + (nx s j - 48), j + 1, ?_, by go_num, rfl, by omega, by omega, (unhide Q).1, ?_⟩
            · rw [(unhide Q).2]
            · rw [unhide H4, unhide HF]
          case measure => simp [intOf]; omega
        · go_wp2_with fail
          refine (unhide N _).mono ?_
          rintro e w1 ⟨rfl, rfl⟩
          go_wp2_with fail
          go_round
          case rel =>
            refine ⟨10 * n + (nx s j - 48), j + 1, ?_, by go_num, rfl, by omega, by omega, (unhide Q).1, ?_⟩
            · rw [(unhide Q).2]
            · rw [unhide H4, unhide HF]
          case measure => simp [intOf]; omega

set_option maxHeartbeats 1000000 in
theorem number_nought (s : ByteArray) (i : Nat) (w : World) (hs : s.size ≤ 20000) (hi : i < s.size) (hz : nx s i = 48) :
    Calls Tryz.prog 124 #[.string s, .int .i64 i] w fun e w' => e = .returned (numRes (numF s i)) ∧ w' = w := by
  have D := hide (fun w1 => rdigit_any s i w1)
  rw [show isDig (nx s i) = true by rw [hz]; rfl] at D
  have hz1 := hz
  rw [nx_in s i hi] at hz1
  have hz2 : ((s[i].toNat : Int) == 48) = true := beq_iff_eq.2 (by omega)
  have d3 : (48 : Int) ≤ (s[i].toNat : Int) := by omega
  have d4 : (s[i].toNat : Int) ≤ 48 := by omega
  have N := hide (fun w1 => rdigit_any s (i + 1) w1)
  have HF1 : Hid (isDig (nx s (i + 1)) = false → numF s i = .ok 0 (i + 1)) := by
    intro hg
    unfold numF; rw [if_neg (by rw [hz]; decide), if_pos hz, if_neg (by rw [hg]; decide)]
  have HF2 : Hid (isDig (nx s (i + 1)) = true → numF s i = .bad (i + 1)) := by
    intro hg
    unfold numF; rw [if_neg (by rw [hz]; decide), if_pos hz, if_pos hg]
  clear hz hz1
  go_enter Tryz.func124, Tryz.ntmps124
  go_wp2_with fail
  refine (unhide D _).mono ?_
  rintro e w1 ⟨rfl, rfl⟩
  go_wp2_with fail
  go_loop [7, 8, 9] (fun n j d => n = .int .i64 0 ∧ ((j = .int .i64 i ∧ d = .bool true) ∨ (j = .int .i64 ((i + 1 : Nat) : Int) ∧ d = .bool (isDig (nx s (i + 1)))))) (fun _ j _ => i + 1 - (intOf j).toNat)
  case atStart => exact ⟨rfl, Or.inl ⟨rfl, rfl⟩⟩
  case round =>
    obtain ⟨rfl, ⟨rfl, rfl⟩ | ⟨rfl, rfl⟩⟩ := hrel
    · go_wp2_with fail
      refine (unhide N _).mono ?_
      rintro e w1 ⟨rfl, rfl⟩
      go_wp2_with fail
      go_round
      case rel =>
        refine ⟨?_, Or.inr ⟨by go_num, rfl⟩⟩
        congr 1; omega
      case measure => simp [intOf]
    · cases hg : isDig (nx s (i + 1))
      · have HF := hide ((unhide HF1) hg)
        clear hg
        go_wp2_with fail
        go_ret3
        rw [unhide HF]
        exact ⟨rfl, rfl⟩
      · have HF := hide ((unhide HF2) hg)
        obtain ⟨f1, f2⟩ := (isDig_iff _).1 hg
        have hlt : i + 1 < s.size := lt_of_nx s (i + 1) (by omega)
        rw [nx_in s (i + 1) hlt] at f1 f2
        have f3 : (48 : Int) ≤ (s[i + 1].toNat : Int) := by omega
        have f4 : (s[i + 1].toNat : Int) ≤ 57 := by omega
        clear hg f1 f2
        go_wp2_with fail
        go_ret3
        rw [unhide HF]
        exact ⟨rfl, rfl⟩

/-- number, from any place. -/
theorem number_any (s : ByteArray) (i : Nat) (w : World) (hs : s.size ≤ 20000) :
    Calls Tryz.prog 124 #[.string s, .int .i64 i] w fun e w' => e = .returned (numRes (numF s i)) ∧ w' = w := by
  cases hg : isDig (nx s i)
  · have e : numF s i = .bad i := by unfold numF; rw [if_pos hg]
    rw [e]; exact number_none s i w hg
  · have hlt : i < s.size := lt_of_nx s i (by have := (isDig_iff _).1 hg; omega)
    by_cases hz : nx s i = 48
    · exact number_nought s i w hs hlt hz
    · have e : numF s i = numGo s (s.size + 1 - i) i 0 := by unfold numF; rw [if_neg (by rw [hg]; decide), if_neg hz]
      rw [e]; exact number_some s i w hs hlt hg hz

end Go.Proofs.YtoebmfhgaalcdaaGreatDoor

namespace Go.Proofs.YtoebmfhgaalcdaaGreatDoor
open Go.RowKit

/-- A row of 256 cells lies in block b: which are held, and their numbers. -/
def St (b : Nat) (H : Nat → Bool) (C : Nat → Nat) (w : World) : Prop :=
  ∃ c : Array Value, w.heap[b]? = some (.cells c 121) ∧ c.size = 512 ∧ ∀ i, i < 256 → c[i]? = some (.bool (H i)) ∧ c[256 + i]? = some (.int .i64 (C i : Nat))

theorem St.holds {b : Nat} {H : Nat → Bool} {C : Nat → Nat} {w : World} (h : St b H C w) (i : Nat) (hi : i < 256) : w.cell? ⟨b, i, none⟩ = some (.bool (H i)) := by
  obtain ⟨c, h1, _, h3⟩ := h
  simp only [World.cell?, h1]
  simpa using (h3 i hi).1
theorem St.counts {b : Nat} {H : Nat → Bool} {C : Nat → Nat} {w : World} (h : St b H C w) (i : Nat) (hi : i < 256) : w.cell? ⟨b, 256 + i, none⟩ = some (.int .i64 (C i : Nat)) := by
  obtain ⟨c, h1, _, h3⟩ := h
  simp only [World.cell?, h1]
  simpa using (h3 i hi).2
theorem St.free {b : Nat} {H : Nat → Bool} {C : Nat → Nat} {w : World} (h : St b H C w) (o : Nat) : w.frozen? ⟨b, o, none⟩ = false := by
  obtain ⟨c, h1, _, h3⟩ := h
  simp [World.frozen?, h1]
theorem St.lt {b : Nat} {H : Nat → Bool} {C : Nat → Nat} {w : World} (h : St b H C w) : b < w.heap.size := by
  obtain ⟨c, h1, _⟩ := h; exact lt_of_heap h1

theorem St.congr {b : Nat} {H H' : Nat → Bool} {C C' : Nat → Nat} {w : World} (h : St b H C w) (e1 : ∀ i, i < 256 → H i = H' i) (e2 : ∀ i, i < 256 → C i = C' i) : St b H' C' w := by
  obtain ⟨c, h1, h2, h3⟩ := h
  exact ⟨c, h1, h2, fun i hi => by rw [← e1 i hi, ← e2 i hi]; exact h3 i hi⟩

theorem St.keep {b : Nat} {H : Nat → Bool} {C : Nat → Nat} {w w' : World} (h : St b H C w) (e : w'.heap[b]? = w.heap[b]?) : St b H C w' := by
  obtain ⟨c, h1, h2, h3⟩ := h
  exact ⟨c, e.trans h1, h2, h3⟩

theorem St.setHold {b : Nat} {H : Nat → Bool} {C : Nat → Nat} {w : World} (h : St b H C w) (j : Nat) (hj : j < 256) (v : Bool) : St b (fun i => if i = j then v else H i) C (w.setCell ⟨b, j, none⟩ (.bool v)) := by
  obtain ⟨c, h1, h2, h3⟩ := h
  refine ⟨c.setIfInBounds j (.bool v), ?_, by simpa using h2, fun i hi => ?_⟩
  · simp [World.setCell, Array.getElem?_modify, h1]
  · obtain ⟨g1, g2⟩ := h3 i hi
    rw [Array.getElem?_setIfInBounds, Array.getElem?_setIfInBounds]
    refine ⟨?_, ?_⟩
    · by_cases e : j = i
      · subst e; simp [h2]; omega
      · rw [if_neg e, g1]; simp only; rw [if_neg (show ¬ i = j by omega)]
    · rw [if_neg (by omega), g2]
theorem St.setCount {b : Nat} {H : Nat → Bool} {C : Nat → Nat} {w : World} (h : St b H C w) (j : Nat) (hj : j < 256) (v : Nat) : St b H (fun i => if i = j then v else C i) (w.setCell ⟨b, 256 + j, none⟩ (.int .i64 v)) := by
  obtain ⟨c, h1, h2, h3⟩ := h
  refine ⟨c.setIfInBounds (256 + j) (.int .i64 v), ?_, by simpa using h2, fun i hi => ?_⟩
  · simp [World.setCell, Array.getElem?_modify, h1]
  · obtain ⟨g1, g2⟩ := h3 i hi
    rw [Array.getElem?_setIfInBounds, Array.getElem?_setIfInBounds]
    refine ⟨?_, ?_⟩
    · rw [if_neg (by omega), g1]
    · by_cases e : j = i
      · subst e; simp [h2]; omega
      · rw [if_neg (by omega), g2]; simp only; rw [if_neg (show ¬ i = j by omega)]

theorem heap_new_r (w : World) (o : Obj) : (w.alloc o).heap[w.heap.size]? = some o := by
  show (w.heap.push o)[w.heap.size]? = _
  simp

theorem zero_cells : Tryz.zeroCells121 = Array.replicate 256 (.bool false) ++ Array.replicate 256 (.int .i64 0) := by kernel_rfl

theorem St.zero (w : World) : St w.heap.size (fun _ => false) (fun _ => 0) (w.alloc (.cells Tryz.zeroCells121 121)) := by
  refine ⟨_, heap_new_r w _, by rw [zero_cells]; simp, fun i hi => ?_⟩
  rw [zero_cells]
  refine ⟨?_, ?_⟩
  · rw [Array.getElem?_append_left (by simpa using hi)]; simp [hi]
  · rw [Array.getElem?_append_right (by simp)]; simp [hi]

end Go.Proofs.YtoebmfhgaalcdaaGreatDoor

namespace Go.Proofs.YtoebmfhgaalcdaaGreatDoor
open Go.RowKit

/-- What a tree says of its cells, n of them. -/
def cellB : Tr Bool → Nat → Nat → Bool
  | ⟨.inl a⟩, _, _ => a
  | ⟨.inr (l, r)⟩, n, i => if i < n / 2 then cellB l (n / 2) i else cellB r (n / 2) (i - n / 2)
def cellI : Tr Nat → Nat → Nat → Nat
  | ⟨.inl a⟩, _, _ => a
  | ⟨.inr (l, r)⟩, n, i => if i < n / 2 then cellI l (n / 2) i else cellI r (n / 2) (i - n / 2)

/-- Some cells are laid anew. -/
def lay {α : Type} (f : Nat → α) (from_ n : Nat) (g : Nat → α) : Nat → α := fun i => if from_ ≤ i ∧ i < from_ + n then f (i - from_) else g i

theorem lay_none {α : Type} (f : Nat → α) (a : Nat) (g : Nat → α) (i : Nat) : lay f a 0 g i = g i := by unfold lay; rw [if_neg (by omega)]
theorem lay_in {α : Type} (f : Nat → α) (a n : Nat) (g : Nat → α) (i : Nat) (h1 : a ≤ i) (h2 : i < a + n) : lay f a n g i = f (i - a) := by unfold lay; rw [if_pos ⟨h1, h2⟩]
theorem lay_out {α : Type} (f : Nat → α) (a n : Nat) (g : Nat → α) (i : Nat) (h : ¬ (a ≤ i ∧ i < a + n)) : lay f a n g i = g i := by unfold lay; rw [if_neg h]
theorem lay_snoc {α : Type} (v : α) (a n : Nat) (g : Nat → α) (i : Nat) : (if i = a + n then v else lay (fun _ => v) a n g i) = lay (fun _ => v) a (n + 1) g i := by
  unfold lay
  by_cases h1 : i = a + n
  · rw [if_pos h1, if_pos (by omega)]
  · rw [if_neg h1]
    by_cases h2 : a ≤ i ∧ i < a + n
    · rw [if_pos h2, if_pos (by omega)]
    · rw [if_neg h2, if_neg (by omega)]

set_option maxRecDepth 100000 in
set_option maxHeartbeats 1000000 in
theorem rid_leaf (b : Nat) (s : ByteArray) (i from_ n : Nat) (H : Nat → Bool) (C : Nat → Nat) (w : World) (h : St b H C w) (hs : s.size ≤ 20000) (hi : i < s.size) (hc : nx s i ≠ 40) (hn : from_ + n ≤ 256) :
    Calls Tryz.prog 77 #[.pointer (some ⟨b, 0, none⟩), .string s, .int .i64 i, .int .i64 from_, .int .i64 n] w fun e w' =>
      e = .returned (.int .i64 ((i + 1 : Nat) : Int)) ∧ St b (lay (fun _ => nx s i == 49) from_ n H) C w' ∧ Apart b w w' := by
  have e0 := nx_in s i hi
  have hne : ((s[i].toNat : Int) == 40) = false := beq_eq_false_iff_ne.2 (by omega)
  have eb : ((s[i].toNat : Int) == 49) = (nx s i == 49) := by rw [e0, Bool.eq_iff_iff]; simp only [beq_iff_eq]; omega
  have hi2 : (i : Int) < (s.size : Int) := by omega
  generalize (nx s i == 49) = v at *
  clear hc e0
  go_enter Tryz.func77, Tryz.ntmps77
  go_wp2_with fail
  go_loopg [11] n (fun k x wr => ∃ j : Nat, j + k = n ∧ x = .int .i64 ((from_ + j : Nat) : Int) ∧ St b (lay (fun _ => v) from_ j H) C wr ∧ Apart b w wr)
  case atStart => exact ⟨0, by omega, rfl, h.congr (fun i _ => (lay_none _ _ _ _).symm) (fun _ _ => rfl), Apart.refl _ _⟩
  case round =>
    obtain ⟨j, hj, rfl, hst, ha⟩ := hrel
    by_cases hlt : j < n
    · have hc := hst.holds (from_ + j) (by omega)
      have hf := hst.free
      have l1 : ((from_ + j : Nat) : Int) < (from_ : Int) + (n : Int) := by omega
      have l2 : ((from_ + j : Nat) : Int) < 256 := by omega
      have S2 := hide ((hst.setHold (from_ + j) (by omega) v).congr (fun i _ => lay_snoc v from_ j H i) (fun _ _ => rfl))
      have HJ := hide hj
      clear hj h hst
      go_wp2_with fail
      go_region
      all_goals
        go_wp2_with fail
        go_roundg (gk - 1)
        case measure => have := unhide HJ; omega
        case rel =>
          have := unhide HJ
          refine ⟨j + 1, by omega, by go_num, unhide S2, (ha.setCell rfl _).trans (Apart.drewN b _ 1)⟩
    · have hjn : j = n := by omega
      subst hjn
      have l1 : ¬ ((from_ + j : Nat) : Int) < (from_ : Int) + (j : Int) := by omega
      clear hj hlt h
      go_wp2_with fail
      go_ret
      exact ⟨rfl, hst, ha⟩

theorem two_pow_half (h : Nat) : (2 ^ (h + 1)) / 2 = 2 ^ h := by rw [Nat.pow_succ]; omega

theorem lay_two (l u : Tr Bool) (h a : Nat) (H : Nat → Bool) (i : Nat) :
    lay (cellB u (2 ^ h)) (a + 2 ^ h) (2 ^ h) (lay (cellB l (2 ^ h)) a (2 ^ h) H) i = lay (cellB (.pair l u) (2 ^ (h + 1))) a (2 ^ (h + 1)) H i := by
  have e : 2 ^ (h + 1) = 2 ^ h + 2 ^ h := by rw [Nat.pow_succ]; omega
  by_cases g1 : a ≤ i ∧ i < a + 2 ^ h
  · rw [lay_out _ _ _ _ _ (by omega), lay_in _ _ _ _ _ g1.1 g1.2, lay_in _ _ _ _ _ g1.1 (by omega)]
    show _ = if i - a < 2 ^ (h + 1) / 2 then _ else _
    rw [two_pow_half, if_pos (by omega)]
  · by_cases g2 : a + 2 ^ h ≤ i ∧ i < a + 2 ^ h + 2 ^ h
    · rw [lay_in _ _ _ _ _ g2.1 g2.2, lay_in _ _ _ _ _ (by omega) (by omega)]
      show _ = if i - a < 2 ^ (h + 1) / 2 then _ else _
      rw [two_pow_half, if_neg (by omega)]
      congr 1; omega
    · rw [lay_out _ _ _ _ _ g2, lay_out _ _ _ _ _ g1, lay_out _ _ _ _ _ (by omega)]

set_option maxRecDepth 100000 in
set_option maxHeartbeats 1000000 in
theorem rid_pair (b : Nat) (s : ByteArray) (i i2 i4 from_ n : Nat) (H1 H2 H3 : Nat → Bool) (C : Nat → Nat) (w : World) (h : St b H1 C w) (hi : i < s.size) (hi2 : i2 < s.size) (hi4 : i4 < s.size) (hs : s.size ≤ 20000) (hc : nx s i = 40) (hn : from_ + n ≤ 256)
    (I1 : Hid (∀ w1, St b H1 C w1 → Calls Tryz.prog 77 #[.pointer (some ⟨b, 0, none⟩), .string s, .int .i64 ((i + 1 : Nat) : Int), .int .i64 from_, .int .i64 ((n / 2 : Nat) : Int)] w1 fun e w' => e = .returned (.int .i64 (i2 : Nat)) ∧ St b H2 C w' ∧ Apart b w1 w'))
    (I2 : Hid (∀ w1, St b H2 C w1 → Calls Tryz.prog 77 #[.pointer (some ⟨b, 0, none⟩), .string s, .int .i64 ((i2 + 1 : Nat) : Int), .int .i64 ((from_ + n / 2 : Nat) : Int), .int .i64 ((n / 2 : Nat) : Int)] w1 fun e w' => e = .returned (.int .i64 (i4 : Nat)) ∧ St b H3 C w' ∧ Apart b w1 w')) :
    Calls Tryz.prog 77 #[.pointer (some ⟨b, 0, none⟩), .string s, .int .i64 i, .int .i64 from_, .int .i64 n] w fun e w' =>
      e = .returned (.int .i64 ((i4 + 1 : Nat) : Int)) ∧ St b H3 C w' ∧ Apart b w w' := by
  have e0 := nx_in s i hi
  have hne : ((s[i].toNat : Int) == 40) = true := beq_iff_eq.2 (by omega)
  clear hc e0
  go_enter Tryz.func77, Tryz.ntmps77
  go_wp2_with fail
  refine (unhide I1 _ h).mono ?_
  rintro e w1 ⟨rfl, h1, a1⟩
  go_wp2_with fail
  refine (unhide I2 _ h1).mono ?_
  rintro e w2 ⟨rfl, h2, a2⟩
  go_wp2_with fail
  go_ret
  exact ⟨rfl, h2, a1.trans a2⟩

/-- The document's cells of an ID that can be read. -/
theorem rid_any (b : Nat) (s : ByteArray) (hs : s.size ≤ 20000) : ∀ (h i r : Nat) (t : Tr Bool) (j q from_ : Nat) (H : Nat → Bool) (C : Nat → Nat) (w : World), idR s h i r = .ok t j q → St b H C w → from_ + 2 ^ h ≤ 256 →
    Calls Tryz.prog 77 #[.pointer (some ⟨b, 0, none⟩), .string s, .int .i64 i, .int .i64 from_, .int .i64 ((2 ^ h : Nat) : Int)] w fun e w' =>
      e = .returned (.int .i64 (j : Nat)) ∧ St b (lay (cellB t (2 ^ h)) from_ (2 ^ h) H) C w' ∧ Apart b w w' := by
  intro h
  induction h with
  | zero =>
    intro i r t j q from_ H C w e hst hn
    rcases idR_inv s 0 i r t j q e with ⟨c, rfl, rfl, _⟩ | ⟨c, rfl, rfl, _⟩ | ⟨h', _, _, _, _, _, _, hh, _⟩
    · have L := rid_leaf b s i from_ (2 ^ 0) H C w hst hs (lt_of_nx s i (by omega)) (by omega) hn
      rw [c] at L; exact L
    · have L := rid_leaf b s i from_ (2 ^ 0) H C w hst hs (lt_of_nx s i (by omega)) (by omega) hn
      rw [c] at L; exact L
    · omega
  | succ h ih =>
    intro i r t j q from_ H C w e hst hn
    rcases idR_inv s (h + 1) i r t j q e with ⟨c, rfl, rfl, _⟩ | ⟨c, rfl, rfl, _⟩ | ⟨h', l, u, i2, r2, i4, r4, hh, c, f1, g1, f2, g2, rfl, rfl, _⟩
    · have L := rid_leaf b s i from_ (2 ^ (h + 1)) H C w hst hs (lt_of_nx s i (by omega)) (by omega) hn
      rw [c] at L; exact L
    · have L := rid_leaf b s i from_ (2 ^ (h + 1)) H C w hst hs (lt_of_nx s i (by omega)) (by omega) hn
      rw [c] at L; exact L
    · obtain rfl : h' = h := by omega
      have e2 : 2 ^ (h' + 1) = 2 ^ h' + 2 ^ h' := by rw [Nat.pow_succ]; omega
      have pp : 0 < 2 ^ h' := Nat.two_pow_pos h'
      have P := rid_pair b s i i2 i4 from_ (2 ^ (h' + 1)) H (lay (cellB l (2 ^ h')) from_ (2 ^ h') H) (lay (cellB u (2 ^ h')) (from_ + 2 ^ h') (2 ^ h') (lay (cellB l (2 ^ h')) from_ (2 ^ h') H)) C w hst
        (lt_of_nx s i (by omega)) (lt_of_nx s i2 (by omega)) (lt_of_nx s i4 (by omega)) hs c hn
        (hide (by rw [two_pow_half]; exact fun w1 s1 => ih _ _ _ _ _ from_ H C w1 f1 s1 (by omega)))
        (hide (by rw [two_pow_half]; exact fun w1 s1 => ih _ _ _ _ _ (from_ + 2 ^ h') _ C w1 f2 s1 (by omega)))
      refine P.mono ?_
      rintro e w' ⟨rfl, s1, a1⟩
      exact ⟨rfl, s1.congr (fun i _ => lay_two l u h' from_ H i) (fun _ _ => rfl), a1⟩

end Go.Proofs.YtoebmfhgaalcdaaGreatDoor

namespace Go.Proofs.YtoebmfhgaalcdaaGreatDoor
open Go.RowKit

theorem numF_of {s : ByteArray} {i n j : Nat} (h : numR s i = .ok n j) (hd : isDig (nx s j) = false) : numF s i = .ok n j := by
  unfold numR at h
  unfold numF
  by_cases g : isDig (nx s i) = false
  · rw [if_pos g] at h; exact (Nm.bad_ok h).elim
  · rw [if_neg g] at h ⊢
    by_cases z : nx s i = 48
    · rw [if_pos z] at h ⊢
      obtain ⟨rfl, rfl⟩ := Nm.ok_inj h
      rw [if_neg (by rw [hd]; decide)]
    · rw [if_neg z] at h ⊢; exact h

set_option maxRecDepth 100000 in
set_option maxHeartbeats 1000000 in
theorem rev_leaf (b : Nat) (s : ByteArray) (i j from_ n base v : Nat) (H : Nat → Bool) (C : Nat → Nat) (w : World) (h : St b H C w) (hs : s.size ≤ 20000) (hi : i < s.size) (hc : nx s i ≠ 40) (hn : from_ + n ≤ 256)
    (hb : base ≤ 109951162777600) (hv : v ≤ 1099511627776) (hC : ∀ k, from_ ≤ k → k < from_ + n → C k = base) (hf : numF s i = .ok v j) :
    Calls Tryz.prog 78 #[.pointer (some ⟨b, 0, none⟩), .string s, .int .i64 i, .int .i64 from_, .int .i64 n] w fun e w' =>
      e = .returned (.int .i64 (j : Nat)) ∧ St b H (lay (fun _ => base + v) from_ n C) w' ∧ Apart b w w' := by
  have e0 := nx_in s i hi
  have hne : ((s[i].toNat : Int) == 40) = false := beq_eq_false_iff_ne.2 (by omega)
  have N := hide (fun w1 => number_any s i w1 hs)
  rw [hf] at N
  have HC := hide hC
  clear hc e0 hC hf
  go_enter Tryz.func78, Tryz.ntmps78
  go_wp2_with fail
  refine (unhide N _).mono ?_
  rintro e w1 ⟨rfl, rfl⟩
  simp only [numRes]
  go_wp2_with fail
  go_loopg [15] n (fun k x wr => ∃ m : Nat, m + k = n ∧ x = .int .i64 ((from_ + m : Nat) : Int) ∧ St b H (lay (fun _ => base + v) from_ m C) wr ∧ Apart b w1 wr)
  case atStart => exact ⟨0, by omega, rfl, h.congr (fun _ _ => rfl) (fun i _ => (lay_none _ _ _ _).symm), Apart.refl _ _⟩
  case round =>
    obtain ⟨m, hm, rfl, hst, ha⟩ := hrel
    by_cases hlt : m < n
    · have hc := hst.counts (from_ + m) (by omega)
      rw [lay_out _ _ _ _ _ (by omega), (unhide HC) (from_ + m) (by omega) (by omega)] at hc
      have hfz := hst.free
      have l1 : ((from_ + m : Nat) : Int) < (from_ : Int) + (n : Int) := by omega
      have l2 : ((from_ + m : Nat) : Int) < 256 := by omega
      have S2 := hide ((hst.setCount (from_ + m) (by omega) (base + v)).congr (fun _ _ => rfl) (fun i _ => lay_snoc (base + v) from_ m C i))
      have HJ := hide hm
      have ew : IntKind.i64.wrap ((base : Int) + (v : Int)) = (base : Int) + (v : Int) := by rw [IntKind.wrap_i64]; omega
      clear hm h hst
      go_wp2_with fail
      go_region
      all_goals
        go_wp2_with fail
        go_roundg (gk - 1)
        case measure => have := unhide HJ; omega
        case rel =>
          have := unhide HJ
          refine ⟨m + 1, by omega, by go_num, unhide S2, (ha.setCell rfl _).trans (Apart.drewN b _ 1)⟩
    · have hjn : m = n := by omega
      subst hjn
      have l1 : ¬ ((from_ + m : Nat) : Int) < (from_ : Int) + (m : Int) := by omega
      clear hm hlt h
      go_wp2_with fail
      go_ret
      exact ⟨rfl, hst, ha⟩

theorem lay_twoI (l u : Tr Nat) (h a c : Nat) (C : Nat → Nat) (i : Nat) :
    lay (cellI u (2 ^ h)) (a + 2 ^ h) (2 ^ h) (lay (cellI l (2 ^ h)) a (2 ^ h) (lay (fun _ => c) a (2 ^ (h + 1)) C)) i = lay (cellI (.pair l u) (2 ^ (h + 1))) a (2 ^ (h + 1)) C i := by
  have e : 2 ^ (h + 1) = 2 ^ h + 2 ^ h := by rw [Nat.pow_succ]; omega
  by_cases g1 : a ≤ i ∧ i < a + 2 ^ h
  · rw [lay_out _ _ _ _ _ (by omega), lay_in _ _ _ _ _ g1.1 g1.2, lay_in (cellI (.pair l u) (2 ^ (h + 1))) _ _ _ _ g1.1 (by omega)]
    show _ = if i - a < 2 ^ (h + 1) / 2 then _ else _
    rw [two_pow_half, if_pos (by omega)]
  · by_cases g2 : a + 2 ^ h ≤ i ∧ i < a + 2 ^ h + 2 ^ h
    · rw [lay_in _ _ _ _ _ g2.1 g2.2, lay_in (cellI (.pair l u) (2 ^ (h + 1))) _ _ _ _ (by omega) (by omega)]
      show _ = if i - a < 2 ^ (h + 1) / 2 then _ else _
      rw [two_pow_half, if_neg (by omega)]
      congr 1; omega
    · rw [lay_out _ _ _ _ _ g2, lay_out _ _ _ _ _ g1, lay_out _ _ _ _ _ (by omega), lay_out _ _ _ _ _ (by omega)]

set_option maxRecDepth 100000 in
set_option maxHeartbeats 2000000 in
theorem rev_pair (b : Nat) (s : ByteArray) (i i1 i2 i4 from_ n base v : Nat) (H : Nat → Bool) (C C2 C3 : Nat → Nat) (w : World) (h : St b H C w) (hs : s.size ≤ 20000) (hi : i < s.size) (hi1 : i1 < s.size) (hi2 : i2 < s.size) (hi4 : i4 < s.size)
    (hc : nx s i = 40) (hn : from_ + n ≤ 256) (hb : base ≤ 109951162777600) (hv : v ≤ 1099511627776) (hC : ∀ k, from_ ≤ k → k < from_ + n → C k = base) (hf : numF s (i + 1) = .ok v i1)
    (I1 : Hid (∀ w1, St b H (lay (fun _ => base + v) from_ n C) w1 → Calls Tryz.prog 78 #[.pointer (some ⟨b, 0, none⟩), .string s, .int .i64 ((i1 + 1 : Nat) : Int), .int .i64 from_, .int .i64 ((n / 2 : Nat) : Int)] w1 fun e w' => e = .returned (.int .i64 (i2 : Nat)) ∧ St b H C2 w' ∧ Apart b w1 w'))
    (I2 : Hid (∀ w1, St b H C2 w1 → Calls Tryz.prog 78 #[.pointer (some ⟨b, 0, none⟩), .string s, .int .i64 ((i2 + 1 : Nat) : Int), .int .i64 ((from_ + n / 2 : Nat) : Int), .int .i64 ((n / 2 : Nat) : Int)] w1 fun e w' => e = .returned (.int .i64 (i4 : Nat)) ∧ St b H C3 w' ∧ Apart b w1 w')) :
    Calls Tryz.prog 78 #[.pointer (some ⟨b, 0, none⟩), .string s, .int .i64 i, .int .i64 from_, .int .i64 n] w fun e w' =>
      e = .returned (.int .i64 ((i4 + 1 : Nat) : Int)) ∧ St b H C3 w' ∧ Apart b w w' := by
  have e0 := nx_in s i hi
  have hne : ((s[i].toNat : Int) == 40) = true := beq_iff_eq.2 (by omega)
  have N := hide (fun w1 => number_any s (i + 1) w1 hs)
  rw [hf] at N
  have HC := hide hC
  clear hc e0 hC hf
  go_enter Tryz.func78, Tryz.ntmps78
  go_wp2_with fail
  refine (unhide N _).mono ?_
  rintro e w1 ⟨rfl, rfl⟩
  simp only [numRes]
  go_wp2_with fail
  go_loopg [15] n (fun k x wr => ∃ m : Nat, m + k = n ∧ x = .int .i64 ((from_ + m : Nat) : Int) ∧ St b H (lay (fun _ => base + v) from_ m C) wr ∧ Apart b w1 wr)
  case atStart => exact ⟨0, by omega, rfl, h.congr (fun _ _ => rfl) (fun i _ => (lay_none _ _ _ _).symm), Apart.refl _ _⟩
  case round =>
    obtain ⟨m, hm, rfl, hst, ha⟩ := hrel
    by_cases hlt : m < n
    · have hc := hst.counts (from_ + m) (by omega)
      rw [lay_out _ _ _ _ _ (by omega), (unhide HC) (from_ + m) (by omega) (by omega)] at hc
      have hfz := hst.free
      have l1 : ((from_ + m : Nat) : Int) < (from_ : Int) + (n : Int) := by omega
      have l2 : ((from_ + m : Nat) : Int) < 256 := by omega
      have S2 := hide ((hst.setCount (from_ + m) (by omega) (base + v)).congr (fun _ _ => rfl) (fun i _ => lay_snoc (base + v) from_ m C i))
      have HJ := hide hm
      have ew : IntKind.i64.wrap ((base : Int) + (v : Int)) = (base : Int) + (v : Int) := by rw [IntKind.wrap_i64]; omega
      clear hm h hst
      go_wp2_with fail
      go_region
      all_goals
        go_wp2_with fail
        go_roundg (gk - 1)
        case measure => have := unhide HJ; omega
        case rel =>
          have := unhide HJ
          refine ⟨m + 1, by omega, by go_num, unhide S2, (ha.setCell rfl _).trans (Apart.drewN b _ 1)⟩
    · have hjn : m = n := by omega
      subst hjn
      have l1 : ¬ ((from_ + m : Nat) : Int) < (from_ : Int) + (m : Int) := by omega
      clear hm hlt h
      go_wp2_with fail
      refine (unhide I1 _ hst).mono ?_
      rintro e w2 ⟨rfl, h2, a2⟩
      go_wp2_with fail
      refine (unhide I2 _ h2).mono ?_
      rintro e w3 ⟨rfl, h3, a3⟩
      go_wp2_with fail
      go_ret
      exact ⟨rfl, h3, (ha.trans a2).trans a3⟩

/-- The document's numbers of an EV that can be read. -/
theorem rev_any (b : Nat) (s : ByteArray) (hs : s.size ≤ 20000) : ∀ (h base i r : Nat) (t : Tr Nat) (n j q from_ : Nat) (H : Nat → Bool) (C : Nat → Nat) (w : World), h ≤ 8 → base ≤ (99 - h) * 1099511627776 → evR s h base i r = .ok (t, n) j q → isDig (nx s j) = false →
    (∀ k, from_ ≤ k → k < from_ + 2 ^ h → C k = base) → St b H C w → from_ + 2 ^ h ≤ 256 →
    Calls Tryz.prog 78 #[.pointer (some ⟨b, 0, none⟩), .string s, .int .i64 i, .int .i64 from_, .int .i64 ((2 ^ h : Nat) : Int)] w fun e w' =>
      e = .returned (.int .i64 (j : Nat)) ∧ St b H (lay (cellI t (2 ^ h)) from_ (2 ^ h) C) w' ∧ Apart b w w' := by
  intro h
  induction h with
  | zero =>
    intro base i r t n j q from_ H C w h8 hb e hd hC hst hn
    rcases evR_inv s 0 base i r t n j q e with ⟨c, f, rfl, _⟩ | ⟨h', _, _, _, _, _, _, _, _, _, hh, _⟩
    · have hl : i < s.size := by
        apply lt_of_nx; intro h0
        unfold numR at f; rw [h0] at f; exact (Nm.bad_ok f).elim
      exact rev_leaf b s i j from_ (2 ^ 0) base n H C w hst hs hl c hn (by omega) (numR_ok (by omega) f).1 hC (numF_of f hd)
    · omega
  | succ h ih =>
    intro base i r t n j q from_ H C w h8 hb e hd hC hst hn
    rcases evR_inv s (h + 1) base i r t n j q e with ⟨c, f, rfl, _⟩ | ⟨h', i1, l, ln, u, un, i2, r2, i4, r4, hh, c, f, g0, f1, g1, f2, g2, rfl, rfl, _⟩
    · have hl : i < s.size := by
        apply lt_of_nx; intro h0
        unfold numR at f; rw [h0] at f; exact (Nm.bad_ok f).elim
      exact rev_leaf b s i j from_ (2 ^ (h + 1)) base n H C w hst hs hl c hn (by omega) (numR_ok (by omega) f).1 hC (numF_of f hd)
    · obtain rfl : h' = h := by omega
      have e2 : 2 ^ (h' + 1) = 2 ^ h' + 2 ^ h' := by rw [Nat.pow_succ]; omega
      have pp : 0 < 2 ^ h' := Nat.two_pow_pos h'
      have li : i < s.size := lt_of_nx s i (by omega)
      have hv := (numR_ok (by omega) f).1
      have P := rev_pair b s i i1 i2 i4 from_ (2 ^ (h' + 1)) base n H C (lay (cellI l (2 ^ h')) from_ (2 ^ h') (lay (fun _ => base + n) from_ (2 ^ (h' + 1)) C))
        (lay (cellI u (2 ^ h')) (from_ + 2 ^ h') (2 ^ h') (lay (cellI l (2 ^ h')) from_ (2 ^ h') (lay (fun _ => base + n) from_ (2 ^ (h' + 1)) C))) w hst hs li
        (lt_of_nx s i1 (by omega)) (lt_of_nx s i2 (by omega)) (lt_of_nx s i4 (by omega)) c hn (by omega) hv hC (numF_of f (by rw [g0]; rfl))
        (hide (by rw [two_pow_half]; exact fun w1 s1 => ih _ _ _ _ _ _ _ from_ H _ w1 (by omega) (by omega) f1 (by rw [g1]; rfl) (fun k k1 k2 => lay_in _ _ _ _ _ k1 (by omega)) s1 (by omega)))
        (hide (by rw [two_pow_half]; exact fun w1 s1 => ih _ _ _ _ _ _ _ (from_ + 2 ^ h') H _ w1 (by omega) (by omega) f2 (by rw [g2]; rfl) (fun k k1 k2 => by rw [lay_out _ _ _ _ _ (by omega), lay_in _ _ _ _ _ (by omega) (by omega)]) s1 (by omega)))
      refine P.mono ?_
      rintro e w' ⟨rfl, s1, a1⟩
      exact ⟨rfl, s1.congr (fun _ _ => rfl) (fun i _ => lay_twoI l u h' from_ (base + n) C i), a1⟩

end Go.Proofs.YtoebmfhgaalcdaaGreatDoor

namespace Go.Proofs.YtoebmfhgaalcdaaGreatDoor
open Go.RowKit

/-- The greatest of n numbers. -/
def maxTo (f : Nat → Nat) : Nat → Nat
  | 0 => 0
  | n + 1 => max (maxTo f n) (f n)

theorem maxTo_add (f : Nat → Nat) (a : Nat) : ∀ b, maxTo f (a + b) = max (maxTo f a) (maxTo (fun i => f (a + i)) b)
  | 0 => by simp [maxTo]
  | b + 1 => by
    show max (maxTo f (a + b)) (f (a + b)) = max (maxTo f a) (max (maxTo (fun i => f (a + i)) b) (f (a + b)))
    rw [maxTo_add f a b]; omega
theorem maxTo_congr (f g : Nat → Nat) : ∀ n, (∀ i, i < n → f i = g i) → maxTo f n = maxTo g n
  | 0, _ => rfl
  | n + 1, h => by
    show max (maxTo f n) (f n) = max (maxTo g n) (g n)
    rw [maxTo_congr f g n (fun i hi => h i (by omega)), h n (by omega)]
theorem maxTo_const (c : Nat) : ∀ n, 0 < n → maxTo (fun _ => c) n = c
  | 0, h => by omega
  | 1, _ => by simp [maxTo]
  | n + 2, _ => by
    have := maxTo_const c (n + 1) (by omega)
    show max (maxTo (fun _ => c) (n + 1)) c = c
    rw [this]; omega
theorem le_maxTo (f : Nat → Nat) : ∀ (n i : Nat), i < n → f i ≤ maxTo f n
  | 0, i, h => by omega
  | n + 1, i, h => by
    show f i ≤ max (maxTo f n) (f n)
    by_cases g : i = n
    · subst g; omega
    · have := le_maxTo f n i (by omega); omega

/-- How deep a tree is. -/
def Tr.deepN : Tr Nat → Nat
  | ⟨.inl _⟩ => 0
  | ⟨.inr (l, r)⟩ => max l.deepN r.deepN + 1

theorem max_cells : ∀ (t : Tr Nat) (h : Nat), t.deepN ≤ h → maxTo (cellI t (2 ^ h)) (2 ^ h) = highest t
  | ⟨.inl a⟩, h, _ => maxTo_const a _ (Nat.two_pow_pos h)
  | ⟨.inr (l, r)⟩, 0, hd => by simp [Tr.deepN] at hd
  | ⟨.inr (l, r)⟩, h + 1, hd => by
    have hd1 : l.deepN ≤ h := by simp only [Tr.deepN] at hd; omega
    have hd2 : r.deepN ≤ h := by simp only [Tr.deepN] at hd; omega
    have e : 2 ^ (h + 1) = 2 ^ h + 2 ^ h := by rw [Nat.pow_succ]; omega
    rw [e, maxTo_add]
    show _ = max (highest l) (highest r)
    rw [← max_cells l h hd1, ← max_cells r h hd2]
    congr 1
    · apply maxTo_congr
      intro i hi
      show (if i < (2 ^ h + 2 ^ h) / 2 then _ else _) = _
      rw [show (2 ^ h + 2 ^ h) / 2 = 2 ^ h by omega, if_pos hi]
    · apply maxTo_congr
      intro i hi
      show (if 2 ^ h + i < (2 ^ h + 2 ^ h) / 2 then _ else _) = _
      rw [show (2 ^ h + 2 ^ h) / 2 = 2 ^ h by omega, if_neg (by omega)]
      congr 1; omega

theorem evR_deep_le (s : ByteArray) : ∀ (h base i r : Nat) (t : Tr Nat) (n j q : Nat), evR s h base i r = .ok (t, n) j q → t.deepN ≤ h := by
  intro h
  induction h with
  | zero =>
    intro base i r t n j q e
    rcases evR_inv s 0 base i r t n j q e with ⟨_, _, rfl, _⟩ | ⟨h', _, _, _, _, _, _, _, _, _, hh, _⟩
    · exact Nat.le_refl _
    · omega
  | succ h ih =>
    intro base i r t n j q e
    rcases evR_inv s (h + 1) base i r t n j q e with ⟨_, _, rfl, _⟩ | ⟨h', i1, l, ln, u, un, i2, r2, i4, r4, hh, c, f, g0, f1, g1, f2, g2, rfl, rfl, _⟩
    · exact Nat.zero_le _
    · obtain rfl : h' = h := by omega
      have a1 := ih _ _ _ _ _ _ _ f1
      have a2 := ih _ _ _ _ _ _ _ f2
      show max l.deepN u.deepN + 1 ≤ h' + 1
      omega

set_option maxRecDepth 100000 in
set_option maxHeartbeats 1000000 in
theorem most_any (b : Nat) (from_ n : Nat) (H : Nat → Bool) (C : Nat → Nat) (w : World) (h : St b H C w) (hn : from_ + n ≤ 256) (hp : 0 < n) :
    Calls Tryz.prog 79 #[.pointer (some ⟨b, 0, none⟩), .int .i64 from_, .int .i64 n] w fun e w' =>
      e = .returned (.int .i64 (maxTo (fun i => C (from_ + i)) n : Nat)) ∧ w' = w := by
  have c0 := h.counts from_ (by omega)
  have q0 : (from_ : Int) < 256 := by omega
  have HH := hide h
  clear h
  go_enter Tryz.func79, Tryz.ntmps79
  go_wp2_with fail
  go_loop [7, 8] (fun v x => ∃ m : Nat, m ≤ n ∧ x = .int .i64 ((from_ + m : Nat) : Int) ∧ v = .int .i64 ((max (C from_) (maxTo (fun i => C (from_ + i)) m) : Nat) : Int)) (fun _ x => from_ + n - (intOf x).toNat)
  case atStart => exact ⟨0, by omega, rfl, by simp [maxTo]⟩
  case round =>
    obtain ⟨m, hm, rfl, rfl⟩ := hrel
    by_cases hlt : m < n
    · have hc := (unhide HH).counts (from_ + m) (by omega)
      have l1 : ((from_ + m : Nat) : Int) < (from_ : Int) + (n : Int) := by omega
      have l2 : ((from_ + m : Nat) : Int) < 256 := by omega
      have S2 : Hid (max (C from_) (maxTo (fun i => C (from_ + i)) (m + 1)) = max (max (C from_) (maxTo (fun i => C (from_ + i)) m)) (C (from_ + m))) := by
        show max (C from_) (max (maxTo (fun i => C (from_ + i)) m) (C (from_ + m))) = _
        omega
      generalize max (C from_) (maxTo (fun i => C (from_ + i)) m) = v at *
      generalize C (from_ + m) = cv at *
      by_cases hgt : v < cv
      · have g2 : (v : Int) < (cv : Int) := by omega
        go_wp2_with fail
        go_round
        case rel =>
          refine ⟨m + 1, by omega, by go_num, ?_⟩
          rw [unhide S2, show max v cv = cv by omega]
        case measure => simp [intOf]; omega
      · have g2 : ¬ (v : Int) < (cv : Int) := by omega
        go_wp2_with fail
        go_round
        case rel =>
          refine ⟨m + 1, by omega, by go_num, ?_⟩
          rw [unhide S2, show max v cv = v by omega]
        case measure => simp [intOf]; omega
    · have hjn : m = n := by omega
      subst hjn
      have l1 : ¬ ((from_ + m : Nat) : Int) < (from_ : Int) + (m : Int) := by omega
      have E : Hid (max (C from_) (maxTo (fun i => C (from_ + i)) m) = maxTo (fun i => C (from_ + i)) m) := by
        have := le_maxTo (fun i => C (from_ + i)) m 0 hp
        show max _ _ = _
        simp only [Nat.add_zero] at this
        omega
      rw [unhide E]
      generalize hv : maxTo (fun i => C (from_ + i)) m = v at *
      have HV := hide hv
      clear hm hlt hv
      go_wp2_with fail
      go_ret
      rw [unhide HV]
      exact ⟨rfl, rfl⟩

end Go.Proofs.YtoebmfhgaalcdaaGreatDoor
