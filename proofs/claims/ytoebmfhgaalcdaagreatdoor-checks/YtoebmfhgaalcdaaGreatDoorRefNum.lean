/-
  Our own. sprigsref.digit, sprigsref.number.
-/
import Derived.Test.YtoebmfhgaalcdaaGreatDoorRefPlain
import Derived.Deep.LoopGhost
namespace Go.Proofs.YtoebmfhgaalcdaaGreatDoor
open Go.RowKit

set_option maxHeartbeats 400000 in
theorem rdigit_any (s : ByteArray) (i : Nat) (w : World) :
    Calls Tryz.prog 140 #[.string s, .int .i64 i] w fun e w' => e = .returned (.bool (isDig (nx s i))) ∧ w' = w := by
  by_cases h : i < s.size
  · have e := nx_in s i h
    by_cases h1 : 48 ≤ nx s i
    · have d1 : (48 : Int) ≤ (s[i].toNat : Int) := by omega
      by_cases h2 : nx s i ≤ 57
      · have d2 : (s[i].toNat : Int) ≤ 57 := by omega
        have hg : isDig (nx s i) = true := (isDig_iff _).2 ⟨h1, h2⟩
        rw [hg]
        clear hg e h1 h2
        go_enter Tryz.func140, Tryz.ntmps140
        go_wp2_with fail
        go_ret
        exact ⟨rfl, rfl⟩
      · have d2 : ¬ (s[i].toNat : Int) ≤ 57 := by omega
        have hg : isDig (nx s i) = false := (isDig_no _).2 (by omega)
        rw [hg]
        clear hg e h1 h2
        go_enter Tryz.func140, Tryz.ntmps140
        go_wp2_with fail
        go_ret
        exact ⟨rfl, rfl⟩
    · have d1 : ¬ (48 : Int) ≤ (s[i].toNat : Int) := by omega
      have hg : isDig (nx s i) = false := (isDig_no _).2 (by omega)
      rw [hg]
      clear hg e h1
      go_enter Tryz.func140, Tryz.ntmps140
      go_wp2_with fail
      go_ret
      exact ⟨rfl, rfl⟩
  · have hg : isDig (nx s i) = false := by
      unfold nx
      rw [List.getD_eq_getElem?_getD, List.getElem?_eq_none (by simpa using h)]; rfl
    rw [hg]
    clear hg
    go_enter Tryz.func140, Tryz.ntmps140
    go_wp2_with fail
    go_ret
    exact ⟨rfl, rfl⟩

/-- What a call of number answers. -/
def numRes : Nm → Value
  | ⟨.inl (n, j)⟩ => .tuple #[.int .i64 n, .int .i64 j, .int .i64 (-1)]
  | ⟨.inr j⟩ => .tuple #[.int .i64 0, .int .i64 0, .int .i64 j]

set_option maxHeartbeats 400000 in
theorem number_none (s : ByteArray) (i : Nat) (w : World) (hg : isDig (nx s i) = false) :
    Calls Tryz.prog 124 #[.string s, .int .i64 i] w fun e w' => e = .returned (numRes (.bad i)) ∧ w' = w := by
  have D := hide (fun w1 => rdigit_any s i w1)
  rw [hg] at D
  clear hg
  go_enter Tryz.func124, Tryz.ntmps124
  go_wp2_with fail
  refine (unhide D _).mono ?_
  rintro e w1 ⟨rfl, rfl⟩
  go_wp2_with fail
  go_ret3
  exact ⟨rfl, rfl⟩

set_option maxHeartbeats 1000000 in
theorem number_some (s : ByteArray) (i : Nat) (w : World) (hs : s.size ≤ 20000) (hi : i < s.size) (hg : isDig (nx s i) = true) (hz : nx s i ≠ 48) :
    Calls Tryz.prog 124 #[.string s, .int .i64 i] w fun e w' => e = .returned (numRes (numGo s (s.size + 1 - i) i 0)) ∧ w' = w := by
  have D := hide (fun w1 => rdigit_any s i w1)
  rw [hg] at D
  have hz2 : ((s[i].toNat : Int) == 48) = false := by
    rw [nx_in s i hi] at hz
    exact beq_eq_false_iff_ne.2 (by omega)
  have HG := hide hg
  clear hg hz
  go_enter Tryz.func124, Tryz.ntmps124
  go_wp2_with fail
  refine (unhide D _).mono ?_
  rintro e w1 ⟨rfl, rfl⟩
  go_wp2_with fail
  go_loop [7, 8, 9] (fun n j d => ∃ nn jj : Nat, n = .int .i64 nn ∧ j = .int .i64 jj ∧ d = .bool (isDig (nx s jj)) ∧ i ≤ jj ∧ jj ≤ s.size ∧ nn ≤ 1099511627776 ∧ numGo s (s.size + 1 - i) i 0 = numGo s (s.size + 1 - jj) jj nn)
    (fun _ j _ => s.size - (intOf j).toNat)
  case atStart => exact ⟨0, i, rfl, rfl, by rw [unhide HG], by omega, by omega, by omega, rfl⟩
  case round =>
    obtain ⟨n, j, rfl, rfl, rfl, h1, h2, h3, h4⟩ := hrel
    have H4 := hide h4
    clear h4
    cases hg : isDig (nx s j)
    · go_wp2_with fail
      go_ret3
      rw [unhide H4, numGo_end s j n h2 hg]
      exact ⟨rfl, rfl⟩
    · obtain ⟨d1, d2⟩ := (isDig_iff _).1 hg
      have hlt : j < s.size := lt_of_nx s j (by omega)
      have e := nx_in s j hlt
      have d3 : (48 : Int) ≤ (s[j].toNat : Int) := by omega
      have d4 : (s[j].toNat : Int) ≤ 57 := by omega
      have N := hide (fun w1 => rdigit_any s (j + 1) w1)
      by_cases hov : 1099511627776 < 10 * n + (nx s j - 48)
      · have hov2 : (1099511627776 : Int) < 10 * (n : Int) + ((s[j].toNat : Int) - 48) := by omega
        have HF := hide (numGo_bad s j n hlt hg hov)
        have E := hide e
        clear hov e
        go_wp2_with fail
        go_ret3
        rw [unhide H4, unhide HF]
        exact ⟨rfl, rfl⟩
      · have hov2 : ¬ (1099511627776 : Int) < 10 * (n : Int) + ((s[j].toNat : Int) - 48) := by omega
        have HF := hide (numGo_step s j n hlt hg hov)
        have q1 : 10 * n + (nx s j - 48) ≤ 1099511627776 := by omega
        have q2 : ((10 * n + (nx s j - 48) : Nat) : Int) = 10 * (n : Int) + ((s[j].toNat : Int) - 48) := by omega
        have Q := hide (And.intro q1 q2)
        clear hov e q1 q2
        by_cases hij : (i : Int) < (j : Int)
        · go_wp2_with fail
          refine (unhide N _).mono ?_
          rintro e w1 ⟨rfl, rfl⟩
          go_wp2_with fail
          go_round
          case rel =>
            refine ⟨10 * n + (nx s j - 48), j + 1, ?_, by go_num, rfl, by omega, by omega, (unhide Q).1, ?_⟩
            · rw [(unhide Q).2]
            · rw [unhide H4, unhide HF]
          case measure => simp [intOf]; omega
        · go_wp2_with fail
          refine (unhide N _).mono ?_
          rintro e w1 ⟨rfl, rfl⟩
          go_wp2_with fail
          go_round
          case rel =>
            refine ⟨10 * n + (nx s j - 48), j + 1, ?_, by go_num, rfl, by omega, by omega, (unhide Q).1, ?_⟩
            · rw [(unhide Q).2]
            · rw [unhide H4, unhide HF]
          case measure => simp [intOf]; omega

set_option maxHeartbeats 1000000 in
theorem number_nought (s : ByteArray) (i : Nat) (w : World) (hs : s.size ≤ 20000) (hi : i < s.size) (hz : nx s i = 48) :
    Calls Tryz.prog 124 #[.string s, .int .i64 i] w fun e w' => e = .returned (numRes (numF s i)) ∧ w' = w := by
  have D := hide (fun w1 => rdigit_any s i w1)
  rw [show isDig (nx s i) = true by rw [hz]; rfl] at D
  have hz1 := hz
  rw [nx_in s i hi] at hz1
  have hz2 : ((s[i].toNat : Int) == 48) = true := beq_iff_eq.2 (by omega)
  have d3 : (48 : Int) ≤ (s[i].toNat : Int) := by omega
  have d4 : (s[i].toNat : Int) ≤ 48 := by omega
  have N := hide (fun w1 => rdigit_any s (i + 1) w1)
  have HF1 : Hid (isDig (nx s (i + 1)) = false → numF s i = .ok 0 (i + 1)) := by
    intro hg
    unfold numF; rw [if_neg (by rw [hz]; decide), if_pos hz, if_neg (by rw [hg]; decide)]
  have HF2 : Hid (isDig (nx s (i + 1)) = true → numF s i = .bad (i + 1)) := by
    intro hg
    unfold numF; rw [if_neg (by rw [hz]; decide), if_pos hz, if_pos hg]
  clear hz hz1
  go_enter Tryz.func124, Tryz.ntmps124
  go_wp2_with fail
  refine (unhide D _).mono ?_
  rintro e w1 ⟨rfl, rfl⟩
  go_wp2_with fail
  go_loop [7, 8, 9] (fun n j d => n = .int .i64 0 ∧ ((j = .int .i64 i ∧ d = .bool true) ∨ (j = .int .i64 ((i + 1 : Nat) : Int) ∧ d = .bool (isDig (nx s (i + 1)))))) (fun _ j _ => i + 1 - (intOf j).toNat)
  case atStart => exact ⟨rfl, Or.inl ⟨rfl, rfl⟩⟩
  case round =>
    obtain ⟨rfl, ⟨rfl, rfl⟩ | ⟨rfl, rfl⟩⟩ := hrel
    · go_wp2_with fail
      refine (unhide N _).mono ?_
      rintro e w1 ⟨rfl, rfl⟩
      go_wp2_with fail
      go_round
      case rel =>
        refine ⟨?_, Or.inr ⟨by go_num, rfl⟩⟩
        congr 1; omega
      case measure => simp [intOf]
    · cases hg : isDig (nx s (i + 1))
      · have HF := hide ((unhide HF1) hg)
        clear hg
        go_wp2_with fail
        go_ret3
        rw [unhide HF]
        exact ⟨rfl, rfl⟩
      · have HF := hide ((unhide HF2) hg)
        obtain ⟨f1, f2⟩ := (isDig_iff _).1 hg
        have hlt : i + 1 < s.size := lt_of_nx s (i + 1) (by omega)
        rw [nx_in s (i + 1) hlt] at f1 f2
        have f3 : (48 : Int) ≤ (s[i + 1].toNat : Int) := by omega
        have f4 : (s[i + 1].toNat : Int) ≤ 57 := by omega
        clear hg f1 f2
        go_wp2_with fail
        go_ret3
        rw [unhide HF]
        exact ⟨rfl, rfl⟩

/-- number, from any place. -/
theorem number_any (s : ByteArray) (i : Nat) (w : World) (hs : s.size ≤ 20000) :
    Calls Tryz.prog 124 #[.string s, .int .i64 i] w fun e w' => e = .returned (numRes (numF s i)) ∧ w' = w := by
  cases hg : isDig (nx s i)
  · have e : numF s i = .bad i := by unfold numF; rw [if_pos hg]
    rw [e]; exact number_none s i w hg
  · have hlt : i < s.size := lt_of_nx s i (by have := (isDig_iff _).1 hg; omega)
    by_cases hz : nx s i = 48
    · exact number_nought s i w hs hlt hz
    · have e : numF s i = numGo s (s.size + 1 - i) i 0 := by unfold numF; rw [if_neg (by rw [hg]; decide), if_neg hz]
      rw [e]; exact number_some s i w hs hlt hg hz

end Go.Proofs.YtoebmfhgaalcdaaGreatDoor
