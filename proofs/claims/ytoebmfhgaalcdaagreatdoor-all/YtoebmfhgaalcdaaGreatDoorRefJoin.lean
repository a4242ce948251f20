/-
  Our own. sprigsref.Join.
-/
import Derived.Test.YtoebmfhgaalcdaaGreatDoorRefPeek
import Derived.Test.YtoebmfhgaalcdaaGreatDoorBoxes
namespace Go.Proofs.YtoebmfhgaalcdaaGreatDoor
open Go.RowKit

theorem clash_cells (a b : Tr Bool) (ha : deepT a ≤ 8) (hb : deepT b ≤ 8) : clash a b = true ↔ ∃ k, k < 256 ∧ cellT a 8 k = true ∧ cellT b 8 k = true := by
  rw [clash_iff]
  constructor
  · rintro ⟨p, h1, h2⟩
    obtain ⟨k, hk, hv⟩ := road_cell 8 p
    rw [hv a ha] at h1
    rw [hv b hb] at h2
    exact ⟨k, hk, h1, h2⟩
  · rintro ⟨k, _, h1, h2⟩; exact ⟨_, h1, h2⟩

/-- Joined up to a cell. -/
def jH (f g : Nat → Bool) (j : Nat) : Nat → Bool := fun k => if k < j then f k || g k else f k
def jC (f g : Nat → Nat) (j : Nat) : Nat → Nat := fun k => if k < j then max (f k) (g k) else f k
theorem jH_zero (f g : Nat → Bool) : jH f g 0 = f := by funext k; unfold jH; rw [if_neg (by omega)]
theorem jC_zero (f g : Nat → Nat) : jC f g 0 = f := by funext k; unfold jC; rw [if_neg (by omega)]
theorem jH_here (f g : Nat → Bool) (j : Nat) : jH f g j j = f j := by unfold jH; rw [if_neg (by omega)]
theorem jC_here (f g : Nat → Nat) (j : Nat) : jC f g j j = f j := by unfold jC; rw [if_neg (by omega)]
theorem jH_step (f g : Nat → Bool) (j i : Nat) : (if i = j then f j || g j else jH f g j i) = jH f g (j + 1) i := by
  unfold jH
  by_cases e : i = j
  · subst e; rw [if_pos rfl, if_pos (by omega)]
  · rw [if_neg e]
    by_cases h : i < j
    · rw [if_pos h, if_pos (by omega)]
    · rw [if_neg h, if_neg (by omega)]
theorem jC_step (f g : Nat → Nat) (j i : Nat) : (if i = j then max (f j) (g j) else jC f g j i) = jC f g (j + 1) i := by
  unfold jC
  by_cases e : i = j
  · subst e; rw [if_pos rfl, if_pos (by omega)]
  · rw [if_neg e]
    by_cases h : i < j
    · rw [if_pos h, if_pos (by omega)]
    · rw [if_neg h, if_neg (by omega)]
theorem jC_same (f g : Nat → Nat) (j i : Nat) (h : g j ≤ f j) : jC f g j i = jC f g (j + 1) i := by
  rw [← jC_step]
  by_cases e : i = j
  · subst e; rw [if_pos rfl, jC_here]; omega
  · rw [if_neg e]

theorem below_drewN2 {B : Nat} (w : World) (n : Nat) (h : B ≤ w.heap.size) : Below B w (w.drewN n) := (below_drewN w n).mono h
theorem St.far {b c : Nat} {H : Nat → Bool} {C : Nat → Nat} {w : World} (h : St b H C w) (hn : b ≠ c) (o : Nat) (v : Value) : St b H C (w.setCell ⟨c, o, none⟩ v) := h.keep (Below.heap_setCell _ _ _ b hn)

set_option maxRecDepth 100000 in
set_option maxHeartbeats 8000000 in
theorem rJoin_walk (s t : ByteArray) (H1 H2 : Nat → Bool) (C1 C2 : Nat → Nat) (A : Bool) (X Y : ByteArray) (cd : Int) (Y1 : A = true → Y = { data := #[] } ∧ cd = 5) (Y0 : A = false → Y = X ∧ cd = 0) (w : World)
    (R : Calls Tryz.prog 128 #[.string s, .string t] w fun o w' => ∃ a b, o = .returned (.tuple #[.pointer (some ⟨a, 0, none⟩), .pointer (some ⟨b, 0, none⟩), .int .i64 0]) ∧ w.heap.size ≤ a ∧ a < b ∧ St a H1 C1 w' ∧ St b H2 C2 w' ∧ Below w.heap.size w w')
    (CC : A = true ↔ ∃ k, k < 256 ∧ H1 k = true ∧ H2 k = true)
    (TX : ∀ b w1, St b (jH H1 H2 256) (jC C1 C2 256) w1 → Calls Tryz.prog 127 #[.pointer (some ⟨b, 0, none⟩)] w1 fun e w' => e = .returned (.string X) ∧ Below w1.heap.size w1 w') :
    Calls Tryz.prog 84 #[.string s, .string t] w fun o w' => o = .returned (.tuple #[.string Y, .int .i64 cd]) ∧ Below w.heap.size w w' := by
  replace R := hide R
  replace Y1 := hide Y1
  replace Y0 := hide Y0
  replace CC := hide CC
  replace TX := hide TX
  go_enter Tryz.func84, Tryz.ntmps84
  go_wp2_with fail
  refine (unhide R).mono ?_
  rintro o w1 ⟨a, b, rfl, ha, hab, sa, sb, b1⟩
  have q1 : ¬ a = b := by omega
  have q2 : ¬ b = a := by omega
  rw [← jH_zero H1 H2, ← jC_zero C1 C2] at sa
  replace sa := hide sa
  replace sb := hide sb
  replace b1 := hide b1
  clear R
  go_wp2_with fail
  go_loopg [9] 256 (fun q x wr => ∃ j : Nat, j + q = 256 ∧ x = .int .i64 (j : Nat) ∧ St a (jH H1 H2 j) (jC C1 C2 j) wr ∧ St b H2 C2 wr ∧ Below w.heap.size w wr ∧ ∀ k, k < j → ¬ (H1 k = true ∧ H2 k = true))
  case atStart => exact ⟨0, rfl, rfl, unhide sa, unhide sb, unhide b1, fun k hk => by omega⟩
  case round =>
    obtain ⟨j, hj, rfl, ra, rb, hb, hq⟩ := hrel
    clear sa sb b1
    have HJ := hide hj
    have hj256 : j ≤ 256 := by omega
    clear hj
    replace hq := hide hq
    by_cases hlt : j < 256
    · have x1 := ra.holds j hlt
      rw [jH_here] at x1
      have y1 := rb.holds j hlt
      have fa := ra.free
      have S1 := (ra.setHold j hlt (H1 j || H2 j)).congr (fun i _ => jH_step H1 H2 j i) (fun _ _ => rfl)
      have S2 := rb.far q2 j (.bool (H1 j || H2 j))
      have B2 := hb.trans (below_set1 wr ha (.bool (H1 j || H2 j)) j)
      have j0 : (0 : Int) ≤ (j : Int) := by omega
      have j1 : (j : Int) < 256 := by omega
      replace ra := hide ra
      replace rb := hide rb
      replace hb := hide hb
      replace S1 := hide S1
      replace S2 := hide S2
      replace B2 := hide B2
      generalize hx : H1 j = hx1 at *
      generalize hy : H2 j = hy1 at *
      by_cases hcl : hx1 = true ∧ hy1 = true
      · obtain ⟨rfl, rfl⟩ := hcl
        have e : Hid (A = true) := hide ((unhide CC).2 ⟨j, hlt, hx, hy⟩)
        replace hx := hide hx
        replace hy := hide hy
        clear S1 S2 B2
        go_wp2_with fail
        go_ret2
        obtain ⟨z1, z2⟩ := unhide Y1 (unhide e)
        rw [z1, z2]
        exact ⟨rfl, unhide hb⟩
      · have HC : Hid (¬ (hx1 = true ∧ hy1 = true)) := hide hcl
        replace hx := hide hx
        replace hy := hide hy
        clear hcl
        obtain ⟨v, hv⟩ : ∃ v, v = (hx1 || hy1) := ⟨_, rfl⟩
        rw [← hv] at S1 S2 B2
        cases hx1
        · cases hy1
          · obtain rfl : v = false := hv
            go_wp2_with fail
            go_region
            all_goals
              have T1 := (unhide S1).keep (w' := (wr.setCell ⟨a, j, none⟩ (.bool false)).drew) rfl
              have T2 := (unhide S2).keep (w' := (wr.setCell ⟨a, j, none⟩ (.bool false)).drew) rfl
              have B3 := hide ((unhide B2).trans ((below_drew _).mono (unhide B2).size))
              clear x1 y1 fa S1 S2 B2 ra rb hb
              generalize (wr.setCell ⟨a, j, none⟩ (.bool false)).drew = W2 at *
              have x2 := T1.counts j hlt
              rw [jC_here] at x2
              have y2 := T2.counts j hlt
              have fa := T1.free
              have U1 := (T1.setCount j hlt (max (C1 j) (C2 j))).congr (fun _ _ => rfl) (fun i _ => jC_step C1 C2 j i)
              have U2 := T2.far q2 (256 + j) (.int .i64 ((max (C1 j) (C2 j) : Nat) : Int))
              have B4 := hide ((unhide B3).trans (below_set1 W2 ha (.int .i64 ((max (C1 j) (C2 j) : Nat) : Int)) (256 + j)))
              have V1 : C2 j ≤ C1 j → St a (jH H1 H2 (j + 1)) (jC C1 C2 (j + 1)) W2 := fun h => T1.congr (fun _ _ => rfl) (fun i _ => jC_same C1 C2 j i h)
              replace U1 := hide U1
              replace U2 := hide U2
              replace V1 := hide V1
              replace T1 := hide T1
              replace T2 := hide T2
              generalize C1 j = c1 at *
              generalize C2 j = c2 at *
              have HQ : Hid (∀ k, k < j + 1 → ¬ (H1 k = true ∧ H2 k = true)) := hide fun k hk => by
                by_cases e : k = j
                · subst e; rw [unhide hx, unhide hy]; decide
                · exact unhide hq k (by omega)
              clear HC hq hx hy
              by_cases hgt : c1 < c2
              · have g1 : (c1 : Int) < (c2 : Int) := by omega
                have em : max c1 c2 = c2 := by omega
                rw [em] at U1 U2 B4
                clear em
                go_wp2_with fail
                go_quiet (fail)
                go_wp2_with fail
                go_region
                all_goals
                  go_wp2_with fail
                  go_roundg (gk - 1)
                  case measure => have := unhide HJ; omega
                  case rel => exact ⟨j + 1, by have := unhide HJ; omega, by go_num, (unhide U1).keep rfl, (unhide U2).keep rfl, (unhide B4).trans (below_drewN2 _ _ (unhide B4).size), unhide HQ⟩
              · have g1 : ¬ (c1 : Int) < (c2 : Int) := by omega
                have V2 := hide (unhide V1 (by omega))
                go_wp2_with fail
                go_quiet (fail)
                go_wp2_with fail
                go_roundg (gk - 1)
                case measure => have := unhide HJ; omega
                case rel => exact ⟨j + 1, by have := unhide HJ; omega, by go_num, (unhide V2).keep rfl, (unhide T2).keep rfl, (unhide B3).trans ((below_drewN _ _).mono (unhide B3).size), unhide HQ⟩
          · obtain rfl : v = true := hv
            go_wp2_with fail
            go_region
            all_goals
              have T1 := (unhide S1).keep (w' := (wr.setCell ⟨a, j, none⟩ (.bool true)).drew) rfl
              have T2 := (unhide S2).keep (w' := (wr.setCell ⟨a, j, none⟩ (.bool true)).drew) rfl
              have B3 := hide ((unhide B2).trans ((below_drew _).mono (unhide B2).size))
              clear x1 y1 fa S1 S2 B2 ra rb hb
              generalize (wr.setCell ⟨a, j, none⟩ (.bool true)).drew = W2 at *
              have x2 := T1.counts j hlt
              rw [jC_here] at x2
              have y2 := T2.counts j hlt
              have fa := T1.free
              have U1 := (T1.setCount j hlt (max (C1 j) (C2 j))).congr (fun _ _ => rfl) (fun i _ => jC_step C1 C2 j i)
              have U2 := T2.far q2 (256 + j) (.int .i64 ((max (C1 j) (C2 j) : Nat) : Int))
              have B4 := hide ((unhide B3).trans (below_set1 W2 ha (.int .i64 ((max (C1 j) (C2 j) : Nat) : Int)) (256 + j)))
              have V1 : C2 j ≤ C1 j → St a (jH H1 H2 (j + 1)) (jC C1 C2 (j + 1)) W2 := fun h => T1.congr (fun _ _ => rfl) (fun i _ => jC_same C1 C2 j i h)
              replace U1 := hide U1
              replace U2 := hide U2
              replace V1 := hide V1
              replace T1 := hide T1
              replace T2 := hide T2
              generalize C1 j = c1 at *
              generalize C2 j = c2 at *
              have HQ : Hid (∀ k, k < j + 1 → ¬ (H1 k = true ∧ H2 k = true)) := hide fun k hk => by
                by_cases e : k = j
                · subst e; rw [unhide hx, unhide hy]; decide
                · exact unhide hq k (by omega)
              clear HC hq hx hy
              by_cases hgt : c1 < c2
              · have g1 : (c1 : Int) < (c2 : Int) := by omega
                have em : max c1 c2 = c2 := by omega
                rw [em] at U1 U2 B4
                clear em
                go_wp2_with fail
                go_quiet (fail)
                go_wp2_with fail
                go_region
                all_goals
                  go_wp2_with fail
                  go_roundg (gk - 1)
                  case measure => have := unhide HJ; omega
                  case rel => exact ⟨j + 1, by have := unhide HJ; omega, by go_num, (unhide U1).keep rfl, (unhide U2).keep rfl, (unhide B4).trans (below_drewN2 _ _ (unhide B4).size), unhide HQ⟩
              · have g1 : ¬ (c1 : Int) < (c2 : Int) := by omega
                have V2 := hide (unhide V1 (by omega))
                go_wp2_with fail
                go_quiet (fail)
                go_wp2_with fail
                go_roundg (gk - 1)
                case measure => have := unhide HJ; omega
                case rel => exact ⟨j + 1, by have := unhide HJ; omega, by go_num, (unhide V2).keep rfl, (unhide T2).keep rfl, (unhide B3).trans ((below_drewN _ _).mono (unhide B3).size), unhide HQ⟩
        · cases hy1
          · obtain rfl : v = true := hv
            go_wp2_with fail
            go_region
            all_goals
              have T1 := (unhide S1).keep (w' := (wr.setCell ⟨a, j, none⟩ (.bool true)).drew) rfl
              have T2 := (unhide S2).keep (w' := (wr.setCell ⟨a, j, none⟩ (.bool true)).drew) rfl
              have B3 := hide ((unhide B2).trans ((below_drew _).mono (unhide B2).size))
              clear x1 y1 fa S1 S2 B2 ra rb hb
              generalize (wr.setCell ⟨a, j, none⟩ (.bool true)).drew = W2 at *
              have x2 := T1.counts j hlt
              rw [jC_here] at x2
              have y2 := T2.counts j hlt
              have fa := T1.free
              have U1 := (T1.setCount j hlt (max (C1 j) (C2 j))).congr (fun _ _ => rfl) (fun i _ => jC_step C1 C2 j i)
              have U2 := T2.far q2 (256 + j) (.int .i64 ((max (C1 j) (C2 j) : Nat) : Int))
              have B4 := hide ((unhide B3).trans (below_set1 W2 ha (.int .i64 ((max (C1 j) (C2 j) : Nat) : Int)) (256 + j)))
              have V1 : C2 j ≤ C1 j → St a (jH H1 H2 (j + 1)) (jC C1 C2 (j + 1)) W2 := fun h => T1.congr (fun _ _ => rfl) (fun i _ => jC_same C1 C2 j i h)
              replace U1 := hide U1
              replace U2 := hide U2
              replace V1 := hide V1
              replace T1 := hide T1
              replace T2 := hide T2
              generalize C1 j = c1 at *
              generalize C2 j = c2 at *
              have HQ : Hid (∀ k, k < j + 1 → ¬ (H1 k = true ∧ H2 k = true)) := hide fun k hk => by
                by_cases e : k = j
                · subst e; rw [unhide hx, unhide hy]; decide
                · exact unhide hq k (by omega)
              clear HC hq hx hy
              by_cases hgt : c1 < c2
              · have g1 : (c1 : Int) < (c2 : Int) := by omega
                have em : max c1 c2 = c2 := by omega
                rw [em] at U1 U2 B4
                clear em
                go_wp2_with fail
                go_quiet (fail)
                go_wp2_with fail
                go_region
                all_goals
                  go_wp2_with fail
                  go_roundg (gk - 1)
                  case measure => have := unhide HJ; omega
                  case rel => exact ⟨j + 1, by have := unhide HJ; omega, by go_num, (unhide U1).keep rfl, (unhide U2).keep rfl, (unhide B4).trans (below_drewN2 _ _ (unhide B4).size), unhide HQ⟩
              · have g1 : ¬ (c1 : Int) < (c2 : Int) := by omega
                have V2 := hide (unhide V1 (by omega))
                go_wp2_with fail
                go_quiet (fail)
                go_wp2_with fail
                go_roundg (gk - 1)
                case measure => have := unhide HJ; omega
                case rel => exact ⟨j + 1, by have := unhide HJ; omega, by go_num, (unhide V2).keep rfl, (unhide T2).keep rfl, (unhide B3).trans ((below_drewN _ _).mono (unhide B3).size), unhide HQ⟩
          · exact absurd ⟨rfl, rfl⟩ (unhide HC)
    · have hj6 : j = 256 := by omega
      subst hj6
      have e : A = false := by
        cases e : A with
        | false => rfl
        | true =>
          obtain ⟨k, hk, h1⟩ := (unhide CC).1 e
          exact absurd h1 (unhide hq k hk)
      obtain ⟨z1, z2⟩ := unhide Y0 e
      subst z1 z2
      have TX1 := hide (unhide TX a wr ra)
      replace hb := hide hb
      clear ra rb hq CC Y1 Y0 e
      go_wp2_with fail
      refine (unhide TX1).mono ?_
      rintro o w3 ⟨rfl, b3⟩
      replace b3 := hide (below_trans (unhide hb) b3)
      go_wp2_with fail
      go_ret2
      exact ⟨rfl, unhide b3⟩

set_option maxRecDepth 100000 in
set_option maxHeartbeats 8000000 in
theorem rJoin_ok {s t : ByteArray} {i1 i2 : Tr Bool} {e1 e2 : Tr Nat} (hs : s.size ≤ maxLen) (ht : t.size ≤ maxLen) (f : readR s = .ok i1 e1) (g : readR t = .ok i2 e2) (w : World) :
    Calls Tryz.prog 84 #[.string s, .string t] w fun o w' => o = .returned (.tuple #[.string (if clash i1 i2 = true then { data := #[] } else tx (orB i1 i2) (maxT e1 e2)), .int .i64 (if clash i1 i2 = true then 5 else 0)]) ∧ Below w.heap.size w w' := by
  have R := rtwo_ok hs ht f g w
  obtain ⟨P1, _⟩ := readR_inv f
  obtain ⟨P2, _⟩ := readR_inv g
  have CC := clash_cells i1 i2 P1.di P2.di
  have PJ := P1.join P2
  have TX : ∀ b w1, St b (jH (fun k => cellT i1 8 k) (fun k => cellT i2 8 k) 256) (jC (fun k => cellT e1 8 k) (fun k => cellT e2 8 k) 256) w1 → Calls Tryz.prog 127 #[.pointer (some ⟨b, 0, none⟩)] w1 fun e w' => e = .returned (.string (tx (orB i1 i2) (maxT e1 e2))) ∧ Below w1.heap.size w1 w' := by
    intro b w1 h
    have h2 : St b (fun k => cellT (orB i1 i2) 8 k) (fun k => cellT (maxT e1 e2) 8 k) w1 := h.congr (fun k hk => by unfold jH; rw [if_pos hk]; exact (orB_val i1 i2 _).symm) (fun k hk => by unfold jC; rw [if_pos hk]; exact (maxT_val e1 e2 _).symm)
    have T := rText_any b _ _ (fun k => Nat.le_trans (cell_high _ k) PJ.hi) w1 h2
    rw [id_cells PJ.pi PJ.di, ev_cells PJ.pe PJ.de] at T
    exact T
  exact rJoin_walk s t _ _ _ _ (clash i1 i2) (tx (orB i1 i2) (maxT e1 e2)) _ _ (fun h => by rw [if_pos h, if_pos h]; exact ⟨rfl, rfl⟩) (fun h => by rw [if_neg (by rw [h]; exact Bool.false_ne_true), if_neg (by rw [h]; exact Bool.false_ne_true)]; exact ⟨rfl, rfl⟩) w R CC TX

end Go.Proofs.YtoebmfhgaalcdaaGreatDoor
