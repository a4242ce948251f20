/-
  Our own. sprigskeep.anId.
-/
import Derived.Test.YtoebmfhgaalcdaaDoorKeepDig
import Derived.Test.YtoebmfhgaalcdaaDoorKeepAll
namespace Go.Proofs.YtoebmfhgaalcdaaDoor
open Go.RowKit

theorem digits_k (b : Nat) (v : Value) (i : Nat) (n : Nat) (w : World) (hn : n ≤ 4611686018427387904) (h : Rw b v i w) :
    Calls Tryd.prog 19 #[.int .i64 n] w fun e w' => e = .returned (.string (strOf (digs n))) ∧ Rw b v i w' ∧ Apart b w w' := by
  refine (digits_any n hn w).mono ?_
  rintro e w' ⟨rfl, hb⟩
  exact ⟨rfl, (hb.block b (lt_of_heap h)).trans h, Apart.of_below hb b⟩

set_option maxHeartbeats 800000 in
theorem anId_low (B b : Nat) (v : Value) (l : List Int) (hB : B ≤ b) (h i : Nat) (w : World) (hs : Sl B w v l) (hw : B ≤ w.heap.size) (h0 : Rw b v i w) (hi : i ≤ l.length) (hh : h ≤ 8)
    (hk : h = 0 ∨ rawP l i 5 < 2) :
    Calls Tryd.prog 35 #[.pointer (some ⟨b, 0, none⟩), .int .i64 h] w fun e w' => e = .returned (.string (strOf (digs (rawP l (rawI l i) 2)))) ∧ Rw b v (rawI l (rawI l i)) w' ∧ Apart b w w' := by
  have r5 := rawP_lt l i 5 (by omega)
  have r2 := rawP_lt l (rawI l i) 2 (by omega)
  have p1 := rawI_le l i hi
  have N1 := hide (rawnext_any B b v l i 5 w hB hs h0 hi (by omega) (by omega))
  rcases hk with rfl | hk
  · go_enter Tryd.func35, Tryd.ntmps35
    go_wp2_with fail
    refine (unhide N1).mono ?_
    rintro e w1 ⟨rfl, h1, a1⟩
    have N2 := hide (rawnext_any B b v l _ 2 w1 hB (hs.apart hB hw a1) h1 p1 (by omega) (by omega))
    go_wp2_with fail
    refine (unhide N2).mono ?_
    rintro e w2 ⟨rfl, h2, a2⟩
    go_wp2_with fail
    refine (digits_k b v _ _ _ (by omega) h2).mono ?_
    rintro e w3 ⟨rfl, h3, a3⟩
    go_wp2_with fail
    go_ret
    exact ⟨rfl, h3, (a1.trans a2).trans a3⟩
  · have hk2 : ((rawP l i 5 : Nat) : Int) < 2 := by omega
    by_cases hz : h = 0
    · subst hz
      go_enter Tryd.func35, Tryd.ntmps35
      go_wp2_with fail
      refine (unhide N1).mono ?_
      rintro e w1 ⟨rfl, h1, a1⟩
      have N2 := hide (rawnext_any B b v l _ 2 w1 hB (hs.apart hB hw a1) h1 p1 (by omega) (by omega))
      go_wp2_with fail
      refine (unhide N2).mono ?_
      rintro e w2 ⟨rfl, h2, a2⟩
      go_wp2_with fail
      refine (digits_k b v _ _ _ (by omega) h2).mono ?_
      rintro e w3 ⟨rfl, h3, a3⟩
      go_wp2_with fail
      go_ret
      exact ⟨rfl, h3, (a1.trans a2).trans a3⟩
    · have hz2 : ((h : Int) == 0) = false := beq_eq_false_iff_ne.2 (by omega)
      go_enter Tryd.func35, Tryd.ntmps35
      go_wp2_with fail
      refine (unhide N1).mono ?_
      rintro e w1 ⟨rfl, h1, a1⟩
      have N2 := hide (rawnext_any B b v l _ 2 w1 hB (hs.apart hB hw a1) h1 p1 (by omega) (by omega))
      go_wp2_with fail
      refine (unhide N2).mono ?_
      rintro e w2 ⟨rfl, h2, a2⟩
      go_wp2_with fail
      refine (digits_k b v _ _ _ (by omega) h2).mono ?_
      rintro e w3 ⟨rfl, h3, a3⟩
      go_wp2_with fail
      go_ret
      exact ⟨rfl, h3, (a1.trans a2).trans a3⟩

set_option maxHeartbeats 1600000 in
theorem anId_high (B b : Nat) (v : Value) (l : List Int) (hB : B ≤ b) (h : Nat) (hh : h < 8)
    (ih : Hid (∀ (i : Nat) (w : World), Sl B w v l → B ≤ w.heap.size → Rw b v i w → i ≤ l.length →
      Calls Tryd.prog 35 #[.pointer (some ⟨b, 0, none⟩), .int .i64 (h : Nat)] w fun e w' => e = .returned (.string (strOf (idText (anIdP l h i).1))) ∧ Rw b v (anIdP l h i).2 w' ∧ Apart b w w'))
    (i : Nat) (w : World) (hs : Sl B w v l) (hw : B ≤ w.heap.size) (h0 : Rw b v i w) (hi : i ≤ l.length) (hk : ¬ rawP l i 5 < 2) :
    Calls Tryd.prog 35 #[.pointer (some ⟨b, 0, none⟩), .int .i64 ((h + 1 : Nat) : Int)] w fun e w' =>
      e = .returned (.string (strOf (idText (anIdP l (h + 1) i).1))) ∧ Rw b v (anIdP l (h + 1) i).2 w' ∧ Apart b w w' := by
  have p1 := rawI_le l i hi
  have p2 := anIdP_place l h _ p1
  have N1 := hide (rawnext_any B b v l i 5 w hB hs h0 hi (by omega) (by omega))
  have l1 := anIdP_len8 l h (rawI l i) (by omega)
  have l2 := anIdP_len8 l h (anIdP l h (rawI l i)).2 (by omega)
  have l3 := idText_pos (anIdP l h (rawI l i)).1
  have I1 := hide (fun w1 s1 z1 h1 => ih.out (rawI l i) w1 s1 z1 h1 p1)
  have I2 := hide (fun w1 s1 z1 h1 => ih.out (anIdP l h (rawI l i)).2 w1 s1 z1 h1 p2)
  rw [anIdP_high l h i hk]
  generalize anIdP l h (rawI l i) = o1 at *
  generalize anIdP l h o1.2 = o2 at *
  generalize rawP l i 5 = k at *
  generalize rawI l i = i1 at *
  obtain ⟨A, j1⟩ := o1
  obtain ⟨C, j2⟩ := o2
  simp only at *
  have hk2 : ¬ ((k : Nat) : Int) < 2 := by omega
  have hz2 : ((h : Int) + 1 == 0) = false := beq_eq_false_iff_ne.2 (by omega)
  go_enter Tryd.func35, Tryd.ntmps35
  go_wp2_with fail
  refine (unhide N1).mono ?_
  rintro e w1 ⟨rfl, h1, a1⟩
  have s1 := hs.apart hB hw a1
  have z1 : B ≤ w1.heap.size := Nat.le_trans hw a1.size
  go_wp2_with fail
  refine (unhide I1 _ s1 z1 h1).mono ?_
  rintro e w2 ⟨rfl, h2, a2⟩
  have s2 := s1.apart hB z1 a2
  have z2 : B ≤ w2.heap.size := Nat.le_trans z1 a2.size
  go_wp2_with fail
  refine (unhide I2 _ s2 z2 h2).mono ?_
  rintro e w3 ⟨rfl, h3, a3⟩
  have q1 : (strOf (idText A)).size ≤ 1021 := by rw [strOf_size]; exact l1
  have q2 : (strOf (idText C)).size ≤ 1021 := by rw [strOf_size]; exact l2
  have q3 : (strOf (idText A)).size = (idText A).length := strOf_size _
  have Q3 := hide q3
  clear q3 l1 l2 l3 N1 I1 I2 h1 h2 s1 s2 z1 z2 hs
  by_cases g : idText A = idText C
  · have e1 := str_same g
    by_cases g2 : (idText A).length = 1
    · have T := hide (joinB_same A C g g2)
      have e2 : (((strOf (idText A)).size : Int) == 1) = true := by rw [unhide Q3, g2]; rfl
      clear g g2
      go_wp2_with fail
      go_ret
      rw [unhide T]
      exact ⟨rfl, h3, (a1.trans a2).trans a3⟩
    · have T := hide (joinB_diff A C (fun h => g2 h.2))
      have e2 : (((strOf (idText A)).size : Int) == 1) = false := by rw [unhide Q3]; exact beq_eq_false_iff_ne.2 (by omega)
      clear g g2
      go_wp2_with fail
      go_ret
      rw [unhide T]
      exact ⟨id_join A C, h3, (a1.trans a2).trans a3⟩
  · have T := hide (joinB_diff A C (fun h => g h.1))
    have e1 := str_diff g
    clear g
    go_wp2_with fail
    go_ret
    rw [unhide T]
    exact ⟨id_join A C, h3, (a1.trans a2).trans a3⟩

/-- anId, of any raw numbers. -/
theorem anId_any (B b : Nat) (v : Value) (l : List Int) (hB : B ≤ b) : ∀ h, h ≤ 8 → ∀ (i : Nat) (w : World), Sl B w v l → B ≤ w.heap.size → Rw b v i w → i ≤ l.length →
    Calls Tryd.prog 35 #[.pointer (some ⟨b, 0, none⟩), .int .i64 (h : Nat)] w fun e w' => e = .returned (.string (strOf (idText (anIdP l h i).1))) ∧ Rw b v (anIdP l h i).2 w' ∧ Apart b w w' := by
  intro h
  induction h with
  | zero =>
    intro hh i w hs hw h0 hi
    rw [anIdP_low l 0 i (Or.inl rfl), idText_bit _ (rawP_lt _ _ _ (by omega))]
    exact anId_low B b v l hB 0 i w hs hw h0 hi hh (Or.inl rfl)
  | succ h ih =>
    intro hh i w hs hw h0 hi
    by_cases hk : rawP l i 5 < 2
    · rw [anIdP_low l (h + 1) i (Or.inr hk), idText_bit _ (rawP_lt _ _ _ (by omega))]
      exact anId_low B b v l hB (h + 1) i w hs hw h0 hi hh (Or.inr hk)
    · exact anId_high B b v l hB h (by omega) (hide (ih (by omega))) i w hs hw h0 hi hk

end Go.Proofs.YtoebmfhgaalcdaaDoor
