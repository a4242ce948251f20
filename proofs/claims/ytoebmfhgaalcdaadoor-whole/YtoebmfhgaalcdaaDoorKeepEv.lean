/-
  Our own. sprigskeep.anEv.
-/
import Derived.Test.YtoebmfhgaalcdaaDoorKeepId
import Derived.Test.YtoebmfhgaalcdaaDoorKeepAll
namespace Go.Proofs.YtoebmfhgaalcdaaDoor
open Go.RowKit

/-- The number in front. -/
def frontP (low : Bool) (l : List Int) (i : Nat) : Nat := if low then 0 else rawP l i 60

set_option maxHeartbeats 800000 in
theorem anEv_low (B b : Nat) (v : Value) (l : List Int) (hB : B ≤ b) (h : Nat) (low : Bool) (i : Nat) (w : World) (hs : Sl B w v l) (hw : B ≤ w.heap.size) (h0 : Rw b v i w) (hi : i ≤ l.length) (hh : h ≤ 8)
    (hk : h = 0 ∨ rawP l (rawI l i) 5 < 2) :
    Calls Tryd.prog 14 #[.pointer (some ⟨b, 0, none⟩), .int .i64 h, .bool low] w fun e w' => e = .returned (.string (strOf (digs (if low then 0 else rawP l i 60)))) ∧ Rw b v (rawI l (rawI l i)) w' ∧ Apart b w w' := by
  have r60 := rawP_lt l i 60 (by omega)
  have p1 := rawI_le l i hi
  have N1 := hide (rawnext_any B b v l i 60 w hB hs h0 hi (by omega) (by omega))
  have hk2 : h = 0 ∨ (((h : Int) == 0) = false ∧ ((rawP l (rawI l i) 5 : Nat) : Int) < 2) := by
    rcases hk with rfl | hk
    · exact Or.inl rfl
    · by_cases hz : h = 0
      · exact Or.inl hz
      · exact Or.inr ⟨beq_eq_false_iff_ne.2 (by omega), by omega⟩
  clear hk
  cases low
  · rcases hk2 with rfl | ⟨k1, k2⟩
    all_goals
      go_enter Tryd.func14, Tryd.ntmps14
      go_wp2_with fail
      refine (unhide N1).mono ?_
      rintro e w1 ⟨rfl, h1, a1⟩
      have N2 := hide (rawnext_any B b v l _ 5 w1 hB (hs.apart hB hw a1) h1 p1 (by omega) (by omega))
      go_wp2_with fail
      refine (unhide N2).mono ?_
      rintro e w2 ⟨rfl, h2, a2⟩
      go_wp2_with fail
      refine (digits_k b v _ (rawP l i 60) _ (by omega) h2).mono ?_
      rintro e w3 ⟨rfl, h3, a3⟩
      go_wp2_with fail
      go_ret
      exact ⟨rfl, h3, (a1.trans a2).trans a3⟩
  · rcases hk2 with rfl | ⟨k1, k2⟩
    all_goals
      go_enter Tryd.func14, Tryd.ntmps14
      go_wp2_with fail
      refine (unhide N1).mono ?_
      rintro e w1 ⟨rfl, h1, a1⟩
      have N2 := hide (rawnext_any B b v l _ 5 w1 hB (hs.apart hB hw a1) h1 p1 (by omega) (by omega))
      go_wp2_with fail
      refine (unhide N2).mono ?_
      rintro e w2 ⟨rfl, h2, a2⟩
      go_wp2_with fail
      refine (digits_k b v _ 0 _ (by omega) h2).mono ?_
      rintro e w3 ⟨rfl, h3, a3⟩
      go_wp2_with fail
      go_ret
      exact ⟨rfl, h3, (a1.trans a2).trans a3⟩

set_option maxHeartbeats 1600000 in
theorem anEv_high (B b : Nat) (v : Value) (l : List Int) (hB : B ≤ b) (h : Nat) (hh : h < 8)
    (ih : Hid (∀ (low : Bool) (i : Nat) (w : World), Sl B w v l → B ≤ w.heap.size → Rw b v i w → i ≤ l.length →
      Calls Tryd.prog 14 #[.pointer (some ⟨b, 0, none⟩), .int .i64 (h : Nat), .bool low] w fun e w' => e = .returned (.string (strOf (evText (anEvP l h low i).1))) ∧ Rw b v (anEvP l h low i).2 w' ∧ Apart b w w'))
    (low : Bool) (i : Nat) (w : World) (hs : Sl B w v l) (hw : B ≤ w.heap.size) (h0 : Rw b v i w) (hi : i ≤ l.length) (hk : ¬ rawP l (rawI l i) 5 < 2) :
    Calls Tryd.prog 14 #[.pointer (some ⟨b, 0, none⟩), .int .i64 ((h + 1 : Nat) : Int), .bool low] w fun e w' =>
      e = .returned (.string (strOf (evText (anEvP l (h + 1) low i).1))) ∧ Rw b v (anEvP l (h + 1) low i).2 w' ∧ Apart b w w' := by
  have p1 := rawI_le l i hi
  have p2 := rawI_le l _ p1
  have p3 := rawI_le l _ p2
  have p4 := anEvP_place l h (rawP l (rawI l (rawI l i)) 2 == 0) _ p3
  have N1 := hide (rawnext_any B b v l i 60 w hB hs h0 hi (by omega) (by omega))
  have N2 := hide (fun w1 s1 h1 => rawnext_any B b v l (rawI l i) 5 w1 hB s1 h1 p1 (by omega) (by omega))
  have N3 := hide (fun w1 s1 h1 => rawnext_any B b v l (rawI l (rawI l i)) 2 w1 hB s1 h1 p2 (by omega) (by omega))
  have l1 := anEvP_len8 l h (rawP l (rawI l (rawI l i)) 2 == 0) (rawI l (rawI l (rawI l i))) (by omega)
  have l2 := anEvP_len8 l h (!(rawP l (rawI l (rawI l i)) 2 == 0)) (anEvP l h (rawP l (rawI l (rawI l i)) 2 == 0) (rawI l (rawI l (rawI l i)))).2 (by omega)
  have I1 := hide (fun w1 s1 z1 h1 => ih.out (rawP l (rawI l (rawI l i)) 2 == 0) (rawI l (rawI l (rawI l i))) w1 s1 z1 h1 p3)
  have I2 := hide (fun w1 s1 z1 h1 => ih.out (!(rawP l (rawI l (rawI l i)) 2 == 0)) (anEvP l h (rawP l (rawI l (rawI l i)) 2 == 0) (rawI l (rawI l (rawI l i)))).2 w1 s1 z1 h1 p4)
  have r60 := low60 low l i
  rw [anEvP_high l h low i hk]
  have eb : (((rawP l (rawI l (rawI l i)) 2 : Nat) : Int) == 0) = (rawP l (rawI l (rawI l i)) 2 == 0) := by
    rw [Bool.eq_iff_iff]; simp only [beq_iff_eq]; omega
  generalize anEvP l h (rawP l (rawI l (rawI l i)) 2 == 0) (rawI l (rawI l (rawI l i))) = o1 at *
  generalize anEvP l h (!(rawP l (rawI l (rawI l i)) 2 == 0)) o1.2 = o2 at *
  generalize (rawP l (rawI l (rawI l i)) 2 == 0) = left at *
  generalize rawP l (rawI l (rawI l i)) 2 = lv at *
  generalize rawI l (rawI l (rawI l i)) = i3 at *
  generalize rawP l (rawI l i) 5 = k at *
  generalize rawI l (rawI l i) = i2 at *
  generalize rawI l i = i1 at *
  obtain ⟨A, j1⟩ := o1
  obtain ⟨C, j2⟩ := o2
  simp only at *
  have hk2 : ¬ ((k : Nat) : Int) < 2 := by omega
  have hz2 : ((h : Int) + 1 == 0) = false := beq_eq_false_iff_ne.2 (by omega)
  have q1 : (strOf (evText A)).size ≤ 2042 := by rw [strOf_size]; exact l1
  have q2 : (strOf (evText C)).size ≤ 2042 := by rw [strOf_size]; exact l2
  clear l1 l2 ih
  cases low
  · simp only [Bool.false_eq_true, if_false] at r60 ⊢
    generalize rawP l i 60 = n at *
    have q3 : (strOf (digs n)).size ≤ 2 := by rw [strOf_size]; exact digs_len60 n r60
    cases left
    all_goals
      go_enter Tryd.func14, Tryd.ntmps14
      go_wp2_with fail
      refine (unhide N1).mono ?_
      rintro e w1 ⟨rfl, h1, a1⟩
      have s1 := hs.apart hB hw a1
      have z1 : B ≤ w1.heap.size := Nat.le_trans hw a1.size
      go_wp2_with fail
      refine (unhide N2 _ s1 h1).mono ?_
      rintro e w2 ⟨rfl, h2, a2⟩
      have s2 := s1.apart hB z1 a2
      have z2 : B ≤ w2.heap.size := Nat.le_trans z1 a2.size
      go_wp2_with fail
      refine (unhide N3 _ s2 h2).mono ?_
      rintro e w3 ⟨rfl, h3, a3⟩
      have s3 := s2.apart hB z2 a3
      have z3 : B ≤ w3.heap.size := Nat.le_trans z2 a3.size
      go_wp2_with fail
      refine (unhide I1 _ s3 z3 h3).mono ?_
      rintro e w4 ⟨rfl, h4, a4⟩
      have s4 := s3.apart hB z3 a4
      have z4 : B ≤ w4.heap.size := Nat.le_trans z3 a4.size
      go_wp2_with fail
      refine (unhide I2 _ s4 z4 h4).mono ?_
      rintro e w5 ⟨rfl, h5, a5⟩
      have a15 := (((a1.trans a2).trans a3).trans a4).trans a5
      clear s1 s2 s3 s4 z1 z2 z3 z4 a1 a2 a3 a4 a5 h1 h2 h3 h4 hs N1 N2 N3 I1 I2
      by_cases gA : evText A = [48]
      · have e1 : ((strOf (evText A)).toList == [48]) = true := by rw [strOf_list, gA]; rfl
        by_cases gC : evText C = [48]
        · have e2 : ((strOf (evText C)).toList == [48]) = true := by rw [strOf_list, gC]; rfl
          have T := hide (joinE_zero n A C gA gC)
          clear gA gC
          go_wp2_with fail
          refine (digits_k b v _ n _ (by omega) h5).mono ?_
          rintro e w6 ⟨rfl, h6, a6⟩
          go_wp2_with fail
          go_ret
          rw [unhide T]
          exact ⟨rfl, h6, a15.trans a6⟩
        · have e2 : ((strOf (evText C)).toList == [48]) = false := by rw [strOf_list]; simpa using gC
          have T := hide (joinE_diff n A C (fun h => gC h.2))
          clear gA gC
          go_wp2_with fail
          refine (digits_k b v _ n _ (by omega) h5).mono ?_
          rintro e w6 ⟨rfl, h6, a6⟩
          go_wp2_with fail
          go_ret
          rw [unhide T]
          exact ⟨ev_join n A C, h6, a15.trans a6⟩
      · have e1 : ((strOf (evText A)).toList == [48]) = false := by rw [strOf_list]; simpa using gA
        have T := hide (joinE_diff n A C (fun h => gA h.1))
        clear gA
        go_wp2_with fail
        refine (digits_k b v _ n _ (by omega) h5).mono ?_
        rintro e w6 ⟨rfl, h6, a6⟩
        go_wp2_with fail
        go_ret
        rw [unhide T]
        exact ⟨ev_join n A C, h6, a15.trans a6⟩
  · simp only [if_true] at r60 ⊢
    have q3 : (strOf (digs 0)).size ≤ 2 := by rw [strOf_size]; exact digs_len60 0 r60
    generalize rawP l i 60 = n0 at *
    cases left
    all_goals
      go_enter Tryd.func14, Tryd.ntmps14
      go_wp2_with fail
      refine (unhide N1).mono ?_
      rintro e w1 ⟨rfl, h1, a1⟩
      have s1 := hs.apart hB hw a1
      have z1 : B ≤ w1.heap.size := Nat.le_trans hw a1.size
      go_wp2_with fail
      refine (unhide N2 _ s1 h1).mono ?_
      rintro e w2 ⟨rfl, h2, a2⟩
      have s2 := s1.apart hB z1 a2
      have z2 : B ≤ w2.heap.size := Nat.le_trans z1 a2.size
      go_wp2_with fail
      refine (unhide N3 _ s2 h2).mono ?_
      rintro e w3 ⟨rfl, h3, a3⟩
      have s3 := s2.apart hB z2 a3
      have z3 : B ≤ w3.heap.size := Nat.le_trans z2 a3.size
      go_wp2_with fail
      refine (unhide I1 _ s3 z3 h3).mono ?_
      rintro e w4 ⟨rfl, h4, a4⟩
      have s4 := s3.apart hB z3 a4
      have z4 : B ≤ w4.heap.size := Nat.le_trans z3 a4.size
      go_wp2_with fail
      refine (unhide I2 _ s4 z4 h4).mono ?_
      rintro e w5 ⟨rfl, h5, a5⟩
      have a15 := (((a1.trans a2).trans a3).trans a4).trans a5
      clear s1 s2 s3 s4 z1 z2 z3 z4 a1 a2 a3 a4 a5 h1 h2 h3 h4 hs N1 N2 N3 I1 I2
      by_cases gA : evText A = [48]
      · have e1 : ((strOf (evText A)).toList == [48]) = true := by rw [strOf_list, gA]; rfl
        by_cases gC : evText C = [48]
        · have e2 : ((strOf (evText C)).toList == [48]) = true := by rw [strOf_list, gC]; rfl
          have T := hide (joinE_zero 0 A C gA gC)
          clear gA gC
          go_wp2_with fail
          refine (digits_k b v _ 0 _ (by omega) h5).mono ?_
          rintro e w6 ⟨rfl, h6, a6⟩
          go_wp2_with fail
          go_ret
          rw [unhide T]
          exact ⟨rfl, h6, a15.trans a6⟩
        · have e2 : ((strOf (evText C)).toList == [48]) = false := by rw [strOf_list]; simpa using gC
          have T := hide (joinE_diff 0 A C (fun h => gC h.2))
          clear gA gC
          go_wp2_with fail
          refine (digits_k b v _ 0 _ (by omega) h5).mono ?_
          rintro e w6 ⟨rfl, h6, a6⟩
          go_wp2_with fail
          go_ret
          rw [unhide T]
          exact ⟨ev_join 0 A C, h6, a15.trans a6⟩
      · have e1 : ((strOf (evText A)).toList == [48]) = false := by rw [strOf_list]; simpa using gA
        have T := hide (joinE_diff 0 A C (fun h => gA h.1))
        clear gA
        go_wp2_with fail
        refine (digits_k b v _ 0 _ (by omega) h5).mono ?_
        rintro e w6 ⟨rfl, h6, a6⟩
        go_wp2_with fail
        go_ret
        rw [unhide T]
        exact ⟨ev_join 0 A C, h6, a15.trans a6⟩

/-- anEv, of any raw numbers. -/
theorem anEv_any (B b : Nat) (v : Value) (l : List Int) (hB : B ≤ b) : ∀ h, h ≤ 8 → ∀ (low : Bool) (i : Nat) (w : World), Sl B w v l → B ≤ w.heap.size → Rw b v i w → i ≤ l.length →
    Calls Tryd.prog 14 #[.pointer (some ⟨b, 0, none⟩), .int .i64 (h : Nat), .bool low] w fun e w' => e = .returned (.string (strOf (evText (anEvP l h low i).1))) ∧ Rw b v (anEvP l h low i).2 w' ∧ Apart b w w' := by
  intro h
  induction h with
  | zero =>
    intro hh low i w hs hw h0 hi
    rw [anEvP_low l 0 low i (Or.inl rfl)]
    exact anEv_low B b v l hB 0 low i w hs hw h0 hi hh (Or.inl rfl)
  | succ h ih =>
    intro hh low i w hs hw h0 hi
    by_cases hk : rawP l (rawI l i) 5 < 2
    · rw [anEvP_low l (h + 1) low i (Or.inr hk)]
      exact anEv_low B b v l hB (h + 1) low i w hs hw h0 hi hh (Or.inr hk)
    · exact anEv_high B b v l hB h (by omega) (hide (ih (by omega))) low i w hs hw h0 hi hk

end Go.Proofs.YtoebmfhgaalcdaaDoor
