/-
  Our own. sprigskeep.Order: true, whatever the three slices of raw numbers.
-/
import Derived.Test.YtoebmfhgaalcdaaDoorStamps
namespace Go.Proofs.YtoebmfhgaalcdaaDoor
open Go.RowKit

theorem atMost_join {a b : Tr Nat} (hb : plainT b) : atMostP a b = true ↔ maxT a b = b := by
  rw [atMost_iff]
  constructor
  · intro h
    exact val_ext (zip_plain _ _ _) hb fun p => by rw [maxT_val]; have := h p; omega
  · intro h p
    have := maxT_val a b p
    rw [h] at this; omega
theorem atMost_left (a b : Tr Nat) : atMostP a (maxT a b) = true := by
  rw [atMost_iff]; intro p; rw [maxT_val]; omega
theorem atMost_right (a b : Tr Nat) : atMostP b (maxT a b) = true := by
  rw [atMost_iff]; intro p; rw [maxT_val]; omega
theorem atMost_self (a : Tr Nat) : atMostP a a = true := by rw [atMost_iff]; intro p; omega
theorem atMost_both (a b c : Tr Nat) : atMostP (maxT a b) c = (atMostP a c && atMostP b c) := by
  rw [Bool.eq_iff_iff, Bool.and_eq_true, atMost_iff, atMost_iff, atMost_iff]
  constructor
  · intro h; exact ⟨fun p => by have := h p; rw [maxT_val] at this; omega, fun p => by have := h p; rw [maxT_val] at this; omega⟩
  · rintro ⟨h1, h2⟩ p; rw [maxT_val]; have := h1 p; have := h2 p; omega

set_option maxRecDepth 100000 in
set_option maxHeartbeats 4000000 in
theorem order_any (v1 v2 v3 : Value) (l1 l2 l3 : List Int) (w : World) (T : Tab w) (h1 : Sl w.heap.size w v1 l1) (h2 : Sl w.heap.size w v2 l2) (h3 : Sl w.heap.size w v3 l3) :
    Calls Tryd.prog 7 #[v1, v2, v3] w fun e w' => e = .returned (.bool true) ∧ Below w.heap.size w w' := by
  obtain ⟨e1, P1⟩ := stamp_tx l1
  obtain ⟨e2, P2⟩ := stamp_tx l2
  obtain ⟨e3, P3⟩ := stamp_tx l3
  have S1 := aStamp_any v1 l1 w h1
  have S2 := fun w' (hb : Below w.heap.size w w') => aStamp_any v2 l2 w' (h2.below hb)
  have S3 := fun w' (hb : Below w.heap.size w w') => aStamp_any v3 l3 w' (h3.below hb)
  rw [e1] at S1
  rw [e2] at S2
  rw [e3] at S3
  generalize stampId l1 = i1 at *
  generalize stampId l2 = i2 at *
  generalize stampId l3 = i3 at *
  generalize evTree 0 (stampEv l1) = a at *
  generalize evTree 0 (stampEv l2) = b at *
  generalize evTree 0 (stampEv l3) = c at *
  have Q1 := P1.none
  have Q2 := P2.none
  have Q3 := P3.none
  have nn : clash (.leaf false) (.leaf false) = false := rfl
  have no : orB (.leaf false) (.leaf false) = .leaf false := rfl
  have Q12 : PT (.leaf false) (maxT a b) := (Q1.join Q2).none
  have Q23 : PT (.leaf false) (maxT b c) := (Q2.join Q3).none
  have K1 := peek_T P1
  have K2 := peek_T P2
  have K3 := peek_T P3
  have J12 := join_T Q1 Q2 nn
  have J21 := join_T Q2 Q1 nn
  have J123 := join_T Q12 Q3 nn
  have J23 := join_T Q2 Q3 nn
  have J1_23 := join_T Q1 Q23 nn
  rw [no] at J12 J21 J123 J23 J1_23
  rw [maxT_comm (a := b) (b := a)] at J21
  rw [← maxT_assoc (a := a) (b := b) (c := c)] at J1_23
  have L1 := leq_T Q1 Q2
  have L2 := leq_T Q1 Q12
  have L3 := leq_T Q2 Q12
  have L4 := leq_T Q1 Q1
  have L5 := leq_T Q12 Q3
  have L6 := leq_T Q1 Q3
  have L7 := leq_T Q2 Q3
  rw [atMost_left] at L2
  rw [atMost_right] at L3
  rw [atMost_self] at L4
  rw [atMost_both] at L5
  have E : ((tx (.leaf false) (maxT a b)).toList == (tx (.leaf false) b).toList) = atMostP a b := by
    by_cases h : maxT a b = b
    · rw [(atMost_join Q2.pe).2 h, h]; exact tx_same _ _
    · rw [tx_diff (fun e => h (tx_inj Q12 Q2 e).2)]
      cases g : atMostP a b with
      | true => exact absurd ((atMost_join Q2.pe).1 g) h
      | false => rfl
  have E2 := tx_same (.leaf false) (maxT a b)
  have E3 := tx_same (.leaf false) (maxT (maxT a b) c)
  obtain ⟨p1, c1, rfl, _⟩ := h1.at_
  obtain ⟨p2, c2, rfl, _⟩ := h2.at_
  obtain ⟨p3, c3, rfl, _⟩ := h3.at_
  clear h1 h2 h3 P1 P2 P3 Q1 Q2 Q3 Q12 Q23 nn no e1 e2 e3
  generalize atMostP a b = x at *
  generalize atMostP a c = y at *
  generalize atMostP b c = z at *
  generalize tx (.leaf false) (maxT (maxT a b) c) = XYZ at *
  generalize tx (.leaf false) (maxT a b) = XY at *
  generalize tx (.leaf false) (maxT b c) = YZ at *
  generalize tx (.leaf false) a = X at *
  generalize tx (.leaf false) b = Y at *
  generalize tx (.leaf false) c = Z at *
  generalize tx i1 a = T1 at *
  generalize tx i2 b = T2 at *
  generalize tx i3 c = T3 at *
  replace S1 := hide S1
  replace S2 := hide S2
  replace S3 := hide S3
  replace K1 := hide K1
  replace K2 := hide K2
  replace K3 := hide K3
  replace J12 := hide J12
  replace J21 := hide J21
  replace J123 := hide J123
  replace J23 := hide J23
  replace J1_23 := hide J1_23
  replace L1 := hide L1
  replace L2 := hide L2
  replace L3 := hide L3
  replace L4 := hide L4
  replace L5 := hide L5
  replace L6 := hide L6
  replace L7 := hide L7
  replace E := hide E
  replace E2 := hide E2
  replace E3 := hide E3
  replace T := hide T
  have b0 := hide (Below.refl w.heap.size w)
  go_enter Tryd.func7, Tryd.ntmps7
  go_wp2_with fail
  refine (unhide S1).mono ?_
  rintro e w1 ⟨rfl, b1⟩
  replace b0 := hide (below_trans (unhide b0) b1)
  clear b1
  go_wp2_with fail
  refine (unhide K1 _ ((unhide T).below (unhide b0))).mono ?_
  rintro e w1 ⟨rfl, b1⟩
  replace b0 := hide (below_trans (unhide b0) b1)
  clear b1
  go_wp2_with fail
  refine (unhide S2 _ (unhide b0)).mono ?_
  rintro e w1 ⟨rfl, b1⟩
  replace b0 := hide (below_trans (unhide b0) b1)
  clear b1
  go_wp2_with fail
  refine (unhide K2 _ ((unhide T).below (unhide b0))).mono ?_
  rintro e w1 ⟨rfl, b1⟩
  replace b0 := hide (below_trans (unhide b0) b1)
  clear b1
  go_wp2_with fail
  refine (unhide S3 _ (unhide b0)).mono ?_
  rintro e w1 ⟨rfl, b1⟩
  replace b0 := hide (below_trans (unhide b0) b1)
  clear b1
  go_wp2_with fail
  refine (unhide K3 _ ((unhide T).below (unhide b0))).mono ?_
  rintro e w1 ⟨rfl, b1⟩
  replace b0 := hide (below_trans (unhide b0) b1)
  clear b1
  go_wp2_with fail
  refine (unhide J12 _ ((unhide T).below (unhide b0))).mono ?_
  rintro e w1 ⟨rfl, b1⟩
  replace b0 := hide (below_trans (unhide b0) b1)
  clear b1
  go_wp2_with fail
  refine (unhide J21 _ ((unhide T).below (unhide b0))).mono ?_
  rintro e w1 ⟨rfl, b1⟩
  replace b0 := hide (below_trans (unhide b0) b1)
  clear b1
  go_wp2_with fail
  refine (unhide J123 _ ((unhide T).below (unhide b0))).mono ?_
  rintro e w1 ⟨rfl, b1⟩
  replace b0 := hide (below_trans (unhide b0) b1)
  clear b1
  go_wp2_with fail
  refine (unhide J23 _ ((unhide T).below (unhide b0))).mono ?_
  rintro e w1 ⟨rfl, b1⟩
  replace b0 := hide (below_trans (unhide b0) b1)
  clear b1
  go_wp2_with fail
  refine (unhide J1_23 _ ((unhide T).below (unhide b0))).mono ?_
  rintro e w1 ⟨rfl, b1⟩
  replace b0 := hide (below_trans (unhide b0) b1)
  clear b1
  go_wp2_with fail
  refine (unhide L1 _).mono ?_
  rintro e w1 ⟨rfl, b1⟩
  replace b0 := hide (below_trans (unhide b0) b1)
  clear b1
  go_wp2_with fail
  refine (unhide L2 _).mono ?_
  rintro e w1 ⟨rfl, b1⟩
  replace b0 := hide (below_trans (unhide b0) b1)
  clear b1
  go_wp2_with fail
  refine (unhide L3 _).mono ?_
  rintro e w1 ⟨rfl, b1⟩
  replace b0 := hide (below_trans (unhide b0) b1)
  clear b1
  go_wp2_with fail
  refine (unhide L4 _).mono ?_
  rintro e w1 ⟨rfl, b1⟩
  replace b0 := hide (below_trans (unhide b0) b1)
  clear b1
  go_wp2_with fail
  refine (unhide L5 _).mono ?_
  rintro e w1 ⟨rfl, b1⟩
  replace b0 := hide (below_trans (unhide b0) b1)
  clear b1
  go_wp2_with fail
  refine (unhide L6 _).mono ?_
  rintro e w1 ⟨rfl, b1⟩
  replace b0 := hide (below_trans (unhide b0) b1)
  clear b1
  go_wp2_with fail
  refine (unhide L7 _).mono ?_
  rintro e w1 ⟨rfl, b1⟩
  replace b0 := hide (below_trans (unhide b0) b1)
  clear b1
  cases y <;> cases z <;> cases x
  all_goals
    replace E := unhide E
    replace E2 := unhide E2
    replace E3 := unhide E3
    go_wp2_with fail
    go_ret
    exact ⟨rfl, unhide b0⟩

end Go.Proofs.YtoebmfhgaalcdaaDoor
