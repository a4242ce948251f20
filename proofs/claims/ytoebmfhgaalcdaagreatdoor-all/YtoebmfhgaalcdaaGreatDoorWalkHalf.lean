/-
  Our own. IsLeaf, Halves, Merge, Lowest, Pairs: of any tree in memory.
-/
import Derived.Test.YtoebmfhgaalcdaaGreatDoorTreesAll
import Derived.Test.YtoebmfhgaalcdaaGreatDoorWalkHigh
import Derived.Deep.RegionHeld3
namespace Go.Proofs.YtoebmfhgaalcdaaGreatDoor
open Go.RowKit

theorem TA.below {α : Type} {enc : α → Value} {zero : Value} {ty : Nat} {w w' : World} {t : Tr α} {v : Value} (h : TA enc zero ty w v t) (hb : Below w.heap.size w w') : TA enc zero ty w' v t := TA.keep (keeps_of_below hb) t v h
theorem below_drewN (w : World) (n : Nat) : Below w.heap.size w (w.drewN n) := ⟨rfl, rfl, rfl, Nat.le_refl _, fun _ _ => rfl⟩
theorem below_trans {u v w : World} (h : Below u.heap.size u v) (k : Below v.heap.size v w) : Below u.heap.size u w := h.trans (k.mono h.size)
theorem below_alloc (w : World) (o : Obj) : Below w.heap.size w (w.alloc o) := (Below.refl _ _).alloc (Nat.le_refl _) o

theorem below_drew (w : World) : Below w.heap.size w w.drew := ⟨rfl, rfl, rfl, Nat.le_refl _, fun _ _ => rfl⟩
theorem below_draws (w : World) (n m : Nat) : Below (w.drewN n).heap.size (w.drewN n) (w.drewN m) := ⟨rfl, rfl, rfl, Nat.le_refl _, fun _ _ => rfl⟩
theorem cell_keep {w w' : World} (hb : Below w.heap.size w w') {k o : Nat} {v : Value} (h : w.cell? ⟨k, o, none⟩ = some v) : w'.cell? ⟨k, o, none⟩ = some v :=
  (hb.cell (p := ⟨k, o, none⟩) (World.block_lt_of_cell? _ _ h)).trans h
theorem cell_alloc_keep {w : World} {x : Obj} {k o : Nat} {v : Value} (h : w.cell? ⟨k, o, none⟩ = some v) : (w.alloc x).cell? ⟨k, o, none⟩ = some v := cell_keep (below_alloc w x) h
theorem cell_drew_keep {w : World} {k o : Nat} {v : Value} (h : w.cell? ⟨k, o, none⟩ = some v) : w.drew.cell? ⟨k, o, none⟩ = some v := h

theorem isLeafB_of {t : Tr Bool} {w : World} {v : Value} (h : TB w v t) : Calls Tryz.prog 48 #[v] w fun e w' => e = .returned (.bool (isLeaf t)) ∧ w' = w := by
  cases t using Tr.cs with
  | leaf a => obtain ⟨k, rfl, hk⟩ := h; exact isLeafB_yes k w (cells3 hk).2.1
  | pair l r => obtain ⟨k, vl, vr, rfl, hk, hl, hr⟩ := h; obtain ⟨m, rfl⟩ := hl.root; exact isLeafB_no k m w (cells3 hk).2.1
theorem isLeafI_of {t : Tr Nat} {w : World} {v : Value} (h : TI w v t) : Calls Tryz.prog 103 #[v] w fun e w' => e = .returned (.bool (isLeaf t)) ∧ w' = w := by
  cases t using Tr.cs with
  | leaf a => obtain ⟨k, rfl, hk⟩ := h; exact isLeafI_yes k w (cells3 hk).2.1
  | pair l r => obtain ⟨k, vl, vr, rfl, hk, hl, hr⟩ := h; obtain ⟨m, rfl⟩ := hl.root; exact isLeafI_no k m w (cells3 hk).2.1

set_option maxHeartbeats 800000 in
theorem halvesB_of {t : Tr Bool} {w : World} {v : Value} (h : TB w v t) :
    Calls Tryz.prog 104 #[v] w fun e w' => ∃ vl vr, e = .returned (.tuple #[vl, vr]) ∧ TB w vl (halfL t) ∧ TB w vr (halfR t) ∧ ∃ n, w' = w.drewN n := by
  cases t using Tr.cs with
  | leaf a =>
    have h0 := hide h
    obtain ⟨k, rfl, hk⟩ := h
    obtain ⟨k0, k1, k2⟩ := cells3 hk
    clear hk
    go_enter Tryz.func104, Tryz.ntmps104
    go_wp2_with (go_at_call 48; refine (isLeafB_yes k _ k1).mono ?_; rintro e w' ⟨rfl, rfl⟩)
    go_ret2
    exact ⟨_, _, rfl, unhide h0, unhide h0, 0, rfl⟩
  | pair l r =>
    obtain ⟨k, vl, vr, rfl, hk, hl, hr⟩ := h
    obtain ⟨k0, k1, k2⟩ := cells3 hk
    obtain ⟨m, rfl⟩ := hl.root
    obtain ⟨j, rfl⟩ := hr.root
    replace hl := hide hl
    replace hr := hide hr
    clear hk
    go_enter Tryz.func104, Tryz.ntmps104
    go_wp2_with (go_at_call 48; refine (isLeafB_no k m _ k1).mono ?_; rintro e w' ⟨rfl, rfl⟩)
    go_quiet (fail)
    go_wp2_with fail
    go_ret2
    exact ⟨_, _, rfl, unhide hl, unhide hr, nq, rfl⟩

set_option maxHeartbeats 800000 in
theorem halvesI_of {t : Tr Nat} {w : World} {v : Value} (h : TI w v t) :
    Calls Tryz.prog 106 #[v] w fun e w' => ∃ vl vr, e = .returned (.tuple #[vl, vr]) ∧ TI w vl (halfL t) ∧ TI w vr (halfR t) ∧ ∃ n, w' = w.drewN n := by
  cases t using Tr.cs with
  | leaf a =>
    have h0 := hide h
    obtain ⟨k, rfl, hk⟩ := h
    obtain ⟨k0, k1, k2⟩ := cells3 hk
    clear hk
    go_enter Tryz.func106, Tryz.ntmps106
    go_wp2_with (go_at_call 103; refine (isLeafI_yes k _ k1).mono ?_; rintro e w' ⟨rfl, rfl⟩)
    go_ret2
    exact ⟨_, _, rfl, unhide h0, unhide h0, 0, rfl⟩
  | pair l r =>
    obtain ⟨k, vl, vr, rfl, hk, hl, hr⟩ := h
    obtain ⟨k0, k1, k2⟩ := cells3 hk
    obtain ⟨m, rfl⟩ := hl.root
    obtain ⟨j, rfl⟩ := hr.root
    replace hl := hide hl
    replace hr := hide hr
    clear hk
    go_enter Tryz.func106, Tryz.ntmps106
    go_wp2_with (go_at_call 103; refine (isLeafI_no k m _ k1).mono ?_; rintro e w' ⟨rfl, rfl⟩)
    go_quiet (fail)
    go_wp2_with fail
    go_ret2
    exact ⟨_, _, rfl, unhide hl, unhide hr, nq, rfl⟩

/-- SameLeaves, of any two trees. -/
theorem sameB_of {s t : Tr Bool} {w : World} {v u : Value} (h : TB w v s) (g : TB w u t) :
    Calls Tryz.prog 105 #[v, u] w fun e w' => e = .returned (.bool (same s t)) ∧ ∃ n, w' = w.drewN n := by
  obtain ⟨j, rfl⟩ := TA.root g
  cases s using Tr.cs with
  | leaf a =>
    obtain ⟨k, rfl, hk⟩ := h
    cases t using Tr.cs with
    | leaf b => obtain ⟨j', e, hj⟩ := g; cases e; exact sameB_leaves k j a b w hk hj
    | pair l r => obtain ⟨j', vl, vr, e, hj, hl, hr⟩ := g; cases e; obtain ⟨m, rfl⟩ := hl.root; exact sameB_second k j m _ _ _ w hk hj
  | pair l r =>
    obtain ⟨k, vl, vr, rfl, hk, hl, hr⟩ := h
    obtain ⟨m, rfl⟩ := hl.root
    exact sameB_first k j m _ _ w hk
theorem sameI_of {s t : Tr Nat} {w : World} {v u : Value} (h : TI w v s) (g : TI w u t) :
    Calls Tryz.prog 108 #[v, u] w fun e w' => e = .returned (.bool (same s t)) ∧ ∃ n, w' = w.drewN n := by
  obtain ⟨j, rfl⟩ := TA.root g
  cases s using Tr.cs with
  | leaf a =>
    obtain ⟨k, rfl, hk⟩ := h
    cases t using Tr.cs with
    | leaf b =>
      obtain ⟨j', e, hj⟩ := g
      cases e
      have e2 : ((a : Int) == (b : Int)) = (a == b) := by rw [Bool.eq_iff_iff]; simp only [beq_iff_eq]; omega
      refine (sameI_leaves k j a b w hk hj).mono ?_
      rintro e w' ⟨rfl, hw⟩
      rw [e2]
      exact ⟨rfl, hw⟩
    | pair l r => obtain ⟨j', vl, vr, e, hj, hl, hr⟩ := g; cases e; obtain ⟨m, rfl⟩ := hl.root; exact sameI_second k j m _ _ _ w hk hj
  | pair l r =>
    obtain ⟨k, vl, vr, rfl, hk, hl, hr⟩ := h
    obtain ⟨m, rfl⟩ := hl.root
    exact sameI_first k j m _ _ w hk

theorem pair_laid {α : Type} {enc : α → Value} {zero : Value} {ty : Nat} {w : World} {v u : Value} {s t : Tr α} (h : TA enc zero ty w v s) (g : TA enc zero ty w u t) :
    TA enc zero ty (w.alloc (.cells #[zero, v, u] ty)) (.pointer (some ⟨w.heap.size, 0, none⟩)) (.pair s t) :=
  ⟨w.heap.size, v, u, rfl, heap_new w _, h.below (below_alloc w _), g.below (below_alloc w _)⟩
theorem leaf_laid {α : Type} {enc : α → Value} {zero : Value} {ty : Nat} (w : World) (a : α) :
    TA enc zero ty (w.alloc (.cells #[enc a, .pointer none, .pointer none] ty)) (.pointer (some ⟨w.heap.size, 0, none⟩)) (.leaf a) :=
  ⟨w.heap.size, rfl, heap_new w _⟩

set_option maxHeartbeats 800000 in
theorem mergeB_of {s t : Tr Bool} {w : World} {v u : Value} (h : TB w v s) (g : TB w u t) :
    Calls Tryz.prog 59 #[v, u] w fun e w' => ∃ x, e = .returned x ∧ TB w' x (merge s t) ∧ Below w.heap.size w w' := by
  have S := hide (sameB_of h g)
  have P : ∀ n, TB ((w.drewN n).alloc (.cells #[.bool false, v, u] 92)) (.pointer (some ⟨(w.drewN n).heap.size, 0, none⟩)) (.pair s t) := fun n => pair_laid (TA.below h (below_drewN w n)) (TA.below g (below_drewN w n))
  have Q : ∀ n, TB (w.drewN n) v s := fun n => TA.below h (below_drewN w n)
  replace P := hide P
  replace Q := hide Q
  obtain ⟨k, rfl⟩ := TA.root h
  obtain ⟨j, rfl⟩ := TA.root g
  clear h g
  unfold merge
  cases f : same s t with
  | true =>
    rw [f] at S
    replace f := hide f
    simp only [if_true]
    go_enter Tryz.func59, Tryz.ntmps59
    go_wp2_with (go_at_call 105; refine (unhide S).mono ?_; rintro e w' ⟨rfl, n, rfl⟩)
    go_ret
    exact ⟨_, rfl, unhide Q _, below_drewN _ _⟩
  | false =>
    rw [f] at S
    replace f := hide f
    simp only [Bool.false_eq_true, if_false]
    go_enter Tryz.func59, Tryz.ntmps59
    go_wp2_with (first
      | (go_at_call 105; refine (unhide S).mono ?_; rintro e w' ⟨rfl, n, rfl⟩)
      | (go_at_call 49; refine (pairB_any _ _ _).mono ?_; rintro e w' ⟨rfl, rfl⟩))
    go_ret
    exact ⟨_, rfl, unhide P _, below_trans (below_drewN _ _) (below_alloc _ _)⟩

set_option maxHeartbeats 800000 in
theorem mergeI_of {s t : Tr Nat} {w : World} {v u : Value} (h : TI w v s) (g : TI w u t) :
    Calls Tryz.prog 62 #[v, u] w fun e w' => ∃ x, e = .returned x ∧ TI w' x (merge s t) ∧ Below w.heap.size w w' := by
  have S := hide (sameI_of h g)
  have P : ∀ n, TI ((w.drewN n).alloc (.cells #[.int .i64 0, v, u] 139)) (.pointer (some ⟨(w.drewN n).heap.size, 0, none⟩)) (.pair s t) := fun n => pair_laid (TA.below h (below_drewN w n)) (TA.below g (below_drewN w n))
  have Q : ∀ n, TI (w.drewN n) v s := fun n => TA.below h (below_drewN w n)
  replace P := hide P
  replace Q := hide Q
  obtain ⟨k, rfl⟩ := TA.root h
  obtain ⟨j, rfl⟩ := TA.root g
  clear h g
  unfold merge
  cases f : same s t with
  | true =>
    rw [f] at S
    replace f := hide f
    simp only [if_true]
    go_enter Tryz.func62, Tryz.ntmps62
    go_wp2_with (go_at_call 108; refine (unhide S).mono ?_; rintro e w' ⟨rfl, n, rfl⟩)
    go_ret
    exact ⟨_, rfl, unhide Q _, below_drewN _ _⟩
  | false =>
    rw [f] at S
    replace f := hide f
    simp only [Bool.false_eq_true, if_false]
    go_enter Tryz.func62, Tryz.ntmps62
    go_wp2_with (first
      | (go_at_call 108; refine (unhide S).mono ?_; rintro e w' ⟨rfl, n, rfl⟩)
      | (go_at_call 109; refine (pairI_any _ _ _).mono ?_; rintro e w' ⟨rfl, rfl⟩))
    go_ret
    exact ⟨_, rfl, unhide P _, below_trans (below_drewN _ _) (below_alloc _ _)⟩

end Go.Proofs.YtoebmfhgaalcdaaGreatDoor
