/-
  Our own. SideBySide at its four instances that give a bool or a tree: count.AtMost, piece.Clash, piece.Join, count.Join. (Laid by wip/mk/sides.py: one text at four types.)
-/
import Derived.Test.YtoebmfhgaalcdaaGreatDoorWalkHalf
namespace Go.Proofs.YtoebmfhgaalcdaaGreatDoor
open Go.RowKit

set_option maxHeartbeats 400000 in
theorem catMost_any (a b : Nat) (w : World) : Calls Tryz.prog 66 #[.int .i64 (a : Int), .int .i64 (b : Int)] w fun e w' => ∃ x, e = .returned x ∧ x = .bool (decide (a ≤ b)) ∧ Below w.heap.size w w' := by
  have e : decide ((a : Int) ≤ (b : Int)) = decide (a ≤ b) := by rw [Bool.eq_iff_iff]; simp
  go_enter Tryz.func66, Tryz.ntmps66
  go_wp2_with fail
  go_ret
  exact ⟨_, rfl, by first | rfl | rw [e] | simp, Below.refl _ _⟩

set_option maxHeartbeats 400000 in
theorem cboth_any (a b : Bool) (w : World) : Calls Tryz.prog 67 #[.bool a, .bool b] w fun e w' => ∃ x, e = .returned x ∧ x = .bool (a && b) ∧ Below w.heap.size w w' := by
  cases a <;> cases b
  all_goals
    go_enter Tryz.func67, Tryz.ntmps67
    go_wp2_with fail
    go_ret
    exact ⟨_, rfl, rfl, Below.refl _ _⟩

set_option maxHeartbeats 400000 in
theorem pboth_any (a b : Bool) (w : World) : Calls Tryz.prog 55 #[.bool a, .bool b] w fun e w' => ∃ x, e = .returned x ∧ x = .bool (a && b) ∧ Below w.heap.size w w' := by
  cases a <;> cases b
  all_goals
    go_enter Tryz.func55, Tryz.ntmps55
    go_wp2_with fail
    go_ret
    exact ⟨_, rfl, rfl, Below.refl _ _⟩

set_option maxHeartbeats 400000 in
theorem peither_any (a b : Bool) (w : World) : Calls Tryz.prog 56 #[.bool a, .bool b] w fun e w' => ∃ x, e = .returned x ∧ x = .bool (a || b) ∧ Below w.heap.size w w' := by
  cases a <;> cases b
  all_goals
    go_enter Tryz.func56, Tryz.ntmps56
    go_wp2_with fail
    go_ret
    exact ⟨_, rfl, rfl, Below.refl _ _⟩

set_option maxHeartbeats 400000 in
theorem eitherLeaf_any (a b : Bool) (w : World) : Calls Tryz.prog 58 #[.bool a, .bool b] w fun e w' => ∃ x, e = .returned x ∧ TB w' x (.leaf (a || b)) ∧ Below w.heap.size w w' := by
  have L : TB (w.alloc (.cells #[.bool (a || b), .pointer none, .pointer none] 92)) (.pointer (some ⟨w.heap.size, 0, none⟩)) (.leaf (a || b)) := leaf_laid w (a || b)
  replace L := hide L
  cases a <;> cases b
  all_goals
    go_enter Tryz.func58, Tryz.ntmps58
    go_wp2_with (go_at_call 53; refine (leafB_any _ _).mono ?_; rintro e w' ⟨rfl, rfl⟩)
    go_ret
    exact ⟨_, rfl, unhide L, below_alloc _ _⟩

set_option maxHeartbeats 400000 in
theorem greaterLeaf_any (a b : Nat) (w : World) : Calls Tryz.prog 61 #[.int .i64 (a : Int), .int .i64 (b : Int)] w fun e w' => ∃ x, e = .returned x ∧ TI w' x (.leaf (max a b)) ∧ Below w.heap.size w w' := by
  have L : TI (w.alloc (.cells #[.int .i64 ((max a b : Nat) : Int), .pointer none, .pointer none] 139)) (.pointer (some ⟨w.heap.size, 0, none⟩)) (.leaf (max a b)) := leaf_laid w (max a b)
  by_cases hc : a < b
  · rw [show max a b = b by omega] at L ⊢
    replace L := hide L
    go_enter Tryz.func61, Tryz.ntmps61
    go_wp2_with (go_at_call 107; refine (leafI_any _ _).mono ?_; rintro e w' ⟨rfl, rfl⟩)
    go_ret
    exact ⟨_, rfl, unhide L, below_alloc _ _⟩
  · rw [show max a b = a by omega] at L ⊢
    replace L := hide L
    go_enter Tryz.func61, Tryz.ntmps61
    go_wp2_with (go_at_call 107; refine (leafI_any _ _).mono ?_; rintro e w' ⟨rfl, rfl⟩)
    go_ret
    exact ⟨_, rfl, unhide L, below_alloc _ _⟩

set_option maxHeartbeats 1000000 in
theorem sideIIB_leaf (a : Nat) (b : Nat) (w : World) (v u : Value) (h : TI w v (.leaf a)) (g : TI w u (.leaf b)) :
    Calls Tryz.prog 65 #[v, u, .func (.func 66) #[] #[], .func (.func 67) #[] #[]] w fun e w' => ∃ x, e = .returned x ∧ x = .bool (decide (a ≤ b)) ∧ Below w.heap.size w w' := by
  obtain ⟨k, rfl, hk⟩ := h
  obtain ⟨j, rfl, hj⟩ := g
  obtain ⟨k0, k1, _⟩ := cells3 hk
  obtain ⟨j0, j1, _⟩ := cells3 hj
  clear hk hj
  have L := hide (catMost_any a b w)
  go_enter Tryz.func65, Tryz.ntmps65
  go_wp2_with (first
    | (go_at_call_of 103 (Value.pointer (some (Addr.mk k 0 none))); refine (isLeafI_yes k _ k1).mono ?_; rintro e w' ⟨rfl, rfl⟩)
    | (go_at_call_of 103 (Value.pointer (some (Addr.mk j 0 none))); refine (isLeafI_yes j _ j1).mono ?_; rintro e w' ⟨rfl, rfl⟩))
  go_region_held3 (fun w' => w'.cell? ⟨k, 0, none⟩ = some (Value.int .i64 (a : Int)) ∧ w'.cell? ⟨j, 0, none⟩ = some (Value.int .i64 (b : Int))) (go_keep)
    (first | (go_at_call 66; refine (catMost_any a b _).mono ?_; rintro e w9 ⟨x1, rfl, r1, b1⟩; subst r1; have r1 : True := trivial; have c1 := cell_keep b1 k0; have c2 := cell_keep b1 j0; replace r1 := hide r1; replace b1 := hide b1))
  all_goals
    go_wp2_with fail
    go_ret
    exact ⟨_, rfl, rfl, below_trans (below_drew _) (unhide b1)⟩

set_option maxHeartbeats 1000000 in
theorem sideIIB_any (a : Tr Nat) (b : Tr Nat) : ∀ (w : World) (v u : Value), TI w v a → TI w u b →
    Calls Tryz.prog 65 #[v, u, .func (.func 66) #[] #[], .func (.func 67) #[] #[]] w fun e w' => ∃ x, e = .returned x ∧ x = .bool (allB (fun x y => decide (x ≤ y)) a b) ∧ Below w.heap.size w w' := by
  induction a, b using side_ind with
  | leaves a b => intro w v u h g; exact sideIIB_leaf a b w v u h g
  | halves a b hl ihl ihr =>
    intro w v u h g
    have A1 := isLeafI_of h
    have B1 := isLeafI_of g
    have A2 := hide (halvesI_of h)
    have B2 := hide (fun n => halvesI_of (TA.below g (below_drewN w n)))
    obtain ⟨k, rfl⟩ := TA.root h
    obtain ⟨j, rfl⟩ := TA.root g
    unfold allB
    rw [side_halves _ _ a b hl]
    clear h g
    replace ihl := hide ihl
    replace ihr := hide ihr
    cases fa : isLeaf a with
    | false =>
      rw [fa] at A1
      replace A1 := hide A1
      clear fa hl B1
      go_enter Tryz.func65, Tryz.ntmps65
      go_wp2_with fail
      refine (unhide A1).mono ?_
      rintro e w1 ⟨rfl, rfl⟩
      go_wp2_with fail
      refine (unhide A2).mono ?_
      rintro e w1 ⟨vl, vr, rfl, tl, tr, n, rfl⟩
      replace tl := hide tl
      replace tr := hide tr
      obtain ⟨kl, rfl⟩ := TA.root (unhide tl)
      obtain ⟨kr, rfl⟩ := TA.root (unhide tr)
      go_wp2_with fail
      refine (unhide B2 n).mono ?_
      rintro e w1 ⟨ul, ur, rfl, sl, sr, m, rfl⟩
      replace sl := hide sl
      replace sr := hide sr
      obtain ⟨jl, rfl⟩ := TA.root (unhide sl)
      obtain ⟨jr, rfl⟩ := TA.root (unhide sr)
      go_wp2_with fail
      refine (unhide ihl _ _ _ (TA.below (unhide tl) (below_drewN _ _)) (TA.below (unhide sl) (below_draws _ _ _))).mono ?_
      rintro e w1 ⟨x1, rfl, r1, b1⟩
      subst r1; have r1 : True := trivial
      replace r1 := hide r1
      replace b1 := hide b1
      go_wp2_with fail
      refine (unhide ihr _ _ _ (TA.below (TA.below (unhide tr) (below_drewN _ _)) (unhide b1)) (TA.below (TA.below (unhide sr) (below_draws _ _ _)) (unhide b1))).mono ?_
      rintro e w2 ⟨x2, rfl, r2, b2⟩
      subst r2; have r2 : True := trivial
      replace r2 := hide r2
      replace b2 := hide b2
      go_wp2_with fail
      refine (cboth_any _ _ _).mono ?_
      rintro e w3 ⟨x3, rfl, r3, b3⟩
      subst r3; have r3 : True := trivial
      replace r3 := hide r3
      replace b3 := hide b3
      go_wp2_with fail
      go_ret
      exact ⟨_, rfl, rfl, below_trans (below_trans (below_trans (below_drewN _ _) (unhide b1)) (unhide b2)) (unhide b3)⟩
    | true =>
      have fb : isLeaf b = false := by rw [fa] at hl; simpa using hl
      rw [fa] at A1
      rw [fb] at B1
      replace A1 := hide A1
      replace B1 := hide B1
      clear fa fb hl
      go_enter Tryz.func65, Tryz.ntmps65
      go_wp2_with fail
      refine (unhide A1).mono ?_
      rintro e w1 ⟨rfl, rfl⟩
      go_wp2_with fail
      refine (unhide B1).mono ?_
      rintro e w1 ⟨rfl, rfl⟩
      go_wp2_with fail
      refine (unhide A2).mono ?_
      rintro e w1 ⟨vl, vr, rfl, tl, tr, n, rfl⟩
      replace tl := hide tl
      replace tr := hide tr
      obtain ⟨kl, rfl⟩ := TA.root (unhide tl)
      obtain ⟨kr, rfl⟩ := TA.root (unhide tr)
      go_wp2_with fail
      refine (unhide B2 n).mono ?_
      rintro e w1 ⟨ul, ur, rfl, sl, sr, m, rfl⟩
      replace sl := hide sl
      replace sr := hide sr
      obtain ⟨jl, rfl⟩ := TA.root (unhide sl)
      obtain ⟨jr, rfl⟩ := TA.root (unhide sr)
      go_wp2_with fail
      refine (unhide ihl _ _ _ (TA.below (unhide tl) (below_drewN _ _)) (TA.below (unhide sl) (below_draws _ _ _))).mono ?_
      rintro e w1 ⟨x1, rfl, r1, b1⟩
      subst r1; have r1 : True := trivial
      replace r1 := hide r1
      replace b1 := hide b1
      go_wp2_with fail
      refine (unhide ihr _ _ _ (TA.below (TA.below (unhide tr) (below_drewN _ _)) (unhide b1)) (TA.below (TA.below (unhide sr) (below_draws _ _ _)) (unhide b1))).mono ?_
      rintro e w2 ⟨x2, rfl, r2, b2⟩
      subst r2; have r2 : True := trivial
      replace r2 := hide r2
      replace b2 := hide b2
      go_wp2_with fail
      refine (cboth_any _ _ _).mono ?_
      rintro e w3 ⟨x3, rfl, r3, b3⟩
      subst r3; have r3 : True := trivial
      replace r3 := hide r3
      replace b3 := hide b3
      go_wp2_with fail
      go_ret
      exact ⟨_, rfl, rfl, below_trans (below_trans (below_trans (below_drewN _ _) (unhide b1)) (unhide b2)) (unhide b3)⟩

set_option maxHeartbeats 1000000 in
theorem sideBBB_leaf (a : Bool) (b : Bool) (w : World) (v u : Value) (h : TB w v (.leaf a)) (g : TB w u (.leaf b)) :
    Calls Tryz.prog 54 #[v, u, .func (.func 55) #[] #[], .func (.func 56) #[] #[]] w fun e w' => ∃ x, e = .returned x ∧ x = .bool (a && b) ∧ Below w.heap.size w w' := by
  obtain ⟨k, rfl, hk⟩ := h
  obtain ⟨j, rfl, hj⟩ := g
  obtain ⟨k0, k1, _⟩ := cells3 hk
  obtain ⟨j0, j1, _⟩ := cells3 hj
  clear hk hj
  have L := hide (pboth_any a b w)
  go_enter Tryz.func54, Tryz.ntmps54
  go_wp2_with (first
    | (go_at_call_of 48 (Value.pointer (some (Addr.mk k 0 none))); refine (isLeafB_yes k _ k1).mono ?_; rintro e w' ⟨rfl, rfl⟩)
    | (go_at_call_of 48 (Value.pointer (some (Addr.mk j 0 none))); refine (isLeafB_yes j _ j1).mono ?_; rintro e w' ⟨rfl, rfl⟩))
  go_region_held3 (fun w' => w'.cell? ⟨k, 0, none⟩ = some (Value.bool a) ∧ w'.cell? ⟨j, 0, none⟩ = some (Value.bool b)) (go_keep)
    (first | (go_at_call 55; refine (pboth_any a b _).mono ?_; rintro e w9 ⟨x1, rfl, r1, b1⟩; subst r1; have r1 : True := trivial; have c1 := cell_keep b1 k0; have c2 := cell_keep b1 j0; replace r1 := hide r1; replace b1 := hide b1))
  all_goals
    go_wp2_with fail
    go_ret
    exact ⟨_, rfl, rfl, below_trans (below_drew _) (unhide b1)⟩

set_option maxHeartbeats 1000000 in
theorem sideBBB_any (a : Tr Bool) (b : Tr Bool) : ∀ (w : World) (v u : Value), TB w v a → TB w u b →
    Calls Tryz.prog 54 #[v, u, .func (.func 55) #[] #[], .func (.func 56) #[] #[]] w fun e w' => ∃ x, e = .returned x ∧ x = .bool (anyB (fun x y => x && y) a b) ∧ Below w.heap.size w w' := by
  induction a, b using side_ind with
  | leaves a b => intro w v u h g; exact sideBBB_leaf a b w v u h g
  | halves a b hl ihl ihr =>
    intro w v u h g
    have A1 := isLeafB_of h
    have B1 := isLeafB_of g
    have A2 := hide (halvesB_of h)
    have B2 := hide (fun n => halvesB_of (TA.below g (below_drewN w n)))
    obtain ⟨k, rfl⟩ := TA.root h
    obtain ⟨j, rfl⟩ := TA.root g
    unfold anyB
    rw [side_halves _ _ a b hl]
    clear h g
    replace ihl := hide ihl
    replace ihr := hide ihr
    cases fa : isLeaf a with
    | false =>
      rw [fa] at A1
      replace A1 := hide A1
      clear fa hl B1
      go_enter Tryz.func54, Tryz.ntmps54
      go_wp2_with fail
      refine (unhide A1).mono ?_
      rintro e w1 ⟨rfl, rfl⟩
      go_wp2_with fail
      refine (unhide A2).mono ?_
      rintro e w1 ⟨vl, vr, rfl, tl, tr, n, rfl⟩
      replace tl := hide tl
      replace tr := hide tr
      obtain ⟨kl, rfl⟩ := TA.root (unhide tl)
      obtain ⟨kr, rfl⟩ := TA.root (unhide tr)
      go_wp2_with fail
      refine (unhide B2 n).mono ?_
      rintro e w1 ⟨ul, ur, rfl, sl, sr, m, rfl⟩
      replace sl := hide sl
      replace sr := hide sr
      obtain ⟨jl, rfl⟩ := TA.root (unhide sl)
      obtain ⟨jr, rfl⟩ := TA.root (unhide sr)
      go_wp2_with fail
      refine (unhide ihl _ _ _ (TA.below (unhide tl) (below_drewN _ _)) (TA.below (unhide sl) (below_draws _ _ _))).mono ?_
      rintro e w1 ⟨x1, rfl, r1, b1⟩
      subst r1; have r1 : True := trivial
      replace r1 := hide r1
      replace b1 := hide b1
      go_wp2_with fail
      refine (unhide ihr _ _ _ (TA.below (TA.below (unhide tr) (below_drewN _ _)) (unhide b1)) (TA.below (TA.below (unhide sr) (below_draws _ _ _)) (unhide b1))).mono ?_
      rintro e w2 ⟨x2, rfl, r2, b2⟩
      subst r2; have r2 : True := trivial
      replace r2 := hide r2
      replace b2 := hide b2
      go_wp2_with fail
      refine (peither_any _ _ _).mono ?_
      rintro e w3 ⟨x3, rfl, r3, b3⟩
      subst r3; have r3 : True := trivial
      replace r3 := hide r3
      replace b3 := hide b3
      go_wp2_with fail
      go_ret
      exact ⟨_, rfl, rfl, below_trans (below_trans (below_trans (below_drewN _ _) (unhide b1)) (unhide b2)) (unhide b3)⟩
    | true =>
      have fb : isLeaf b = false := by rw [fa] at hl; simpa using hl
      rw [fa] at A1
      rw [fb] at B1
      replace A1 := hide A1
      replace B1 := hide B1
      clear fa fb hl
      go_enter Tryz.func54, Tryz.ntmps54
      go_wp2_with fail
      refine (unhide A1).mono ?_
      rintro e w1 ⟨rfl, rfl⟩
      go_wp2_with fail
      refine (unhide B1).mono ?_
      rintro e w1 ⟨rfl, rfl⟩
      go_wp2_with fail
      refine (unhide A2).mono ?_
      rintro e w1 ⟨vl, vr, rfl, tl, tr, n, rfl⟩
      replace tl := hide tl
      replace tr := hide tr
      obtain ⟨kl, rfl⟩ := TA.root (unhide tl)
      obtain ⟨kr, rfl⟩ := TA.root (unhide tr)
      go_wp2_with fail
      refine (unhide B2 n).mono ?_
      rintro e w1 ⟨ul, ur, rfl, sl, sr, m, rfl⟩
      replace sl := hide sl
      replace sr := hide sr
      obtain ⟨jl, rfl⟩ := TA.root (unhide sl)
      obtain ⟨jr, rfl⟩ := TA.root (unhide sr)
      go_wp2_with fail
      refine (unhide ihl _ _ _ (TA.below (unhide tl) (below_drewN _ _)) (TA.below (unhide sl) (below_draws _ _ _))).mono ?_
      rintro e w1 ⟨x1, rfl, r1, b1⟩
      subst r1; have r1 : True := trivial
      replace r1 := hide r1
      replace b1 := hide b1
      go_wp2_with fail
      refine (unhide ihr _ _ _ (TA.below (TA.below (unhide tr) (below_drewN _ _)) (unhide b1)) (TA.below (TA.below (unhide sr) (below_draws _ _ _)) (unhide b1))).mono ?_
      rintro e w2 ⟨x2, rfl, r2, b2⟩
      subst r2; have r2 : True := trivial
      replace r2 := hide r2
      replace b2 := hide b2
      go_wp2_with fail
      refine (peither_any _ _ _).mono ?_
      rintro e w3 ⟨x3, rfl, r3, b3⟩
      subst r3; have r3 : True := trivial
      replace r3 := hide r3
      replace b3 := hide b3
      go_wp2_with fail
      go_ret
      exact ⟨_, rfl, rfl, below_trans (below_trans (below_trans (below_drewN _ _) (unhide b1)) (unhide b2)) (unhide b3)⟩

set_option maxHeartbeats 1000000 in
theorem sideBBT_leaf (a : Bool) (b : Bool) (w : World) (v u : Value) (h : TB w v (.leaf a)) (g : TB w u (.leaf b)) :
    Calls Tryz.prog 57 #[v, u, .func (.func 58) #[] #[], .func (.func 59) #[] #[]] w fun e w' => ∃ x, e = .returned x ∧ TB w' x (.leaf (a || b)) ∧ Below w.heap.size w w' := by
  obtain ⟨k, rfl, hk⟩ := h
  obtain ⟨j, rfl, hj⟩ := g
  obtain ⟨k0, k1, _⟩ := cells3 hk
  obtain ⟨j0, j1, _⟩ := cells3 hj
  clear hk hj
  have L := hide (eitherLeaf_any a b w)
  go_enter Tryz.func57, Tryz.ntmps57
  go_wp2_with (first
    | (go_at_call_of 48 (Value.pointer (some (Addr.mk k 0 none))); refine (isLeafB_yes k _ k1).mono ?_; rintro e w' ⟨rfl, rfl⟩)
    | (go_at_call_of 48 (Value.pointer (some (Addr.mk j 0 none))); refine (isLeafB_yes j _ j1).mono ?_; rintro e w' ⟨rfl, rfl⟩))
  go_region_held3 (fun w' => w'.cell? ⟨k, 0, none⟩ = some (Value.bool a) ∧ w'.cell? ⟨j, 0, none⟩ = some (Value.bool b)) (go_keep)
    (first | (go_at_call 58; refine (eitherLeaf_any a b _).mono ?_; rintro e w9 ⟨x1, rfl, r1, b1⟩; obtain ⟨q1, rfl⟩ := TA.root r1; have c1 := cell_keep b1 k0; have c2 := cell_keep b1 j0; replace r1 := hide r1; replace b1 := hide b1))
  all_goals
    go_wp2_with fail
    go_ret
    exact ⟨_, rfl, unhide r1, below_trans (below_drew _) (unhide b1)⟩

set_option maxHeartbeats 1000000 in
theorem sideBBT_any (a : Tr Bool) (b : Tr Bool) : ∀ (w : World) (v u : Value), TB w v a → TB w u b →
    Calls Tryz.prog 57 #[v, u, .func (.func 58) #[] #[], .func (.func 59) #[] #[]] w fun e w' => ∃ x, e = .returned x ∧ TB w' x (zip (fun x y => x || y) a b) ∧ Below w.heap.size w w' := by
  induction a, b using side_ind with
  | leaves a b => intro w v u h g; exact sideBBT_leaf a b w v u h g
  | halves a b hl ihl ihr =>
    intro w v u h g
    have A1 := isLeafB_of h
    have B1 := isLeafB_of g
    have A2 := hide (halvesB_of h)
    have B2 := hide (fun n => halvesB_of (TA.below g (below_drewN w n)))
    obtain ⟨k, rfl⟩ := TA.root h
    obtain ⟨j, rfl⟩ := TA.root g
    unfold zip
    rw [side_halves _ _ a b hl]
    clear h g
    replace ihl := hide ihl
    replace ihr := hide ihr
    cases fa : isLeaf a with
    | false =>
      rw [fa] at A1
      replace A1 := hide A1
      clear fa hl B1
      go_enter Tryz.func57, Tryz.ntmps57
      go_wp2_with fail
      refine (unhide A1).mono ?_
      rintro e w1 ⟨rfl, rfl⟩
      go_wp2_with fail
      refine (unhide A2).mono ?_
      rintro e w1 ⟨vl, vr, rfl, tl, tr, n, rfl⟩
      replace tl := hide tl
      replace tr := hide tr
      obtain ⟨kl, rfl⟩ := TA.root (unhide tl)
      obtain ⟨kr, rfl⟩ := TA.root (unhide tr)
      go_wp2_with fail
      refine (unhide B2 n).mono ?_
      rintro e w1 ⟨ul, ur, rfl, sl, sr, m, rfl⟩
      replace sl := hide sl
      replace sr := hide sr
      obtain ⟨jl, rfl⟩ := TA.root (unhide sl)
      obtain ⟨jr, rfl⟩ := TA.root (unhide sr)
      go_wp2_with fail
      refine (unhide ihl _ _ _ (TA.below (unhide tl) (below_drewN _ _)) (TA.below (unhide sl) (below_draws _ _ _))).mono ?_
      rintro e w1 ⟨x1, rfl, r1, b1⟩
      obtain ⟨q1, rfl⟩ := TA.root r1
      replace r1 := hide r1
      replace b1 := hide b1
      go_wp2_with fail
      refine (unhide ihr _ _ _ (TA.below (TA.below (unhide tr) (below_drewN _ _)) (unhide b1)) (TA.below (TA.below (unhide sr) (below_draws _ _ _)) (unhide b1))).mono ?_
      rintro e w2 ⟨x2, rfl, r2, b2⟩
      obtain ⟨q2, rfl⟩ := TA.root r2
      replace r2 := hide r2
      replace b2 := hide b2
      go_wp2_with fail
      refine (mergeB_of (TA.below (unhide r1) (unhide b2)) (unhide r2)).mono ?_
      rintro e w3 ⟨x3, rfl, r3, b3⟩
      obtain ⟨q3, rfl⟩ := TA.root r3
      replace r3 := hide r3
      replace b3 := hide b3
      go_wp2_with fail
      go_ret
      exact ⟨_, rfl, unhide r3, below_trans (below_trans (below_trans (below_drewN _ _) (unhide b1)) (unhide b2)) (unhide b3)⟩
    | true =>
      have fb : isLeaf b = false := by rw [fa] at hl; simpa using hl
      rw [fa] at A1
      rw [fb] at B1
      replace A1 := hide A1
      replace B1 := hide B1
      clear fa fb hl
      go_enter Tryz.func57, Tryz.ntmps57
      go_wp2_with fail
      refine (unhide A1).mono ?_
      rintro e w1 ⟨rfl, rfl⟩
      go_wp2_with fail
      refine (unhide B1).mono ?_
      rintro e w1 ⟨rfl, rfl⟩
      go_wp2_with fail
      refine (unhide A2).mono ?_
      rintro e w1 ⟨vl, vr, rfl, tl, tr, n, rfl⟩
      replace tl := hide tl
      replace tr := hide tr
      obtain ⟨kl, rfl⟩ := TA.root (unhide tl)
      obtain ⟨kr, rfl⟩ := TA.root (unhide tr)
      go_wp2_with fail
      refine (unhide B2 n).mono ?_
      rintro e w1 ⟨ul, ur, rfl, sl, sr, m, rfl⟩
      replace sl := hide sl
      replace sr := hide sr
      obtain ⟨jl, rfl⟩ := TA.root (unhide sl)
      obtain ⟨jr, rfl⟩ := TA.root (unhide sr)
      go_wp2_with fail
      refine (unhide ihl _ _ _ (TA.below (unhide tl) (below_drewN _ _)) (TA.below (unhide sl) (below_draws _ _ _))).mono ?_
      rintro e w1 ⟨x1, rfl, r1, b1⟩
      obtain ⟨q1, rfl⟩ := TA.root r1
      replace r1 := hide r1
      replace b1 := hide b1
      go_wp2_with fail
      refine (unhide ihr _ _ _ (TA.below (TA.below (unhide tr) (below_drewN _ _)) (unhide b1)) (TA.below (TA.below (unhide sr) (below_draws _ _ _)) (unhide b1))).mono ?_
      rintro e w2 ⟨x2, rfl, r2, b2⟩
      obtain ⟨q2, rfl⟩ := TA.root r2
      replace r2 := hide r2
      replace b2 := hide b2
      go_wp2_with fail
      refine (mergeB_of (TA.below (unhide r1) (unhide b2)) (unhide r2)).mono ?_
      rintro e w3 ⟨x3, rfl, r3, b3⟩
      obtain ⟨q3, rfl⟩ := TA.root r3
      replace r3 := hide r3
      replace b3 := hide b3
      go_wp2_with fail
      go_ret
      exact ⟨_, rfl, unhide r3, below_trans (below_trans (below_trans (below_drewN _ _) (unhide b1)) (unhide b2)) (unhide b3)⟩

set_option maxHeartbeats 1000000 in
theorem sideIIT_leaf (a : Nat) (b : Nat) (w : World) (v u : Value) (h : TI w v (.leaf a)) (g : TI w u (.leaf b)) :
    Calls Tryz.prog 60 #[v, u, .func (.func 61) #[] #[], .func (.func 62) #[] #[]] w fun e w' => ∃ x, e = .returned x ∧ TI w' x (.leaf (max a b)) ∧ Below w.heap.size w w' := by
  obtain ⟨k, rfl, hk⟩ := h
  obtain ⟨j, rfl, hj⟩ := g
  obtain ⟨k0, k1, _⟩ := cells3 hk
  obtain ⟨j0, j1, _⟩ := cells3 hj
  clear hk hj
  have L := hide (greaterLeaf_any a b w)
  go_enter Tryz.func60, Tryz.ntmps60
  go_wp2_with (first
    | (go_at_call_of 103 (Value.pointer (some (Addr.mk k 0 none))); refine (isLeafI_yes k _ k1).mono ?_; rintro e w' ⟨rfl, rfl⟩)
    | (go_at_call_of 103 (Value.pointer (some (Addr.mk j 0 none))); refine (isLeafI_yes j _ j1).mono ?_; rintro e w' ⟨rfl, rfl⟩))
  go_region_held3 (fun w' => w'.cell? ⟨k, 0, none⟩ = some (Value.int .i64 (a : Int)) ∧ w'.cell? ⟨j, 0, none⟩ = some (Value.int .i64 (b : Int))) (go_keep)
    (first | (go_at_call 61; refine (greaterLeaf_any a b _).mono ?_; rintro e w9 ⟨x1, rfl, r1, b1⟩; obtain ⟨q1, rfl⟩ := TA.root r1; have c1 := cell_keep b1 k0; have c2 := cell_keep b1 j0; replace r1 := hide r1; replace b1 := hide b1))
  all_goals
    go_wp2_with fail
    go_ret
    exact ⟨_, rfl, unhide r1, below_trans (below_drew _) (unhide b1)⟩

set_option maxHeartbeats 1000000 in
theorem sideIIT_any (a : Tr Nat) (b : Tr Nat) : ∀ (w : World) (v u : Value), TI w v a → TI w u b →
    Calls Tryz.prog 60 #[v, u, .func (.func 61) #[] #[], .func (.func 62) #[] #[]] w fun e w' => ∃ x, e = .returned x ∧ TI w' x (zip (fun x y => max x y) a b) ∧ Below w.heap.size w w' := by
  induction a, b using side_ind with
  | leaves a b => intro w v u h g; exact sideIIT_leaf a b w v u h g
  | halves a b hl ihl ihr =>
    intro w v u h g
    have A1 := isLeafI_of h
    have B1 := isLeafI_of g
    have A2 := hide (halvesI_of h)
    have B2 := hide (fun n => halvesI_of (TA.below g (below_drewN w n)))
    obtain ⟨k, rfl⟩ := TA.root h
    obtain ⟨j, rfl⟩ := TA.root g
    unfold zip
    rw [side_halves _ _ a b hl]
    clear h g
    replace ihl := hide ihl
    replace ihr := hide ihr
    cases fa : isLeaf a with
    | false =>
      rw [fa] at A1
      replace A1 := hide A1
      clear fa hl B1
      go_enter Tryz.func60, Tryz.ntmps60
      go_wp2_with fail
      refine (unhide A1).mono ?_
      rintro e w1 ⟨rfl, rfl⟩
      go_wp2_with fail
      refine (unhide A2).mono ?_
      rintro e w1 ⟨vl, vr, rfl, tl, tr, n, rfl⟩
      replace tl := hide tl
      replace tr := hide tr
      obtain ⟨kl, rfl⟩ := TA.root (unhide tl)
      obtain ⟨kr, rfl⟩ := TA.root (unhide tr)
      go_wp2_with fail
      refine (unhide B2 n).mono ?_
      rintro e w1 ⟨ul, ur, rfl, sl, sr, m, rfl⟩
      replace sl := hide sl
      replace sr := hide sr
      obtain ⟨jl, rfl⟩ := TA.root (unhide sl)
      obtain ⟨jr, rfl⟩ := TA.root (unhide sr)
      go_wp2_with fail
      refine (unhide ihl _ _ _ (TA.below (unhide tl) (below_drewN _ _)) (TA.below (unhide sl) (below_draws _ _ _))).mono ?_
      rintro e w1 ⟨x1, rfl, r1, b1⟩
      obtain ⟨q1, rfl⟩ := TA.root r1
      replace r1 := hide r1
      replace b1 := hide b1
      go_wp2_with fail
      refine (unhide ihr _ _ _ (TA.below (TA.below (unhide tr) (below_drewN _ _)) (unhide b1)) (TA.below (TA.below (unhide sr) (below_draws _ _ _)) (unhide b1))).mono ?_
      rintro e w2 ⟨x2, rfl, r2, b2⟩
      obtain ⟨q2, rfl⟩ := TA.root r2
      replace r2 := hide r2
      replace b2 := hide b2
      go_wp2_with fail
      refine (mergeI_of (TA.below (unhide r1) (unhide b2)) (unhide r2)).mono ?_
      rintro e w3 ⟨x3, rfl, r3, b3⟩
      obtain ⟨q3, rfl⟩ := TA.root r3
      replace r3 := hide r3
      replace b3 := hide b3
      go_wp2_with fail
      go_ret
      exact ⟨_, rfl, unhide r3, below_trans (below_trans (below_trans (below_drewN _ _) (unhide b1)) (unhide b2)) (unhide b3)⟩
    | true =>
      have fb : isLeaf b = false := by rw [fa] at hl; simpa using hl
      rw [fa] at A1
      rw [fb] at B1
      replace A1 := hide A1
      replace B1 := hide B1
      clear fa fb hl
      go_enter Tryz.func60, Tryz.ntmps60
      go_wp2_with fail
      refine (unhide A1).mono ?_
      rintro e w1 ⟨rfl, rfl⟩
      go_wp2_with fail
      refine (unhide B1).mono ?_
      rintro e w1 ⟨rfl, rfl⟩
      go_wp2_with fail
      refine (unhide A2).mono ?_
      rintro e w1 ⟨vl, vr, rfl, tl, tr, n, rfl⟩
      replace tl := hide tl
      replace tr := hide tr
      obtain ⟨kl, rfl⟩ := TA.root (unhide tl)
      obtain ⟨kr, rfl⟩ := TA.root (unhide tr)
      go_wp2_with fail
      refine (unhide B2 n).mono ?_
      rintro e w1 ⟨ul, ur, rfl, sl, sr, m, rfl⟩
      replace sl := hide sl
      replace sr := hide sr
      obtain ⟨jl, rfl⟩ := TA.root (unhide sl)
      obtain ⟨jr, rfl⟩ := TA.root (unhide sr)
      go_wp2_with fail
      refine (unhide ihl _ _ _ (TA.below (unhide tl) (below_drewN _ _)) (TA.below (unhide sl) (below_draws _ _ _))).mono ?_
      rintro e w1 ⟨x1, rfl, r1, b1⟩
      obtain ⟨q1, rfl⟩ := TA.root r1
      replace r1 := hide r1
      replace b1 := hide b1
      go_wp2_with fail
      refine (unhide ihr _ _ _ (TA.below (TA.below (unhide tr) (below_drewN _ _)) (unhide b1)) (TA.below (TA.below (unhide sr) (below_draws _ _ _)) (unhide b1))).mono ?_
      rintro e w2 ⟨x2, rfl, r2, b2⟩
      obtain ⟨q2, rfl⟩ := TA.root r2
      replace r2 := hide r2
      replace b2 := hide b2
      go_wp2_with fail
      refine (mergeI_of (TA.below (unhide r1) (unhide b2)) (unhide r2)).mono ?_
      rintro e w3 ⟨x3, rfl, r3, b3⟩
      obtain ⟨q3, rfl⟩ := TA.root r3
      replace r3 := hide r3
      replace b3 := hide b3
      go_wp2_with fail
      go_ret
      exact ⟨_, rfl, unhide r3, below_trans (below_trans (below_trans (below_drewN _ _) (unhide b1)) (unhide b2)) (unhide b3)⟩

end Go.Proofs.YtoebmfhgaalcdaaGreatDoor
