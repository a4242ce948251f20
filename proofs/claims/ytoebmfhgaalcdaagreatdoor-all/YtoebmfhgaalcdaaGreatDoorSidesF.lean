/-
  Our own. SideBySide at its two instances that give a struct: count.fill, count.grow. (Laid by wip/mk/sides2.py: one text at two types.)
-/
import Derived.Test.YtoebmfhgaalcdaaGreatDoorWalkFill
import Derived.Test.YtoebmfhgaalcdaaGreatDoorWalkGrow
namespace Go.Proofs.YtoebmfhgaalcdaaGreatDoor
open Go.RowKit

theorem RF.set {N : Nat} {x y z : Value} {w : World} {c : Bool × Tr Nat} {u v : Value} (b : Bx 145 N x y w) (h : RF w z c) : RF ((w.setCell ⟨N, 0, none⟩ u).setCell ⟨N, 1, none⟩ v) z c := by
  obtain ⟨k, e, t⟩ := h
  exact ⟨k, e, b.tree (by decide) u v t⟩
theorem RG.set {N : Nat} {x y z : Value} {w : World} {c : Tr Nat × Option (Tr Nat)} {u v : Value} (b : Bx 150 N x y w) (h : RG w z c) : RG ((w.setCell ⟨N, 0, none⟩ u).setCell ⟨N, 1, none⟩ v) z c := by
  obtain ⟨k, p, e, t, o⟩ := h
  exact ⟨k, p, e, b.tree (by decide) u v t, RO.set b o u v⟩

set_option maxHeartbeats 1600000 in
theorem sideBIF_leaf (a : Bool) (b : Nat) (w : World) (v u : Value) (h : TB w v (.leaf a)) (g : TI w u (.leaf b))  :
    Calls Tryz.prog 110 #[v, u, .func (.func 111) #[] #[], .func (.func 112) #[] #[]] w fun e w' => ∃ x, e = .returned x ∧ RF w' x (fillLeaf a b) ∧ Below w.heap.size w w' := by
  have x0 := Bx.new 145 w (.bool false) (.pointer none)
  have b0 := below_alloc w (.cells #[.bool false, .pointer none] 145)
  have h1 := TA.below h b0
  have g1 := TA.below g b0
  clear h g
  obtain ⟨k, rfl, hk⟩ := h1
  obtain ⟨j, rfl, hj⟩ := g1
  obtain ⟨k0, k1, _⟩ := cells3 hk
  obtain ⟨j0, j1, _⟩ := cells3 hj
  have nk := x0.ne (by decide) hk
  have nj := x0.ne (by decide) hj
  clear hk hj
  replace x0 := hide x0
  replace b0 := hide b0
  have L := hide (fun w => fillLeaf_any a b  w)
  generalize (fillLeaf a b) = res at *
  go_enter Tryz.func110, Tryz.ntmps110
  go_wp2_with (first
    | (go_at_call 48; refine (isLeafB_yes k _ k1).mono ?_; rintro e w' ⟨rfl, rfl⟩)
    | (go_at_call 103; refine (isLeafI_yes j _ j1).mono ?_; rintro e w' ⟨rfl, rfl⟩))
  generalize w.alloc (.cells #[.bool false, .pointer none] 145) = W at *
  go_region_held3 (fun w' => w'.cell? ⟨k, 0, none⟩ = some (Value.bool a) ∧ w'.cell? ⟨j, 0, none⟩ = some (Value.int .i64 (b : Int)))
    (refine ⟨?_, ?_⟩ <;> (repeat first | assumption | refine cell_drew_keep ?_ | refine cell_set_keep (by assumption) ?_))
    (first | (go_at_call 111; refine (unhide L _).mono ?_; rintro e w9 ⟨x1, rfl, r1, b1⟩; have rr1 := r1; obtain ⟨q1, rfl, tt1⟩ := rr1; clear tt1; have c1 := cell_keep b1 k0; have c2 := cell_keep b1 j0; have x9 := ((unhide x0).keep (below_drew _)).keep b1; obtain ⟨cg0, cg1, cgf⟩ := x9.cells; replace x9 := hide x9; replace r1 := hide r1; replace b1 := hide b1))
  all_goals
    go_wp2_with fail
    have y := (unhide x9).set (.bool res.1) (.pointer (some ⟨q1, 0, none⟩))
    obtain ⟨y0, y1, _⟩ := y.cells
    refine ⟨rfl, .agg #[.bool res.1, .pointer (some ⟨q1, 0, none⟩)], ?_, _, rfl, (RF.set (unhide x9) (unhide r1)), (chain (chain (unhide b0) (Nat.le_refl _) (below_drew _)) (Nat.le_refl _) (unhide b1)).trans (below_set2 w9 (Nat.le_refl _) _ _)⟩
    simp [results, Tryz.results110, go_sem, y0, y1]

set_option maxHeartbeats 3200000 in
theorem sideBIF_any (a : Tr Bool) (b : Tr Nat) :  ∀ (w : World) (v u : Value), TB w v a → TI w u b →
    Calls Tryz.prog 110 #[v, u, .func (.func 111) #[] #[], .func (.func 112) #[] #[]] w fun e w' => ∃ x, e = .returned x ∧ RF w' x (fillP a b) ∧ Below w.heap.size w w' := by
  induction a, b using side_ind with
  | leaves a b => intro w v u h g; exact sideBIF_leaf a b w v u h g
  | halves a b hl ihl ihr =>
    intro w v u h g
    have x0 := hide (Bx.new 145 w (.bool false) (.pointer none))
    have b0 := below_alloc w (.cells #[.bool false, .pointer none] 145)
    have h1 := TA.below h b0
    have g1 := TA.below g b0
    clear h g
    have A1 := isLeafB_of h1
    have B1 := isLeafI_of g1
    have A2 := hide (halvesB_of h1)
    have B2 := hide (fun n => halvesI_of (TA.below g1 (below_drewN _ n)))
    obtain ⟨k, rfl⟩ := TA.root h1
    obtain ⟨j, rfl⟩ := TA.root g1
    have e : fillP a b = fillHalves (fillP (halfL a) (halfL b)) (fillP (halfR a) (halfR b)) := side_halves _ _ a b hl
    rw [e]
    skip
    generalize fillP (halfL a) (halfL b) = cc at *
    generalize fillP (halfR a) (halfR b) = dd at *
    clear h1 g1 e
    replace ihl := hide ihl
    replace ihr := hide ihr
    replace b0 := hide b0
    cases fa : isLeaf a with
    | false =>
      rw [fa] at A1
      replace A1 := hide A1
      clear fa hl B1
      go_enter Tryz.func110, Tryz.ntmps110
      go_wp2_with fail
      generalize w.alloc (.cells #[.bool false, .pointer none] 145) = W at *
      refine (unhide A1).mono ?_
      rintro e w1 ⟨rfl, hw1⟩
      rw [hw1]
      clear hw1
      go_wp2_with fail
      refine (unhide A2).mono ?_
      rintro e w1 ⟨vl, vr, rfl, tl, tr, n, rfl⟩
      replace tl := hide tl
      replace tr := hide tr
      obtain ⟨kl, rfl⟩ := TA.root (unhide tl)
      obtain ⟨kr, rfl⟩ := TA.root (unhide tr)
      go_wp2_with fail
      refine (unhide B2 n).mono ?_
      rintro e w1 ⟨ul, ur, rfl, sl, sr, m, rfl⟩
      replace sl := hide sl
      replace sr := hide sr
      obtain ⟨jl, rfl⟩ := TA.root (unhide sl)
      obtain ⟨jr, rfl⟩ := TA.root (unhide sr)
      have X0 := hide ((unhide x0).keep (below_drewN W (n + m)))
      have B0 := hide (chain (unhide b0) (Nat.le_refl _) (below_drewN W (n + m)))
      have tr1 := hide (TA.below (unhide tr) (below_drewN W (n + m)))
      have sr1 := hide (TA.below (unhide sr) (below_draws W n (n + m)))
      clear tr sr
      go_wp2_with fail
      refine (unhide ihl _ _ _ (TA.below (unhide tl) (below_drewN _ _)) (TA.below (unhide sl) (below_draws _ _ _))).mono ?_
      rintro e w1 ⟨x1, rfl, r1, b1⟩
      have rr1 := r1; obtain ⟨q1, rfl, tt1⟩ := rr1; clear tt1
      have X1 := hide ((unhide X0).keep b1)
      have B1 := hide (chain (unhide B0) (Nat.le_refl _) b1)
      have tr2 := hide (TA.below (TA.below (unhide tr1) b1) (below_alloc w1 (.cells #[.bool cc.1, .pointer (some ⟨q1, 0, none⟩)] 145)))
      have sr2 := hide (TA.below (TA.below (unhide sr1) b1) (below_alloc w1 (.cells #[.bool cc.1, .pointer (some ⟨q1, 0, none⟩)] 145)))
      have r1a := hide (r1.below (below_alloc w1 (.cells #[.bool cc.1, .pointer (some ⟨q1, 0, none⟩)] 145)))
      have X1a := hide ((unhide X1).keep (below_alloc w1 (.cells #[.bool cc.1, .pointer (some ⟨q1, 0, none⟩)] 145)))
      have Y1 := hide (Bx.new 145 w1 (.bool cc.1) (.pointer (some ⟨q1, 0, none⟩)))
      have B1a := hide (chain (unhide B1) (Nat.le_refl _) (below_alloc w1 (.cells #[.bool cc.1, .pointer (some ⟨q1, 0, none⟩)] 145)))
      clear X0 B0 tr1 sr1 tl sl r1 b1 B1 X1
      go_wp2_with fail
      refine (unhide ihr _ _ _ (unhide tr2) (unhide sr2)).mono ?_
      rintro e w2 ⟨x2, rfl, r2, b2⟩
      have rr2 := r2; obtain ⟨q2, rfl, tt2⟩ := rr2; clear tt2
      have X2 := (unhide X1a).keep b2
      have Y2 := (unhide Y1).keep b2
      have l2 := lt_of_heap Y2
      have n2 : ¬ w2.heap.size = w1.heap.size := by omega
      have n3 : ¬ w1.heap.size = w2.heap.size := by omega
      have X3 := hide (X2.keep (below_alloc w2 (.cells #[.bool dd.1, .pointer (some ⟨q2, 0, none⟩)] 145)))
      have r1b := hide (((unhide r1a).below b2).below (below_alloc w2 (.cells #[.bool dd.1, .pointer (some ⟨q2, 0, none⟩)] 145)))
      have r2b := hide (r2.below (below_alloc w2 (.cells #[.bool dd.1, .pointer (some ⟨q2, 0, none⟩)] 145)))
      have B2a := hide (chain (chain (unhide B1a) (Nat.le_refl _) b2) (Nat.le_refl _) (below_alloc w2 (.cells #[.bool dd.1, .pointer (some ⟨q2, 0, none⟩)] 145)))
      obtain ⟨p0, p1, _⟩ := Y2.cells
      clear tr2 sr2 r1a X1a Y1 B1a r2 b2 X2 Y2
      go_wp2_with fail
      refine (fillHalves_of (unhide r1b) (unhide r2b)).mono ?_
      rintro e w3 ⟨x3, rfl, r3, b3⟩
      have rr3 := r3; obtain ⟨q3, rfl, tt3⟩ := rr3; clear tt3
      have X4 := (unhide X3).keep b3
      have B3 := hide (chain (unhide B2a) (Nat.le_refl _) b3)
      obtain ⟨q0, q1, qf⟩ := X4.cells
      replace X4 := hide X4
      replace r3 := hide r3
      clear b3 B2a X3 r1b r2b p0 p1
      go_wp2_with fail
      have y := (unhide X4).set (.bool (fillHalves cc dd).1) (.pointer (some ⟨q3, 0, none⟩))
      obtain ⟨y0, y1, _⟩ := y.cells
      refine ⟨rfl, .agg #[.bool (fillHalves cc dd).1, .pointer (some ⟨q3, 0, none⟩)], ?_, _, rfl, (RF.set (unhide X4) (unhide r3)), (unhide B3).trans (below_set2 w3 (Nat.le_refl _) _ _)⟩
      simp [results, Tryz.results110, go_sem, y0, y1]
    | true =>
      have fb : isLeaf b = false := by rw [fa] at hl; simpa using hl
      rw [fa] at A1
      rw [fb] at B1
      replace A1 := hide A1
      replace B1 := hide B1
      clear fa fb hl
      go_enter Tryz.func110, Tryz.ntmps110
      go_wp2_with fail
      generalize w.alloc (.cells #[.bool false, .pointer none] 145) = W at *
      refine (unhide A1).mono ?_
      rintro e w1 ⟨rfl, hw1⟩
      rw [hw1]
      clear hw1
      go_wp2_with fail
      refine (unhide B1).mono ?_
      rintro e w1 ⟨rfl, hw1⟩
      rw [hw1]
      clear hw1
      go_wp2_with fail
      refine (unhide A2).mono ?_
      rintro e w1 ⟨vl, vr, rfl, tl, tr, n, rfl⟩
      replace tl := hide tl
      replace tr := hide tr
      obtain ⟨kl, rfl⟩ := TA.root (unhide tl)
      obtain ⟨kr, rfl⟩ := TA.root (unhide tr)
      go_wp2_with fail
      refine (unhide B2 n).mono ?_
      rintro e w1 ⟨ul, ur, rfl, sl, sr, m, rfl⟩
      replace sl := hide sl
      replace sr := hide sr
      obtain ⟨jl, rfl⟩ := TA.root (unhide sl)
      obtain ⟨jr, rfl⟩ := TA.root (unhide sr)
      have X0 := hide ((unhide x0).keep (below_drewN W (n + m)))
      have B0 := hide (chain (unhide b0) (Nat.le_refl _) (below_drewN W (n + m)))
      have tr1 := hide (TA.below (unhide tr) (below_drewN W (n + m)))
      have sr1 := hide (TA.below (unhide sr) (below_draws W n (n + m)))
      clear tr sr
      go_wp2_with fail
      refine (unhide ihl _ _ _ (TA.below (unhide tl) (below_drewN _ _)) (TA.below (unhide sl) (below_draws _ _ _))).mono ?_
      rintro e w1 ⟨x1, rfl, r1, b1⟩
      have rr1 := r1; obtain ⟨q1, rfl, tt1⟩ := rr1; clear tt1
      have X1 := hide ((unhide X0).keep b1)
      have B1 := hide (chain (unhide B0) (Nat.le_refl _) b1)
      have tr2 := hide (TA.below (TA.below (unhide tr1) b1) (below_alloc w1 (.cells #[.bool cc.1, .pointer (some ⟨q1, 0, none⟩)] 145)))
      have sr2 := hide (TA.below (TA.below (unhide sr1) b1) (below_alloc w1 (.cells #[.bool cc.1, .pointer (some ⟨q1, 0, none⟩)] 145)))
      have r1a := hide (r1.below (below_alloc w1 (.cells #[.bool cc.1, .pointer (some ⟨q1, 0, none⟩)] 145)))
      have X1a := hide ((unhide X1).keep (below_alloc w1 (.cells #[.bool cc.1, .pointer (some ⟨q1, 0, none⟩)] 145)))
      have Y1 := hide (Bx.new 145 w1 (.bool cc.1) (.pointer (some ⟨q1, 0, none⟩)))
      have B1a := hide (chain (unhide B1) (Nat.le_refl _) (below_alloc w1 (.cells #[.bool cc.1, .pointer (some ⟨q1, 0, none⟩)] 145)))
      clear X0 B0 tr1 sr1 tl sl r1 b1 B1 X1
      go_wp2_with fail
      refine (unhide ihr _ _ _ (unhide tr2) (unhide sr2)).mono ?_
      rintro e w2 ⟨x2, rfl, r2, b2⟩
      have rr2 := r2; obtain ⟨q2, rfl, tt2⟩ := rr2; clear tt2
      have X2 := (unhide X1a).keep b2
      have Y2 := (unhide Y1).keep b2
      have l2 := lt_of_heap Y2
      have n2 : ¬ w2.heap.size = w1.heap.size := by omega
      have n3 : ¬ w1.heap.size = w2.heap.size := by omega
      have X3 := hide (X2.keep (below_alloc w2 (.cells #[.bool dd.1, .pointer (some ⟨q2, 0, none⟩)] 145)))
      have r1b := hide (((unhide r1a).below b2).below (below_alloc w2 (.cells #[.bool dd.1, .pointer (some ⟨q2, 0, none⟩)] 145)))
      have r2b := hide (r2.below (below_alloc w2 (.cells #[.bool dd.1, .pointer (some ⟨q2, 0, none⟩)] 145)))
      have B2a := hide (chain (chain (unhide B1a) (Nat.le_refl _) b2) (Nat.le_refl _) (below_alloc w2 (.cells #[.bool dd.1, .pointer (some ⟨q2, 0, none⟩)] 145)))
      obtain ⟨p0, p1, _⟩ := Y2.cells
      clear tr2 sr2 r1a X1a Y1 B1a r2 b2 X2 Y2
      go_wp2_with fail
      refine (fillHalves_of (unhide r1b) (unhide r2b)).mono ?_
      rintro e w3 ⟨x3, rfl, r3, b3⟩
      have rr3 := r3; obtain ⟨q3, rfl, tt3⟩ := rr3; clear tt3
      have X4 := (unhide X3).keep b3
      have B3 := hide (chain (unhide B2a) (Nat.le_refl _) b3)
      obtain ⟨q0, q1, qf⟩ := X4.cells
      replace X4 := hide X4
      replace r3 := hide r3
      clear b3 B2a X3 r1b r2b p0 p1
      go_wp2_with fail
      have y := (unhide X4).set (.bool (fillHalves cc dd).1) (.pointer (some ⟨q3, 0, none⟩))
      obtain ⟨y0, y1, _⟩ := y.cells
      refine ⟨rfl, .agg #[.bool (fillHalves cc dd).1, .pointer (some ⟨q3, 0, none⟩)], ?_, _, rfl, (RF.set (unhide X4) (unhide r3)), (unhide B3).trans (below_set2 w3 (Nat.le_refl _) _ _)⟩
      simp [results, Tryz.results110, go_sem, y0, y1]

set_option maxHeartbeats 1600000 in
theorem sideBIG_leaf (a : Bool) (b : Nat) (w : World) (v u : Value) (h : TB w v (.leaf a)) (g : TI w u (.leaf b)) (hb : b ≤ 4611686018427387904) :
    Calls Tryz.prog 113 #[v, u, .func (.func 114) #[] #[], .func (.func 115) #[] #[]] w fun e w' => ∃ x, e = .returned x ∧ RG w' x (growLeaf a b) ∧ Below w.heap.size w w' := by
  have x0 := Bx.new 150 w (.pointer none) (.pointer none)
  have b0 := below_alloc w (.cells #[.pointer none, .pointer none] 150)
  have h1 := TA.below h b0
  have g1 := TA.below g b0
  clear h g
  obtain ⟨k, rfl, hk⟩ := h1
  obtain ⟨j, rfl, hj⟩ := g1
  obtain ⟨k0, k1, _⟩ := cells3 hk
  obtain ⟨j0, j1, _⟩ := cells3 hj
  have nk := x0.ne (by decide) hk
  have nj := x0.ne (by decide) hj
  clear hk hj
  replace x0 := hide x0
  replace b0 := hide b0
  have L := hide (fun w => growLeaf_any a b hb w)
  generalize (growLeaf a b) = res at *
  go_enter Tryz.func113, Tryz.ntmps113
  go_wp2_with (first
    | (go_at_call 48; refine (isLeafB_yes k _ k1).mono ?_; rintro e w' ⟨rfl, rfl⟩)
    | (go_at_call 103; refine (isLeafI_yes j _ j1).mono ?_; rintro e w' ⟨rfl, rfl⟩))
  generalize w.alloc (.cells #[.pointer none, .pointer none] 150) = W at *
  go_region_held3 (fun w' => w'.cell? ⟨k, 0, none⟩ = some (Value.bool a) ∧ w'.cell? ⟨j, 0, none⟩ = some (Value.int .i64 (b : Int)))
    (refine ⟨?_, ?_⟩ <;> (repeat first | assumption | refine cell_drew_keep ?_ | refine cell_set_keep (by assumption) ?_))
    (first | (go_at_call 114; refine (unhide L _).mono ?_; rintro e w9 ⟨x1, rfl, r1, b1⟩; have rr1 := r1; obtain ⟨q1, g1, rfl, tt1, oo1⟩ := rr1; clear tt1 oo1; have c1 := cell_keep b1 k0; have c2 := cell_keep b1 j0; have x9 := ((unhide x0).keep (below_drew _)).keep b1; obtain ⟨cg0, cg1, cgf⟩ := x9.cells; replace x9 := hide x9; replace r1 := hide r1; replace b1 := hide b1))
  all_goals
    go_wp2_with fail
    have y := (unhide x9).set (.pointer (some ⟨q1, 0, none⟩)) (.pointer g1)
    obtain ⟨y0, y1, _⟩ := y.cells
    refine ⟨rfl, .agg #[.pointer (some ⟨q1, 0, none⟩), .pointer g1], ?_, _, rfl, (RG.set (unhide x9) (unhide r1)), (chain (chain (unhide b0) (Nat.le_refl _) (below_drew _)) (Nat.le_refl _) (unhide b1)).trans (below_set2 w9 (Nat.le_refl _) _ _)⟩
    simp [results, Tryz.results113, go_sem, y0, y1]

set_option maxHeartbeats 3200000 in
theorem sideBIG_any (a : Tr Bool) (b : Tr Nat) : ∀ hh, hh ≤ 8 → deepT a ≤ hh → deepT b ≤ hh → highest b ≤ 4611686018427387904 → ∀ (w : World) (v u : Value), TB w v a → TI w u b →
    Calls Tryz.prog 113 #[v, u, .func (.func 114) #[] #[], .func (.func 115) #[] #[]] w fun e w' => ∃ x, e = .returned x ∧ RG w' x (growP a b) ∧ Below w.heap.size w w' := by
  induction a, b using side_ind with
  | leaves a b => intro _ _ _ _ hb w v u h g; exact sideBIG_leaf a b w v u h g hb
  | halves a b hl ihl ihr =>
    intro hh h8 d1 d2 hi w v u h g
    have x0 := hide (Bx.new 150 w (.pointer none) (.pointer none))
    have b0 := below_alloc w (.cells #[.pointer none, .pointer none] 150)
    have h1 := TA.below h b0
    have g1 := TA.below g b0
    clear h g
    have A1 := isLeafB_of h1
    have B1 := isLeafI_of g1
    have A2 := hide (halvesB_of h1)
    have B2 := hide (fun n => halvesI_of (TA.below g1 (below_drewN _ n)))
    obtain ⟨k, rfl⟩ := TA.root h1
    obtain ⟨j, rfl⟩ := TA.root g1
    have e : growP a b = growHalves (growP (halfL a) (halfL b)) (growP (halfR a) (halfR b)) := side_halves _ _ a b hl
    rw [e]
    obtain ⟨hk, rfl⟩ := deep_two hl d1 d2
    have ihl := ihl hk (by omega) (deep_halfL a hk d1) (deep_halfL b hk d2) (Nat.le_trans (high_halfL b) hi)
    have ihr := ihr hk (by omega) (deep_halfR a hk d1) (deep_halfR b hk d2) (Nat.le_trans (high_halfR b) hi)
    have DL := growP_deep (halfL a) (halfL b) hk (deep_halfL a hk d1) (deep_halfL b hk d2)
    have DR := growP_deep (halfR a) (halfR b) hk (deep_halfR a hk d1) (deep_halfR b hk d2)
    have E1 : deepT (growP (halfL a) (halfL b)).1 ≤ 7 := by omega
    have E2 : deepT (growP (halfR a) (halfR b)).1 ≤ 7 := by omega
    have E3 : ∀ t, (growP (halfL a) (halfL b)).2 = some t → deepT t ≤ 7 := fun t ht => by have := DL.2 t ht; omega
    have E4 : ∀ t, (growP (halfR a) (halfR b)).2 = some t → deepT t ≤ 7 := fun t ht => by have := DR.2 t ht; omega
    have HH := hide (fun w x y (h : RG w x (growP (halfL a) (halfL b))) (g : RG w y (growP (halfR a) (halfR b))) => growHalves_of h g E1 E2 E3 E4)
    clear DL DR E1 E2 E3 E4 d1 d2 h8 hi
    generalize growP (halfL a) (halfL b) = cc at *
    generalize growP (halfR a) (halfR b) = dd at *
    clear h1 g1 e
    replace ihl := hide ihl
    replace ihr := hide ihr
    replace b0 := hide b0
    cases fa : isLeaf a with
    | false =>
      rw [fa] at A1
      replace A1 := hide A1
      clear fa hl B1
      go_enter Tryz.func113, Tryz.ntmps113
      go_wp2_with fail
      generalize w.alloc (.cells #[.pointer none, .pointer none] 150) = W at *
      refine (unhide A1).mono ?_
      rintro e w1 ⟨rfl, hw1⟩
      rw [hw1]
      clear hw1
      go_wp2_with fail
      refine (unhide A2).mono ?_
      rintro e w1 ⟨vl, vr, rfl, tl, tr, n, rfl⟩
      replace tl := hide tl
      replace tr := hide tr
      obtain ⟨kl, rfl⟩ := TA.root (unhide tl)
      obtain ⟨kr, rfl⟩ := TA.root (unhide tr)
      go_wp2_with fail
      refine (unhide B2 n).mono ?_
      rintro e w1 ⟨ul, ur, rfl, sl, sr, m, rfl⟩
      replace sl := hide sl
      replace sr := hide sr
      obtain ⟨jl, rfl⟩ := TA.root (unhide sl)
      obtain ⟨jr, rfl⟩ := TA.root (unhide sr)
      have X0 := hide ((unhide x0).keep (below_drewN W (n + m)))
      have B0 := hide (chain (unhide b0) (Nat.le_refl _) (below_drewN W (n + m)))
      have tr1 := hide (TA.below (unhide tr) (below_drewN W (n + m)))
      have sr1 := hide (TA.below (unhide sr) (below_draws W n (n + m)))
      clear tr sr
      go_wp2_with fail
      refine (unhide ihl _ _ _ (TA.below (unhide tl) (below_drewN _ _)) (TA.below (unhide sl) (below_draws _ _ _))).mono ?_
      rintro e w1 ⟨x1, rfl, r1, b1⟩
      have rr1 := r1; obtain ⟨q1, g1, rfl, tt1, oo1⟩ := rr1; clear tt1 oo1
      have X1 := hide ((unhide X0).keep b1)
      have B1 := hide (chain (unhide B0) (Nat.le_refl _) b1)
      have tr2 := hide (TA.below (TA.below (unhide tr1) b1) (below_alloc w1 (.cells #[.pointer (some ⟨q1, 0, none⟩), .pointer g1] 150)))
      have sr2 := hide (TA.below (TA.below (unhide sr1) b1) (below_alloc w1 (.cells #[.pointer (some ⟨q1, 0, none⟩), .pointer g1] 150)))
      have r1a := hide (r1.below (below_alloc w1 (.cells #[.pointer (some ⟨q1, 0, none⟩), .pointer g1] 150)))
      have X1a := hide ((unhide X1).keep (below_alloc w1 (.cells #[.pointer (some ⟨q1, 0, none⟩), .pointer g1] 150)))
      have Y1 := hide (Bx.new 150 w1 (.pointer (some ⟨q1, 0, none⟩)) (.pointer g1))
      have B1a := hide (chain (unhide B1) (Nat.le_refl _) (below_alloc w1 (.cells #[.pointer (some ⟨q1, 0, none⟩), .pointer g1] 150)))
      clear X0 B0 tr1 sr1 tl sl r1 b1 B1 X1
      go_wp2_with fail
      refine (unhide ihr _ _ _ (unhide tr2) (unhide sr2)).mono ?_
      rintro e w2 ⟨x2, rfl, r2, b2⟩
      have rr2 := r2; obtain ⟨q2, g2, rfl, tt2, oo2⟩ := rr2; clear tt2 oo2
      have X2 := (unhide X1a).keep b2
      have Y2 := (unhide Y1).keep b2
      have l2 := lt_of_heap Y2
      have n2 : ¬ w2.heap.size = w1.heap.size := by omega
      have n3 : ¬ w1.heap.size = w2.heap.size := by omega
      have X3 := hide (X2.keep (below_alloc w2 (.cells #[.pointer (some ⟨q2, 0, none⟩), .pointer g2] 150)))
      have r1b := hide (((unhide r1a).below b2).below (below_alloc w2 (.cells #[.pointer (some ⟨q2, 0, none⟩), .pointer g2] 150)))
      have r2b := hide (r2.below (below_alloc w2 (.cells #[.pointer (some ⟨q2, 0, none⟩), .pointer g2] 150)))
      have B2a := hide (chain (chain (unhide B1a) (Nat.le_refl _) b2) (Nat.le_refl _) (below_alloc w2 (.cells #[.pointer (some ⟨q2, 0, none⟩), .pointer g2] 150)))
      obtain ⟨p0, p1, _⟩ := Y2.cells
      clear tr2 sr2 r1a X1a Y1 B1a r2 b2 X2 Y2
      go_wp2_with fail
      refine (unhide HH _ _ _ (unhide r1b) (unhide r2b)).mono ?_
      rintro e w3 ⟨x3, rfl, r3, b3⟩
      have rr3 := r3; obtain ⟨q3, g3, rfl, tt3, oo3⟩ := rr3; clear tt3 oo3
      have X4 := (unhide X3).keep b3
      have B3 := hide (chain (unhide B2a) (Nat.le_refl _) b3)
      obtain ⟨q0, q1, qf⟩ := X4.cells
      replace X4 := hide X4
      replace r3 := hide r3
      clear b3 B2a X3 r1b r2b p0 p1
      go_wp2_with fail
      have y := (unhide X4).set (.pointer (some ⟨q3, 0, none⟩)) (.pointer g3)
      obtain ⟨y0, y1, _⟩ := y.cells
      refine ⟨rfl, .agg #[.pointer (some ⟨q3, 0, none⟩), .pointer g3], ?_, _, rfl, (RG.set (unhide X4) (unhide r3)), (unhide B3).trans (below_set2 w3 (Nat.le_refl _) _ _)⟩
      simp [results, Tryz.results113, go_sem, y0, y1]
    | true =>
      have fb : isLeaf b = false := by rw [fa] at hl; simpa using hl
      rw [fa] at A1
      rw [fb] at B1
      replace A1 := hide A1
      replace B1 := hide B1
      clear fa fb hl
      go_enter Tryz.func113, Tryz.ntmps113
      go_wp2_with fail
      generalize w.alloc (.cells #[.pointer none, .pointer none] 150) = W at *
      refine (unhide A1).mono ?_
      rintro e w1 ⟨rfl, hw1⟩
      rw [hw1]
      clear hw1
      go_wp2_with fail
      refine (unhide B1).mono ?_
      rintro e w1 ⟨rfl, hw1⟩
      rw [hw1]
      clear hw1
      go_wp2_with fail
      refine (unhide A2).mono ?_
      rintro e w1 ⟨vl, vr, rfl, tl, tr, n, rfl⟩
      replace tl := hide tl
      replace tr := hide tr
      obtain ⟨kl, rfl⟩ := TA.root (unhide tl)
      obtain ⟨kr, rfl⟩ := TA.root (unhide tr)
      go_wp2_with fail
      refine (unhide B2 n).mono ?_
      rintro e w1 ⟨ul, ur, rfl, sl, sr, m, rfl⟩
      replace sl := hide sl
      replace sr := hide sr
      obtain ⟨jl, rfl⟩ := TA.root (unhide sl)
      obtain ⟨jr, rfl⟩ := TA.root (unhide sr)
      have X0 := hide ((unhide x0).keep (below_drewN W (n + m)))
      have B0 := hide (chain (unhide b0) (Nat.le_refl _) (below_drewN W (n + m)))
      have tr1 := hide (TA.below (unhide tr) (below_drewN W (n + m)))
      have sr1 := hide (TA.below (unhide sr) (below_draws W n (n + m)))
      clear tr sr
      go_wp2_with fail
      refine (unhide ihl _ _ _ (TA.below (unhide tl) (below_drewN _ _)) (TA.below (unhide sl) (below_draws _ _ _))).mono ?_
      rintro e w1 ⟨x1, rfl, r1, b1⟩
      have rr1 := r1; obtain ⟨q1, g1, rfl, tt1, oo1⟩ := rr1; clear tt1 oo1
      have X1 := hide ((unhide X0).keep b1)
      have B1 := hide (chain (unhide B0) (Nat.le_refl _) b1)
      have tr2 := hide (TA.below (TA.below (unhide tr1) b1) (below_alloc w1 (.cells #[.pointer (some ⟨q1, 0, none⟩), .pointer g1] 150)))
      have sr2 := hide (TA.below (TA.below (unhide sr1) b1) (below_alloc w1 (.cells #[.pointer (some ⟨q1, 0, none⟩), .pointer g1] 150)))
      have r1a := hide (r1.below (below_alloc w1 (.cells #[.pointer (some ⟨q1, 0, none⟩), .pointer g1] 150)))
      have X1a := hide ((unhide X1).keep (below_alloc w1 (.cells #[.pointer (some ⟨q1, 0, none⟩), .pointer g1] 150)))
      have Y1 := hide (Bx.new 150 w1 (.pointer (some ⟨q1, 0, none⟩)) (.pointer g1))
      have B1a := hide (chain (unhide B1) (Nat.le_refl _) (below_alloc w1 (.cells #[.pointer (some ⟨q1, 0, none⟩), .pointer g1] 150)))
      clear X0 B0 tr1 sr1 tl sl r1 b1 B1 X1
      go_wp2_with fail
      refine (unhide ihr _ _ _ (unhide tr2) (unhide sr2)).mono ?_
      rintro e w2 ⟨x2, rfl, r2, b2⟩
      have rr2 := r2; obtain ⟨q2, g2, rfl, tt2, oo2⟩ := rr2; clear tt2 oo2
      have X2 := (unhide X1a).keep b2
      have Y2 := (unhide Y1).keep b2
      have l2 := lt_of_heap Y2
      have n2 : ¬ w2.heap.size = w1.heap.size := by omega
      have n3 : ¬ w1.heap.size = w2.heap.size := by omega
      have X3 := hide (X2.keep (below_alloc w2 (.cells #[.pointer (some ⟨q2, 0, none⟩), .pointer g2] 150)))
      have r1b := hide (((unhide r1a).below b2).below (below_alloc w2 (.cells #[.pointer (some ⟨q2, 0, none⟩), .pointer g2] 150)))
      have r2b := hide (r2.below (below_alloc w2 (.cells #[.pointer (some ⟨q2, 0, none⟩), .pointer g2] 150)))
      have B2a := hide (chain (chain (unhide B1a) (Nat.le_refl _) b2) (Nat.le_refl _) (below_alloc w2 (.cells #[.pointer (some ⟨q2, 0, none⟩), .pointer g2] 150)))
      obtain ⟨p0, p1, _⟩ := Y2.cells
      clear tr2 sr2 r1a X1a Y1 B1a r2 b2 X2 Y2
      go_wp2_with fail
      refine (unhide HH _ _ _ (unhide r1b) (unhide r2b)).mono ?_
      rintro e w3 ⟨x3, rfl, r3, b3⟩
      have rr3 := r3; obtain ⟨q3, g3, rfl, tt3, oo3⟩ := rr3; clear tt3 oo3
      have X4 := (unhide X3).keep b3
      have B3 := hide (chain (unhide B2a) (Nat.le_refl _) b3)
      obtain ⟨q0, q1, qf⟩ := X4.cells
      replace X4 := hide X4
      replace r3 := hide r3
      clear b3 B2a X3 r1b r2b p0 p1
      go_wp2_with fail
      have y := (unhide X4).set (.pointer (some ⟨q3, 0, none⟩)) (.pointer g3)
      obtain ⟨y0, y1, _⟩ := y.cells
      refine ⟨rfl, .agg #[.pointer (some ⟨q3, 0, none⟩), .pointer g3], ?_, _, rfl, (RG.set (unhide X4) (unhide r3)), (unhide B3).trans (below_set2 w3 (Nat.le_refl _) _ _)⟩
      simp [results, Tryz.results113, go_sem, y0, y1]

end Go.Proofs.YtoebmfhgaalcdaaGreatDoor
