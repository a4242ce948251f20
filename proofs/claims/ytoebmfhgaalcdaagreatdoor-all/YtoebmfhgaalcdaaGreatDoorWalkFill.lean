/-
  Our own. count.fill: rows that are filled up.
-/
import Derived.Test.YtoebmfhgaalcdaaGreatDoorBoxes
namespace Go.Proofs.YtoebmfhgaalcdaaGreatDoor
open Go.RowKit

set_option maxHeartbeats 800000 in
theorem fillLeaf_any (own : Bool) (n : Nat) (w : World) :
    Calls Tryz.prog 111 #[.bool own, .int .i64 (n : Int)] w fun e w' => ∃ x, e = .returned x ∧ RF w' x (fillLeaf own n) ∧ Below w.heap.size w w' := by
  have L := hide (fun w => leafI_of n w)
  go_enter Tryz.func111, Tryz.ntmps111
  go_wp2_with fail
  refine (unhide L _).mono ?_
  rintro e w1 ⟨k, rfl, t1, b1⟩
  have x0 := (Bx.new 145 w (.bool false) (.pointer none)).keep b1
  have B1 := below_trans (below_alloc w (.cells #[.bool false, .pointer none] 145)) b1
  obtain ⟨c0, c1, cf⟩ := x0.cells
  have t2 := hide (x0.tree (by decide) (.bool own) (.pointer (some ⟨k, 0, none⟩)) t1)
  have x1 := hide (x0.set (.bool own) (.pointer (some ⟨k, 0, none⟩)))
  have B2 := hide (B1.trans (below_set2 w1 (Nat.le_refl w.heap.size) (.bool own) (.pointer (some ⟨k, 0, none⟩))))
  clear x0 b1 B1 t1
  go_wp2_with fail
  generalize (w1.setCell ⟨w.heap.size, 0, none⟩ (.bool own)).setCell ⟨w.heap.size, 1, none⟩ (.pointer (some ⟨k, 0, none⟩)) = W at *
  obtain ⟨d0, d1, df⟩ := (unhide x1).cells
  refine ⟨rfl, .agg #[.bool own, .pointer (some ⟨k, 0, none⟩)], ?_, _, rfl, ⟨k, rfl, unhide t2⟩, unhide B2⟩
  simp [results, Tryz.results111, go_sem, d0, d1]

/-- The three boxes of fillHalves. -/
structure FB (N : Nat) (p q : Bool) (a b : Value) (L R : Tr Nat) (W : World) : Prop where
  l : Bx 145 N (.bool p) a W
  r : Bx 145 (N + 1) (.bool q) b W
  o : Bx 145 (N + 1 + 1) (.bool false) (.pointer none) W
  tl : TI W a L
  tr : TI W b R

theorem FB.keep {N : Nat} {p q : Bool} {a b : Value} {L R : Tr Nat} {w w' : World} (h : FB N p q a b L R w) (hb : Below w.heap.size w w') : FB N p q a b L R w' :=
  ⟨h.l.keep hb, h.r.keep hb, h.o.keep hb, TA.below h.tl hb, TA.below h.tr hb⟩

theorem FB.enter {w : World} {p q : Bool} {kl kr : Nat} {L R : Tr Nat} (h : TI w (.pointer (some ⟨kl, 0, none⟩)) L) (g : TI w (.pointer (some ⟨kr, 0, none⟩)) R) :
    FB w.heap.size p q (.pointer (some ⟨kl, 0, none⟩)) (.pointer (some ⟨kr, 0, none⟩)) L R (((w.alloc (.cells #[.bool p, .pointer (some ⟨kl, 0, none⟩)] 145)).alloc (.cells #[.bool q, .pointer (some ⟨kr, 0, none⟩)] 145)).alloc (.cells #[.bool false, .pointer none] 145)) ∧
    Below w.heap.size w (((w.alloc (.cells #[.bool p, .pointer (some ⟨kl, 0, none⟩)] 145)).alloc (.cells #[.bool q, .pointer (some ⟨kr, 0, none⟩)] 145)).alloc (.cells #[.bool false, .pointer none] 145)) ∧ kl < w.heap.size ∧ kr < w.heap.size := by
  have b1 := below_alloc w (.cells #[.bool p, .pointer (some ⟨kl, 0, none⟩)] 145)
  have x1 := Bx.new 145 w (.bool p) (.pointer (some ⟨kl, 0, none⟩))
  have s1 : (w.alloc (.cells #[.bool p, .pointer (some ⟨kl, 0, none⟩)] 145)).heap.size = w.heap.size + 1 := by simp
  generalize w.alloc (.cells #[.bool p, .pointer (some ⟨kl, 0, none⟩)] 145) = W1 at *
  have b2 := below_alloc W1 (.cells #[.bool q, .pointer (some ⟨kr, 0, none⟩)] 145)
  have x2 := Bx.new 145 W1 (.bool q) (.pointer (some ⟨kr, 0, none⟩))
  have s2 : (W1.alloc (.cells #[.bool q, .pointer (some ⟨kr, 0, none⟩)] 145)).heap.size = w.heap.size + 1 + 1 := by simp [s1]
  rw [s1] at x2
  generalize W1.alloc (.cells #[.bool q, .pointer (some ⟨kr, 0, none⟩)] 145) = W2 at *
  have b3 := below_alloc W2 (.cells #[.bool false, .pointer none] 145)
  have x3 := Bx.new 145 W2 (.bool false) (.pointer none)
  rw [s2] at x3
  exact ⟨⟨(x1.keep b2).keep b3, x2.keep b3, x3, TA.below (TA.below (TA.below h b1) b2) b3, TA.below (TA.below (TA.below g b1) b2) b3⟩, below_trans (below_trans b1 b2) b3, World.block_lt_of_cell? _ _ (TI.top h), World.block_lt_of_cell? _ _ (TI.top g)⟩

set_option maxHeartbeats 1600000 in
theorem fillHalves_both (L R : Tr Nat) (w : World) (kl kr : Nat) (h : TI w (.pointer (some ⟨kl, 0, none⟩)) L) (g : TI w (.pointer (some ⟨kr, 0, none⟩)) R) :
    Calls Tryz.prog 112 #[.agg #[.bool true, .pointer (some ⟨kl, 0, none⟩)], .agg #[.bool true, .pointer (some ⟨kr, 0, none⟩)]] w fun e w' => ∃ x, e = .returned x ∧ RF w' x (true, .leaf (max (topV L) (topV R))) ∧ Below w.heap.size w w' := by
  obtain ⟨F, B, lk, rk⟩ := FB.enter (p := true) (q := true) h g
  have G := hide (fun w => greaterLeaf_of (topV L) (topV R) w)
  have tl := TI.top F.tl
  have tr := TI.top F.tr
  obtain ⟨c0, c1, _⟩ := F.l.cells
  obtain ⟨d0, d1, _⟩ := F.r.cells
  have SZ := hide B.size
  replace F := hide F
  replace B := hide B
  clear h g
  generalize topV L = tc at *
  generalize topV R = td at *
  go_enter Tryz.func112, Tryz.ntmps112
  go_wp2_with fail
  generalize (((w.alloc (.cells #[.bool true, .pointer (some ⟨kl, 0, none⟩)] 145)).alloc (.cells #[.bool true, .pointer (some ⟨kr, 0, none⟩)] 145)).alloc (.cells #[.bool false, .pointer none] 145)) = W at *
  generalize hN : w.heap.size = N at *
  replace hN := hide hN
  go_region_held3 (fun w' => w'.cell? ⟨N, 1, none⟩ = some (.pointer (some ⟨kl, 0, none⟩)) ∧ w'.cell? ⟨N + 1, 1, none⟩ = some (.pointer (some ⟨kr, 0, none⟩)) ∧ w'.cell? ⟨kl, 0, none⟩ = some (.int .i64 (tc : Int)) ∧ w'.cell? ⟨kr, 0, none⟩ = some (.int .i64 (td : Int)))
    (refine ⟨?_, ?_, ?_, ?_⟩ <;> (repeat first | assumption | refine cell_drew_keep ?_ | refine cell_set_keep (by omega) ?_))
    (first
      | (go_at_call 61; refine (unhide G _).mono ?_; rintro e w4 ⟨k4, rfl, t4, b4⟩; have f0 := cell_keep b4 c1; have f1 := cell_keep b4 d1; have f2 := cell_keep b4 tl; have f3 := cell_keep b4 tr; have x4 := ((unhide F).keep (below_drew _)).o.keep b4; obtain ⟨g0, g1, gf⟩ := x4.cells; replace x4 := hide x4; replace t4 := hide t4; replace b4 := hide b4))
  all_goals
    go_wp2_with fail
    have y := (unhide x4).set (.bool true) (.pointer (some ⟨k4, 0, none⟩))
    obtain ⟨y0, y1, _⟩ := y.cells
    refine ⟨rfl, .agg #[.bool true, .pointer (some ⟨k4, 0, none⟩)], ?_, _, rfl, ⟨k4, rfl, (unhide x4).tree (by decide) _ _ (unhide t4)⟩, ?_⟩
    · simp [results, Tryz.results112, go_sem, y0, y1]
    · rw [unhide hN]; exact ((unhide B).trans ((below_trans (below_drew _) (unhide b4)).mono (unhide SZ))).trans (below_set2 w4 (by omega) _ _)

set_option maxHeartbeats 3200000 in
theorem fillHalves_none (L R : Tr Nat) (w : World) (kl kr : Nat) (h : TI w (.pointer (some ⟨kl, 0, none⟩)) L) (g : TI w (.pointer (some ⟨kr, 0, none⟩)) R) :
    Calls Tryz.prog 112 #[.agg #[.bool false, .pointer (some ⟨kl, 0, none⟩)], .agg #[.bool false, .pointer (some ⟨kr, 0, none⟩)]] w fun e w' => ∃ x, e = .returned x ∧ RF w' x (false, merge L R) ∧ Below w.heap.size w w' := by
  obtain ⟨F, B, lk, rk⟩ := FB.enter (p := false) (q := false) h g
  have M := hide (fun w a b (h : TI w a L) (g : TI w b R) => mergeI_of h g)
  have SZ := hide B.size
  obtain ⟨c0, c1, _⟩ := F.l.cells
  obtain ⟨d0, d1, _⟩ := F.r.cells
  replace F := hide F
  replace B := hide B
  clear h g lk rk
  go_enter Tryz.func112, Tryz.ntmps112
  go_wp2_with fail
  generalize (((w.alloc (.cells #[.bool false, .pointer (some ⟨kl, 0, none⟩)] 145)).alloc (.cells #[.bool false, .pointer (some ⟨kr, 0, none⟩)] 145)).alloc (.cells #[.bool false, .pointer none] 145)) = W at *
  refine (unhide M _ _ _ (unhide F).tl (unhide F).tr).mono ?_
  rintro e w4 ⟨z, rfl, t4, b4⟩
  obtain ⟨k4, rfl⟩ := TA.root t4
  have x4 := (unhide F).o.keep b4
  obtain ⟨g0, g1, gf⟩ := x4.cells
  replace x4 := hide x4
  replace t4 := hide t4
  replace b4 := hide b4
  clear c0 c1 d0 d1
  go_wp2_with fail
  have y := (unhide x4).set (.bool false) (.pointer (some ⟨k4, 0, none⟩))
  obtain ⟨y0, y1, _⟩ := y.cells
  refine ⟨rfl, .agg #[.bool false, .pointer (some ⟨k4, 0, none⟩)], ?_, _, rfl, ⟨k4, rfl, (unhide x4).tree (by decide) _ _ (unhide t4)⟩, ?_⟩
  · simp [results, Tryz.results112, go_sem, y0, y1]
  · exact ((unhide B).trans ((unhide b4).mono (unhide SZ))).trans (below_set2 w4 (by omega) _ _)

set_option maxHeartbeats 3200000 in
theorem fillHalves_left (L R : Tr Nat) (w : World) (kl kr : Nat) (h : TI w (.pointer (some ⟨kl, 0, none⟩)) L) (g : TI w (.pointer (some ⟨kr, 0, none⟩)) R) :
    Calls Tryz.prog 112 #[.agg #[.bool true, .pointer (some ⟨kl, 0, none⟩)], .agg #[.bool false, .pointer (some ⟨kr, 0, none⟩)]] w fun e w' => ∃ x, e = .returned x ∧ RF w' x (false, merge (.leaf (max (topV L) (lowest R))) R) ∧ Below w.heap.size w w' := by
  obtain ⟨F, B, lk, rk⟩ := FB.enter (p := true) (q := false) h g
  have M := hide (fun w a b (h : TI w a (.leaf (max (topV L) (lowest R)))) (g : TI w b (R)) => mergeI_of h g)
  have G := hide (fun w => greaterLeaf_of (topV L) (lowest R) w)
  have LO := hide (fun w v h => low_any R w v h)
  have tl := TI.top F.tl
  obtain ⟨c0, c1, cf⟩ := F.l.cells
  obtain ⟨d0, d1, _⟩ := F.r.cells
  replace F := hide F
  replace B := hide B
  clear h g
  generalize topV L = tc at *
  generalize lowest R = lo at *
  go_enter Tryz.func112, Tryz.ntmps112
  go_wp2_with fail
  generalize (((w.alloc (.cells #[.bool true, .pointer (some ⟨kl, 0, none⟩)] 145)).alloc (.cells #[.bool false, .pointer (some ⟨kr, 0, none⟩)] 145)).alloc (.cells #[.bool false, .pointer none] 145)) = W at *
  go_region_with (first
      | (go_at_call 101; refine (unhide LO _ _ (TA.below (unhide F).tr (below_drew _))).mono ?_; rintro e w3 ⟨rfl, n3, rfl⟩)
      | (go_at_call 61; refine (unhide G _).mono ?_; rintro e w4 ⟨k4, rfl, t4, b4⟩; have F4 := ((unhide F).keep (below_drewN W _)).keep b4; obtain ⟨f0, f1, ff⟩ := F4.l.cells; obtain ⟨g0, g1, gf⟩ := F4.r.cells; replace F4 := hide F4; replace t4 := hide t4; have B4 := hide (chain (chain (unhide B) (Nat.le_refl _) (below_drewN W _)) (Nat.le_refl _) b4); clear b4))
  all_goals
    go_wp2_with fail
    refine (unhide M _ _ _ ((unhide F4).l.tree1 (by decide) _ _ (unhide t4)) ((unhide F4).l.tree1 (by decide) _ _ (unhide F4).tr)).mono ?_
    rintro e w5 ⟨z, rfl, t5, b5⟩
    obtain ⟨k5, rfl⟩ := TA.root t5
    have x5 := ((unhide F4).o.far1 (by omega) (.pointer (some ⟨k4, 0, none⟩)) 1).keep b5
    have B5 := hide (chain ((unhide B4).trans (below_set1 w4 (show w.heap.size ≤ w.heap.size by omega) (.pointer (some ⟨k4, 0, none⟩)) 1)) (Nat.le_refl _) b5)
    obtain ⟨h0, h1, hf⟩ := x5.cells
    replace x5 := hide x5
    replace t5 := hide t5
    clear f0 f1 ff g0 g1 gf b5
    go_wp2_with fail
    have y := (unhide x5).set (.bool false) (.pointer (some ⟨k5, 0, none⟩))
    obtain ⟨y0, y1, _⟩ := y.cells
    refine ⟨rfl, .agg #[.bool false, .pointer (some ⟨k5, 0, none⟩)], ?_, _, rfl, ⟨k5, rfl, (unhide x5).tree (by decide) _ _ (unhide t5)⟩, (unhide B5).trans (below_set2 w5 (by omega) _ _)⟩
    simp [results, Tryz.results112, go_sem, y0, y1]

set_option maxHeartbeats 3200000 in
theorem fillHalves_right (L R : Tr Nat) (w : World) (kl kr : Nat) (h : TI w (.pointer (some ⟨kl, 0, none⟩)) L) (g : TI w (.pointer (some ⟨kr, 0, none⟩)) R) :
    Calls Tryz.prog 112 #[.agg #[.bool false, .pointer (some ⟨kl, 0, none⟩)], .agg #[.bool true, .pointer (some ⟨kr, 0, none⟩)]] w fun e w' => ∃ x, e = .returned x ∧ RF w' x (false, merge L (.leaf (max (topV R) (lowest L)))) ∧ Below w.heap.size w w' := by
  obtain ⟨F, B, lk, rk⟩ := FB.enter (p := false) (q := true) h g
  have M := hide (fun w a b (h : TI w a (L)) (g : TI w b (.leaf (max (topV R) (lowest L)))) => mergeI_of h g)
  have G := hide (fun w => greaterLeaf_of (topV R) (lowest L) w)
  have LO := hide (fun w v h => low_any L w v h)
  have tl := TI.top F.tr
  obtain ⟨c0, c1, cf⟩ := F.l.cells
  obtain ⟨d0, d1, _⟩ := F.r.cells
  replace F := hide F
  replace B := hide B
  clear h g
  generalize topV R = tc at *
  generalize lowest L = lo at *
  go_enter Tryz.func112, Tryz.ntmps112
  go_wp2_with fail
  generalize (((w.alloc (.cells #[.bool false, .pointer (some ⟨kl, 0, none⟩)] 145)).alloc (.cells #[.bool true, .pointer (some ⟨kr, 0, none⟩)] 145)).alloc (.cells #[.bool false, .pointer none] 145)) = W at *
  go_region_with (first
      | (go_at_call 101; refine (unhide LO _ _ (TA.below (unhide F).tl (below_drew _))).mono ?_; rintro e w3 ⟨rfl, n3, rfl⟩)
      | (go_at_call 61; refine (unhide G _).mono ?_; rintro e w4 ⟨k4, rfl, t4, b4⟩; have F4 := ((unhide F).keep (below_drewN W _)).keep b4; obtain ⟨f0, f1, ff⟩ := F4.l.cells; obtain ⟨g0, g1, gf⟩ := F4.r.cells; replace F4 := hide F4; replace t4 := hide t4; have B4 := hide (chain (chain (unhide B) (Nat.le_refl _) (below_drewN W _)) (Nat.le_refl _) b4); clear b4))
  all_goals
    go_wp2_with fail
    refine (unhide M _ _ _ ((unhide F4).r.tree1 (by decide) _ _ (unhide F4).tl) ((unhide F4).r.tree1 (by decide) _ _ (unhide t4))).mono ?_
    rintro e w5 ⟨z, rfl, t5, b5⟩
    obtain ⟨k5, rfl⟩ := TA.root t5
    have x5 := ((unhide F4).o.far1 (by omega) (.pointer (some ⟨k4, 0, none⟩)) 1).keep b5
    have B5 := hide (chain ((unhide B4).trans (below_set1 w4 (show w.heap.size ≤ w.heap.size + 1 by omega) (.pointer (some ⟨k4, 0, none⟩)) 1)) (Nat.le_refl _) b5)
    obtain ⟨h0, h1, hf⟩ := x5.cells
    replace x5 := hide x5
    replace t5 := hide t5
    clear f0 f1 ff g0 g1 gf b5
    go_wp2_with fail
    have y := (unhide x5).set (.bool false) (.pointer (some ⟨k5, 0, none⟩))
    obtain ⟨y0, y1, _⟩ := y.cells
    refine ⟨rfl, .agg #[.bool false, .pointer (some ⟨k5, 0, none⟩)], ?_, _, rfl, ⟨k5, rfl, (unhide x5).tree (by decide) _ _ (unhide t5)⟩, (unhide B5).trans (below_set2 w5 (by omega) _ _)⟩
    simp [results, Tryz.results112, go_sem, y0, y1]

theorem fillHalves_of {c d : Bool × Tr Nat} {w : World} {x y : Value} (h : RF w x c) (g : RF w y d) :
    Calls Tryz.prog 112 #[x, y] w fun e w' => ∃ z, e = .returned z ∧ RF w' z (fillHalves c d) ∧ Below w.heap.size w w' := by
  obtain ⟨p, L⟩ := c
  obtain ⟨q, R⟩ := d
  obtain ⟨kl, rfl, tl⟩ := h
  obtain ⟨kr, rfl, tr⟩ := g
  cases p <;> cases q
  · exact fillHalves_none L R w kl kr tl tr
  · exact fillHalves_right L R w kl kr tl tr
  · exact fillHalves_left L R w kl kr tl tr
  · exact fillHalves_both L R w kl kr tl tr

end Go.Proofs.YtoebmfhgaalcdaaGreatDoor
