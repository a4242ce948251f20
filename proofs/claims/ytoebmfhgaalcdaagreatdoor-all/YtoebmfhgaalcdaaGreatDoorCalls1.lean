/-
  Our own. The calls of package sprigs, first part: readTwo, AtMost, Clash, the two Joins; Share, Peek, Leq.
-/
import Derived.Test.YtoebmfhgaalcdaaGreatDoorWalkWrite
import Derived.Test.YtoebmfhgaalcdaaGreatDoorSides
import Derived.Test.YtoebmfhgaalcdaaGreatDoorWalkCheck
namespace Go.Proofs.YtoebmfhgaalcdaaGreatDoor
open Go.RowKit

set_option maxHeartbeats 400000 in
theorem atMost_of {a b : Tr Nat} {w : World} {v u : Value} (h : TI w v a) (g : TI w u b) :
    Calls Tryz.prog 33 #[v, u] w fun e w' => e = .returned (.bool (atMostP a b)) ∧ Below w.heap.size w w' := by
  have S := hide (sideIIB_any a b w v u h g)
  obtain ⟨k, rfl⟩ := TA.root h
  obtain ⟨j, rfl⟩ := TA.root g
  clear h g
  unfold atMostP
  generalize allB (fun x y => decide (x ≤ y)) a b = r at *
  go_enter Tryz.func33, Tryz.ntmps33
  go_wp2_with fail
  refine (unhide S).mono ?_
  rintro e w1 ⟨x, rfl, rfl, b1⟩
  replace b1 := hide b1
  go_wp2_with fail
  go_ret
  exact ⟨rfl, unhide b1⟩

set_option maxHeartbeats 400000 in
theorem clash_of {a b : Tr Bool} {w : World} {v u : Value} (h : TB w v a) (g : TB w u b) :
    Calls Tryz.prog 29 #[v, u] w fun e w' => e = .returned (.bool (anyB (fun x y => x && y) a b)) ∧ Below w.heap.size w w' := by
  have S := hide (sideBBB_any a b w v u h g)
  obtain ⟨k, rfl⟩ := TA.root h
  obtain ⟨j, rfl⟩ := TA.root g
  clear h g
  generalize anyB (fun x y => x && y) a b = r at *
  go_enter Tryz.func29, Tryz.ntmps29
  go_wp2_with fail
  refine (unhide S).mono ?_
  rintro e w1 ⟨x, rfl, rfl, b1⟩
  replace b1 := hide b1
  go_wp2_with fail
  go_ret
  exact ⟨rfl, unhide b1⟩

set_option maxHeartbeats 400000 in
theorem pJoin_of {a b : Tr Bool} {w : World} {v u : Value} (h : TB w v a) (g : TB w u b) :
    Calls Tryz.prog 30 #[v, u] w fun e w' => ∃ k, e = .returned (.pointer (some ⟨k, 0, none⟩)) ∧ TB w' (.pointer (some ⟨k, 0, none⟩)) (zip (fun x y => x || y) a b) ∧ Below w.heap.size w w' := by
  have S := hide (sideBBT_any a b w v u h g)
  obtain ⟨k, rfl⟩ := TA.root h
  obtain ⟨j, rfl⟩ := TA.root g
  clear h g
  go_enter Tryz.func30, Tryz.ntmps30
  go_wp2_with fail
  refine (unhide S).mono ?_
  rintro e w1 ⟨x, rfl, t1, b1⟩
  obtain ⟨q, rfl⟩ := TA.root t1
  replace t1 := hide t1
  replace b1 := hide b1
  go_wp2_with fail
  go_ret
  exact ⟨_, rfl, unhide t1, unhide b1⟩

set_option maxHeartbeats 400000 in
theorem cJoin_of {a b : Tr Nat} {w : World} {v u : Value} (h : TI w v a) (g : TI w u b) :
    Calls Tryz.prog 31 #[v, u] w fun e w' => ∃ k, e = .returned (.pointer (some ⟨k, 0, none⟩)) ∧ TI w' (.pointer (some ⟨k, 0, none⟩)) (zip (fun x y => max x y) a b) ∧ Below w.heap.size w w' := by
  have S := hide (sideIIT_any a b w v u h g)
  obtain ⟨k, rfl⟩ := TA.root h
  obtain ⟨j, rfl⟩ := TA.root g
  clear h g
  go_enter Tryz.func31, Tryz.ntmps31
  go_wp2_with fail
  refine (unhide S).mono ?_
  rintro e w1 ⟨x, rfl, t1, b1⟩
  obtain ⟨q, rfl⟩ := TA.root t1
  replace t1 := hide t1
  replace b1 := hide b1
  go_wp2_with fail
  go_ret
  exact ⟨_, rfl, unhide t1, unhide b1⟩

/-- sprigs.read of a stamp. -/
theorem sread_ok {s : ByteArray} {id : Tr Bool} {ev : Tr Nat} (hm : s.size ≤ maxLen) (f : readR s = .ok id ev) (w : World) :
    Calls Tryz.prog 23 #[.string s] w fun e w' => ∃ k j, e = .returned (.tuple #[.agg #[.pointer (some ⟨k, 0, none⟩), .pointer (some ⟨j, 0, none⟩)], .int .i64 0, .int .i64 0]) ∧ TB w' (.pointer (some ⟨k, 0, none⟩)) id ∧ TI w' (.pointer (some ⟨j, 0, none⟩)) ev ∧ Below w.heap.size w w' := by
  have R := sread_any s w hm
  rw [f] at R
  refine R.mono ?_
  rintro e w' ⟨vi, ve, rfl, h1, h2, b⟩
  obtain ⟨k, rfl⟩ := TA.root h1
  obtain ⟨j, rfl⟩ := TA.root h2
  exact ⟨k, j, rfl, h1, h2, b⟩

set_option maxHeartbeats 800000 in
theorem share_ok {s : ByteArray} {id : Tr Bool} {ev : Tr Nat} (hm : s.size ≤ maxLen) (f : readR s = .ok id ev) (w : World) :
    Calls Tryz.prog 14 #[.string s] w fun e w' => e = .returned (.tuple #[.int .i64 (shareP id 256 : Nat), .int .i64 0]) ∧ Below w.heap.size w w' := by
  have R := hide (sread_ok hm f w)
  have S := hide (fun w v h => pShare_any id w v h)
  clear f
  generalize shareP id 256 = n at *
  go_enter Tryz.func14, Tryz.ntmps14
  go_wp2_with fail
  refine (unhide R).mono ?_
  rintro e w1 ⟨k, j, rfl, h1, h2, b1⟩
  replace h1 := hide h1
  replace h2 := hide h2
  replace b1 := hide b1
  go_wp2_with fail
  refine (unhide S _ _ (TA.below (unhide h1) (below_alloc w1 _))).mono ?_
  rintro e w2 ⟨rfl, m, rfl⟩
  go_wp2_with fail
  go_ret2
  exact ⟨rfl, below_trans (below_trans (unhide b1) (below_alloc _ _)) (below_drewN _ _)⟩

/-- A stamp's box. -/
def Box (N : Nat) (x y : Value) (w : World) : Prop := w.heap[N]? = some (.cells #[x, y] 61)

theorem Box.cells {N : Nat} {x y : Value} {w : World} (h : Box N x y w) : w.cell? ⟨N, 0, none⟩ = some x ∧ w.cell? ⟨N, 1, none⟩ = some y ∧ (∀ o, w.frozen? ⟨N, o, none⟩ = false) := by
  unfold Box at h
  refine ⟨?_, ?_, ?_⟩
  · simp [World.cell?, h]
  · simp [World.cell?, h]
  · intro o; simp [World.frozen?, h]
theorem Box.set {N : Nat} {x y : Value} {w : World} (h : Box N x y w) (u v : Value) : Box N u v ((w.setCell ⟨N, 0, none⟩ u).setCell ⟨N, 1, none⟩ v) := by
  unfold Box at *
  have a1 : (w.setCell ⟨N, 0, none⟩ u).heap[N]? = some (.cells #[u, y] 61) := by simp [World.setCell, Array.getElem?_modify, h]
  generalize w.setCell ⟨N, 0, none⟩ u = W at *
  simp [World.setCell, Array.getElem?_modify, a1]
theorem Box.far {N M : Nat} {x y : Value} {w : World} (h : Box N x y w) (hn : N ≠ M) (u v : Value) : Box N x y ((w.setCell ⟨M, 0, none⟩ u).setCell ⟨M, 1, none⟩ v) := by
  unfold Box at *
  rw [Below.heap_setCell _ _ _ N hn, Below.heap_setCell _ _ _ N hn]; exact h
theorem Box.keep {N : Nat} {x y : Value} {w w' : World} (h : Box N x y w) (hb : Below w.heap.size w w') : Box N x y w' := (hb.block N (lt_of_heap h)).trans h
theorem Box.new (w : World) (x y : Value) : Box w.heap.size x y (w.alloc (.cells #[x, y] 61)) := heap_new w _
theorem Box.tree {α : Type} {enc : α → Value} {zero : Value} {ty : Nat} {N : Nat} {x y : Value} {w : World} (h : Box N x y w) (hty : ty ≠ 61) (u v : Value) {t : Tr α} {p : Value} (ht : TA enc zero ty w p t) : TA enc zero ty ((w.setCell ⟨N, 0, none⟩ u).setCell ⟨N, 1, none⟩ v) p t := by
  refine TA.keep ?_ t p ht
  intro k c hk
  have hn : k ≠ N := by
    rintro rfl
    unfold Box at h
    rw [h] at hk
    injection hk with hk
    injection hk with _ h2
    exact hty h2.symm
  rw [Below.heap_setCell _ _ _ k hn, Below.heap_setCell _ _ _ k hn]; exact hk
theorem Box.below {B N : Nat} (w : World) (hB : B ≤ N) (u v : Value) : Below B w ((w.setCell ⟨N, 0, none⟩ u).setCell ⟨N, 1, none⟩ v) :=
  ⟨rfl, rfl, rfl, by simp [World.setCell], fun k hk => by rw [Below.heap_setCell _ _ _ k (by show k ≠ N; omega), Below.heap_setCell _ _ _ k (by show k ≠ N; omega)]⟩

set_option maxHeartbeats 1600000 in
theorem readTwo_ok {s t : ByteArray} {i1 i2 : Tr Bool} {e1 e2 : Tr Nat} (hs : s.size ≤ maxLen) (ht : t.size ≤ maxLen) (f : readR s = .ok i1 e1) (g : readR t = .ok i2 e2) (w : World) :
    Calls Tryz.prog 28 #[.string s, .string t] w fun e w' => ∃ a b c d, e = .returned (.tuple #[.agg #[.pointer (some ⟨a, 0, none⟩), .pointer (some ⟨b, 0, none⟩)], .agg #[.pointer (some ⟨c, 0, none⟩), .pointer (some ⟨d, 0, none⟩)], .int .i64 0]) ∧
      TB w' (.pointer (some ⟨a, 0, none⟩)) i1 ∧ TI w' (.pointer (some ⟨b, 0, none⟩)) e1 ∧ TB w' (.pointer (some ⟨c, 0, none⟩)) i2 ∧ TI w' (.pointer (some ⟨d, 0, none⟩)) e2 ∧ Below w.heap.size w w' := by
  have R1 := hide (sread_ok hs f)
  have R2 := hide (sread_ok ht g)
  clear f g
  go_enter Tryz.func28, Tryz.ntmps28
  go_wp2_with fail
  refine (unhide R1 _).mono ?_
  rintro e w1 ⟨a, b, rfl, ta, tb, b1⟩
  have s1 : (w.alloc (.cells #[.pointer none, .pointer none] 61)).heap.size = w.heap.size + 1 := by simp
  have s2 : ((w.alloc (.cells #[.pointer none, .pointer none] 61)).alloc (.cells #[.pointer none, .pointer none] 61)).heap.size = w.heap.size + 1 + 1 := by simp
  have B0 : Below w.heap.size w w1 := below_trans (below_trans (below_alloc _ _) (below_alloc _ _)) b1
  have x1 : Box w.heap.size (.pointer none) (.pointer none) w1 := ((Box.new w _ _).keep (below_alloc _ _)).keep b1
  have x2 : Box (w.heap.size + 1) (.pointer none) (.pointer none) w1 := by
    have := (Box.new (w.alloc (.cells #[.pointer none, .pointer none] 61)) (.pointer none) (.pointer none)).keep b1
    rwa [s1] at this
  have y1 := x1.set (.pointer (some ⟨a, 0, none⟩)) (.pointer (some ⟨b, 0, none⟩))
  have y2 := x2.far (M := w.heap.size) (by omega) (.pointer (some ⟨a, 0, none⟩)) (.pointer (some ⟨b, 0, none⟩))
  have ta1 := x1.tree (by decide) (.pointer (some ⟨a, 0, none⟩)) (.pointer (some ⟨b, 0, none⟩)) ta
  have tb1 := x1.tree (by decide) (.pointer (some ⟨a, 0, none⟩)) (.pointer (some ⟨b, 0, none⟩)) tb
  have B1 : Below w.heap.size w ((w1.setCell ⟨w.heap.size, 0, none⟩ (.pointer (some ⟨a, 0, none⟩))).setCell ⟨w.heap.size, 1, none⟩ (.pointer (some ⟨b, 0, none⟩))) := B0.trans (Box.below w1 (Nat.le_refl _) _ _)
  obtain ⟨c0, c1, cf⟩ := x1.cells
  clear x1 x2 ta tb b1 s1 s2 B0
  replace y1 := hide y1
  replace y2 := hide y2
  replace ta1 := hide ta1
  replace tb1 := hide tb1
  replace B1 := hide B1
  go_wp2_with fail
  clear c0 c1 cf
  generalize (w1.setCell ⟨w.heap.size, 0, none⟩ (.pointer (some ⟨a, 0, none⟩))).setCell ⟨w.heap.size, 1, none⟩ (.pointer (some ⟨b, 0, none⟩)) = W1 at *
  refine (unhide R2 _).mono ?_
  rintro e w2 ⟨c, d, rfl, tc, td, b2⟩
  have z1 := (unhide y1).keep b2
  have z2 := (unhide y2).keep b2
  have ta2 := TA.below (unhide ta1) b2
  have tb2 := TA.below (unhide tb1) b2
  have B2 : Below w.heap.size w w2 := (unhide B1).trans (b2.mono (unhide B1).size)
  have v1 := z1.far (M := w.heap.size + 1) (by omega) (.pointer (some ⟨c, 0, none⟩)) (.pointer (some ⟨d, 0, none⟩))
  have v2 := z2.set (.pointer (some ⟨c, 0, none⟩)) (.pointer (some ⟨d, 0, none⟩))
  have ta3 := z2.tree (by decide) (.pointer (some ⟨c, 0, none⟩)) (.pointer (some ⟨d, 0, none⟩)) ta2
  have tb3 := z2.tree (by decide) (.pointer (some ⟨c, 0, none⟩)) (.pointer (some ⟨d, 0, none⟩)) tb2
  have tc3 := z2.tree (by decide) (.pointer (some ⟨c, 0, none⟩)) (.pointer (some ⟨d, 0, none⟩)) tc
  have td3 := z2.tree (by decide) (.pointer (some ⟨c, 0, none⟩)) (.pointer (some ⟨d, 0, none⟩)) td
  have B3 : Below w.heap.size w ((w2.setCell ⟨w.heap.size + 1, 0, none⟩ (.pointer (some ⟨c, 0, none⟩))).setCell ⟨w.heap.size + 1, 1, none⟩ (.pointer (some ⟨d, 0, none⟩))) := B2.trans (Box.below w2 (by omega) _ _)
  obtain ⟨c0, c1, cf⟩ := z2.cells
  clear y1 y2 ta1 tb1 B1 z1 z2 ta2 tb2 tc td B2 b2
  replace v1 := hide v1
  replace v2 := hide v2
  replace ta3 := hide ta3
  replace tb3 := hide tb3
  replace tc3 := hide tc3
  replace td3 := hide td3
  replace B3 := hide B3
  go_wp2_with fail
  clear c0 c1 cf
  generalize (w2.setCell ⟨w.heap.size + 1, 0, none⟩ (.pointer (some ⟨c, 0, none⟩))).setCell ⟨w.heap.size + 1, 1, none⟩ (.pointer (some ⟨d, 0, none⟩)) = W3 at *
  obtain ⟨c0, c1, cf⟩ := (unhide v1).cells
  obtain ⟨d0, d1, df⟩ := (unhide v2).cells
  go_region
  all_goals
    go_wp2_with fail
    have g1 := (unhide v1).set (.pointer (some ⟨a, 0, none⟩)) (.pointer (some ⟨b, 0, none⟩))
    have g2 := (unhide v2).far (M := w.heap.size) (by omega) (.pointer (some ⟨a, 0, none⟩)) (.pointer (some ⟨b, 0, none⟩))
    have ta4 := (unhide v1).tree (by decide) (.pointer (some ⟨a, 0, none⟩)) (.pointer (some ⟨b, 0, none⟩)) (unhide ta3)
    have tb4 := (unhide v1).tree (by decide) (.pointer (some ⟨a, 0, none⟩)) (.pointer (some ⟨b, 0, none⟩)) (unhide tb3)
    have tc4 := (unhide v1).tree (by decide) (.pointer (some ⟨a, 0, none⟩)) (.pointer (some ⟨b, 0, none⟩)) (unhide tc3)
    have td4 := (unhide v1).tree (by decide) (.pointer (some ⟨a, 0, none⟩)) (.pointer (some ⟨b, 0, none⟩)) (unhide td3)
    have B4 := (unhide B3).trans (Box.below W3 (Nat.le_refl w.heap.size) (.pointer (some ⟨a, 0, none⟩)) (.pointer (some ⟨b, 0, none⟩)))
    clear c0 c1 cf d0 d1 df v1 v2 ta3 tb3 tc3 td3 B3
    generalize (W3.setCell ⟨w.heap.size, 0, none⟩ (.pointer (some ⟨a, 0, none⟩))).setCell ⟨w.heap.size, 1, none⟩ (.pointer (some ⟨b, 0, none⟩)) = W4 at *
    have j1 := g1.far (M := w.heap.size + 1) (by omega) (.pointer (some ⟨c, 0, none⟩)) (.pointer (some ⟨d, 0, none⟩))
    have j2 := g2.set (.pointer (some ⟨c, 0, none⟩)) (.pointer (some ⟨d, 0, none⟩))
    have ta5 := g2.tree (by decide) (.pointer (some ⟨c, 0, none⟩)) (.pointer (some ⟨d, 0, none⟩)) ta4
    have tb5 := g2.tree (by decide) (.pointer (some ⟨c, 0, none⟩)) (.pointer (some ⟨d, 0, none⟩)) tb4
    have tc5 := g2.tree (by decide) (.pointer (some ⟨c, 0, none⟩)) (.pointer (some ⟨d, 0, none⟩)) tc4
    have td5 := g2.tree (by decide) (.pointer (some ⟨c, 0, none⟩)) (.pointer (some ⟨d, 0, none⟩)) td4
    have B5 := B4.trans (Box.below W4 (show w.heap.size ≤ w.heap.size + 1 by omega) (.pointer (some ⟨c, 0, none⟩)) (.pointer (some ⟨d, 0, none⟩)))
    generalize (W4.setCell ⟨w.heap.size + 1, 0, none⟩ (.pointer (some ⟨c, 0, none⟩))).setCell ⟨w.heap.size + 1, 1, none⟩ (.pointer (some ⟨d, 0, none⟩)) = W5 at *
    obtain ⟨c0, c1, cf⟩ := j1.cells
    obtain ⟨d0, d1, df⟩ := j2.cells
    refine ⟨rfl, .tuple #[.agg #[.pointer (some ⟨a, 0, none⟩), .pointer (some ⟨b, 0, none⟩)], .agg #[.pointer (some ⟨c, 0, none⟩), .pointer (some ⟨d, 0, none⟩)], .int .i64 0], ?_, a, b, c, d, rfl, TA.below ta5 (below_drew _), TA.below tb5 (below_drew _), TA.below tc5 (below_drew _), TA.below td5 (below_drew _), B5.trans ((below_drew _).mono B5.size)⟩
    simp [results, Tryz.results28, go_sem, c0, c1, d0, d1]

set_option maxHeartbeats 1600000 in
theorem leq_ok {s t : ByteArray} {i1 i2 : Tr Bool} {e1 e2 : Tr Nat} (hs : s.size ≤ maxLen) (ht : t.size ≤ maxLen) (f : readR s = .ok i1 e1) (g : readR t = .ok i2 e2) (w : World) :
    Calls Tryz.prog 16 #[.string s, .string t] w fun e w' => e = .returned (.tuple #[.bool (atMostP e1 e2), .int .i64 0]) ∧ Below w.heap.size w w' := by
  have R := hide (readTwo_ok hs ht f g w)
  have S := hide (fun w v u (h : TI w v e1) (g : TI w u e2) => atMost_of h g)
  clear f g
  generalize atMostP e1 e2 = r at *
  go_enter Tryz.func16, Tryz.ntmps16
  go_wp2_with fail
  refine (unhide R).mono ?_
  rintro e w1 ⟨a, b, c, d, rfl, ta, tb, tc, td, b1⟩
  replace ta := hide ta
  replace tb := hide tb
  replace tc := hide tc
  replace td := hide td
  replace b1 := hide b1
  go_wp2_with fail
  refine (unhide S _ _ _ (TA.below (TA.below (unhide tb) (below_alloc w1 _)) (below_alloc _ _)) (TA.below (TA.below (unhide td) (below_alloc w1 _)) (below_alloc _ _))).mono ?_
  rintro e w2 ⟨rfl, b2⟩
  replace b2 := hide b2
  go_wp2_with fail
  go_ret2
  exact ⟨rfl, below_trans (below_trans (below_trans (unhide b1) (below_alloc _ _)) (below_alloc _ _)) (unhide b2)⟩

set_option maxHeartbeats 1600000 in
theorem peek_ok {s : ByteArray} {id : Tr Bool} {ev : Tr Nat} (hm : s.size ≤ maxLen) (f : readR s = .ok id ev) (P : PT (.leaf false) ev) (w : World) (T : Tab w) :
    Calls Tryz.prog 12 #[.string s] w fun e w' => e = .returned (.tuple #[.string (strOf (wtext (.leaf false) ev)), .int .i64 0]) ∧ Below w.heap.size w w' := by
  have R := hide (sread_ok hm f w)
  have S := hide (fun w v u T h g => write_any (.leaf false) ev P w v u T h g)
  replace T := hide T
  clear f P
  generalize strOf (wtext (.leaf false) ev) = Z at *
  go_enter Tryz.func12, Tryz.ntmps12
  go_wp2_with fail
  refine (unhide R).mono ?_
  rintro e w1 ⟨k, j, rfl, h1, h2, b1⟩
  have c1 : (w1.alloc (.cells #[.pointer (some ⟨k, 0, none⟩), .pointer (some ⟨j, 0, none⟩)] 61)).cell? ⟨w1.heap.size, 1, none⟩ = some (.pointer (some ⟨j, 0, none⟩)) := (Box.new w1 _ _).cells.2.1
  have B := hide (below_trans b1 (below_alloc w1 (.cells #[.pointer (some ⟨k, 0, none⟩), .pointer (some ⟨j, 0, none⟩)] 61)))
  have T1 := hide ((unhide T).below (unhide B))
  have H2 := hide (TA.below h2 (below_alloc w1 (.cells #[.pointer (some ⟨k, 0, none⟩), .pointer (some ⟨j, 0, none⟩)] 61)))
  clear h1 h2 b1 T
  go_wp2_with fail
  generalize w1.alloc (.cells #[.pointer (some ⟨k, 0, none⟩), .pointer (some ⟨j, 0, none⟩)] 61) = W at *
  generalize w1.heap.size = N at *
  go_region_held3 (fun w' => w'.cell? ⟨N, 1, none⟩ = some (.pointer (some ⟨j, 0, none⟩)))
    (first | assumption | (refine cell_drew_keep ?_; assumption))
    (first
      | (go_at_call 27; refine (none_of _).mono ?_; rintro e w4 ⟨k4, rfl, t4, b4⟩; have d1 := cell_keep b4 c1)
      | (go_at_call 26; refine (unhide S _ _ _ (((unhide T1).below (below_drew _)).below b4) t4 (TA.below (TA.below (unhide H2) (below_drew _)) b4)).mono ?_; rintro e w5 ⟨rfl, b5⟩; have d2 := cell_keep b5 d1))
  all_goals
    go_wp2_with fail
    go_ret2
    exact ⟨rfl, below_trans (unhide B) (below_trans (below_trans (below_drew _) b4) b5)⟩

end Go.Proofs.YtoebmfhgaalcdaaGreatDoor
