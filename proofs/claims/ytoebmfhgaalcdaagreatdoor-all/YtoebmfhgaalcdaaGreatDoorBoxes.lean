/-
  Our own. Boxes of two cells; a filling as a value.
-/
import Derived.Test.YtoebmfhgaalcdaaGreatDoorCalls1
namespace Go.Proofs.YtoebmfhgaalcdaaGreatDoor
open Go.RowKit

/-- A box of two cells, of some type. -/
def Bx (ty N : Nat) (x y : Value) (w : World) : Prop := w.heap[N]? = some (.cells #[x, y] ty)

theorem Bx.cells {ty N : Nat} {x y : Value} {w : World} (h : Bx ty N x y w) : w.cell? ⟨N, 0, none⟩ = some x ∧ w.cell? ⟨N, 1, none⟩ = some y ∧ (∀ o, w.frozen? ⟨N, o, none⟩ = false) := by
  unfold Bx at h
  refine ⟨?_, ?_, ?_⟩
  · simp [World.cell?, h]
  · simp [World.cell?, h]
  · intro o; simp [World.frozen?, h]
theorem Bx.set1 {ty N : Nat} {x y : Value} {w : World} (h : Bx ty N x y w) (v : Value) : Bx ty N x v (w.setCell ⟨N, 1, none⟩ v) := by
  unfold Bx at *
  simp [World.setCell, Array.getElem?_modify, h]
theorem Bx.set {ty N : Nat} {x y : Value} {w : World} (h : Bx ty N x y w) (u v : Value) : Bx ty N u v ((w.setCell ⟨N, 0, none⟩ u).setCell ⟨N, 1, none⟩ v) := by
  unfold Bx at *
  have a1 : (w.setCell ⟨N, 0, none⟩ u).heap[N]? = some (.cells #[u, y] ty) := by simp [World.setCell, Array.getElem?_modify, h]
  generalize w.setCell ⟨N, 0, none⟩ u = W at *
  simp [World.setCell, Array.getElem?_modify, a1]
theorem Bx.keep {ty N : Nat} {x y : Value} {w w' : World} (h : Bx ty N x y w) (hb : Below w.heap.size w w') : Bx ty N x y w' := (hb.block N (lt_of_heap h)).trans h
theorem Bx.new (ty : Nat) (w : World) (x y : Value) : Bx ty w.heap.size x y (w.alloc (.cells #[x, y] ty)) := heap_new w _
theorem Bx.ne {ty ty' N k : Nat} {x y : Value} {c : Array Value} {w : World} (h : Bx ty N x y w) (hty : ty' ≠ ty) (hk : w.heap[k]? = some (.cells c ty')) : k ≠ N := by
  rintro rfl
  unfold Bx at h
  rw [h] at hk
  injection hk with hk
  injection hk with _ h2
  exact hty h2.symm
theorem Bx.far1 {ty N M : Nat} {x y : Value} {w : World} (h : Bx ty N x y w) (hn : N ≠ M) (v : Value) (o : Nat) : Bx ty N x y (w.setCell ⟨M, o, none⟩ v) := by
  unfold Bx at *
  rw [Below.heap_setCell _ _ _ N hn]; exact h
theorem Bx.tree {α : Type} {enc : α → Value} {zero : Value} {ty ty' : Nat} {N : Nat} {x y : Value} {w : World} (h : Bx ty N x y w) (hty : ty' ≠ ty) (u v : Value) {t : Tr α} {p : Value} (ht : TA enc zero ty' w p t) : TA enc zero ty' ((w.setCell ⟨N, 0, none⟩ u).setCell ⟨N, 1, none⟩ v) p t := by
  refine TA.keep ?_ t p ht
  intro k c hk
  have hn := h.ne hty hk
  rw [Below.heap_setCell _ _ _ k hn, Below.heap_setCell _ _ _ k hn]; exact hk
theorem Bx.tree1 {α : Type} {enc : α → Value} {zero : Value} {ty ty' : Nat} {N : Nat} {x y : Value} {w : World} (h : Bx ty N x y w) (hty : ty' ≠ ty) (v : Value) (o : Nat) {t : Tr α} {p : Value} (ht : TA enc zero ty' w p t) : TA enc zero ty' (w.setCell ⟨N, o, none⟩ v) p t := by
  refine TA.keep ?_ t p ht
  intro k c hk
  rw [Below.heap_setCell _ _ _ k (h.ne hty hk)]; exact hk
theorem below_set2 {B N : Nat} (w : World) (hB : B ≤ N) (u v : Value) : Below B w ((w.setCell ⟨N, 0, none⟩ u).setCell ⟨N, 1, none⟩ v) := Box.below w hB u v
theorem below_set1 {B N : Nat} (w : World) (hB : B ≤ N) (v : Value) (o : Nat) : Below B w (w.setCell ⟨N, o, none⟩ v) :=
  ⟨rfl, rfl, rfl, by simp [World.setCell], fun k hk => by rw [Below.heap_setCell _ _ _ k (by show k ≠ N; omega)]⟩

/-- What a box of an EV's node says itself. -/
theorem TI.top {t : Tr Nat} {w : World} {k : Nat} (h : TI w (.pointer (some ⟨k, 0, none⟩)) t) : w.cell? ⟨k, 0, none⟩ = some (.int .i64 ((topV t : Nat) : Int)) := by
  cases t using Tr.cs with
  | leaf a => obtain ⟨k', e, hk⟩ := h; cases e; exact (cells3 hk).1
  | pair l r => obtain ⟨k', vl, vr, e, hk, _, _⟩ := h; cases e; exact (cells3 hk).1

/-- A filling, as a value. -/
def RF (w : World) (x : Value) (c : Bool × Tr Nat) : Prop := ∃ k, x = .agg #[.bool c.1, .pointer (some ⟨k, 0, none⟩)] ∧ TI w (.pointer (some ⟨k, 0, none⟩)) c.2
theorem RF.below {w w' : World} {x : Value} {c : Bool × Tr Nat} (h : RF w x c) (hb : Below w.heap.size w w') : RF w' x c := by
  obtain ⟨k, e, t⟩ := h
  exact ⟨k, e, TA.below t hb⟩

theorem leafI_of (a : Nat) (w : World) : Calls Tryz.prog 107 #[.int .i64 (a : Int)] w fun e w' => ∃ k, e = .returned (.pointer (some ⟨k, 0, none⟩)) ∧ TI w' (.pointer (some ⟨k, 0, none⟩)) (.leaf a) ∧ Below w.heap.size w w' := by
  refine (leafI_any (a : Int) w).mono ?_
  rintro e w' ⟨rfl, rfl⟩
  exact ⟨_, rfl, leaf_laid w a, below_alloc _ _⟩
theorem greaterLeaf_of (a b : Nat) (w : World) : Calls Tryz.prog 61 #[.int .i64 (a : Int), .int .i64 (b : Int)] w fun e w' => ∃ k, e = .returned (.pointer (some ⟨k, 0, none⟩)) ∧ TI w' (.pointer (some ⟨k, 0, none⟩)) (.leaf (max a b)) ∧ Below w.heap.size w w' := by
  refine (greaterLeaf_any a b w).mono ?_
  rintro e w' ⟨x, rfl, t, b⟩
  obtain ⟨k, rfl⟩ := TA.root t
  exact ⟨k, rfl, t, b⟩

theorem cell_set_keep {w : World} {k o M o' : Nat} {v v' : Value} (hn : k ≠ M) (h : w.cell? ⟨k, o, none⟩ = some v) : (w.setCell ⟨M, o', none⟩ v').cell? ⟨k, o, none⟩ = some v := by
  rw [← h]; exact cell_of_block (Below.heap_setCell _ _ _ k hn)

theorem chain {B : Nat} {u v x : World} (h : Below B u v) (hB : B ≤ u.heap.size) (k : Below v.heap.size v x) : Below B u x := h.trans (k.mono (Nat.le_trans hB h.size))

end Go.Proofs.YtoebmfhgaalcdaaGreatDoor
