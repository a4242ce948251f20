/-
  Our own. Steps of regions that draw their order, one at a time; a group whose row grows.
-/
import Derived.Test.YtoebmfhgaalcdaaDoorPlayEvent
namespace Go.Proofs.YtoebmfhgaalcdaaDoor
open Go.RowKit

section
variable {ops : Array Oper} {o : Oper} {a : Act} {w w' : World} {K : Act → World → Prop} {Q : Exit → Act → World → Prop} {E : Prop}
theorem step_run (hg : o.guard = none) (v : Value) (h : Sem.run Tryd.prog (execOp a.eval o) w = .ok (.value v) w') (hK : K (a.put o.dst v) w') :
    if Region.wanted o (yielded ops a.tmps) = true then Oper.wp Tryd.prog o a w K Q else E := by
  have hw : Region.wanted o (yielded ops a.tmps) = true := by simp [Region.wanted, hg]
  rw [if_pos hw]
  unfold Oper.wp
  rw [h]
  exact hK
theorem step_skip (hg : o.guard = none) (h : Sem.run Tryd.prog (execOp a.eval o) w = .ok .skip w') (hK : K (a.put o.dst undef) w') :
    if Region.wanted o (yielded ops a.tmps) = true then Oper.wp Tryd.prog o a w K Q else E := by
  have hw : Region.wanted o (yielded ops a.tmps) = true := by simp [Region.wanted, hg]
  rw [if_pos hw]
  unfold Oper.wp
  rw [h]
  exact hK
end

section
variable {ρ : Operand → Value} {x y z : Operand} {d : Option Tmp} {t : TypeId} {p : String} {af : Array Edge} {g : Option (Nat × Bool)}
theorem exec_build3 (S : ByteArray) (f : Nat → Bool) (b : Bool) (w : World) (h1 : ρ x = .string S) (h2 : ρ y = .agg (pastCells f).toArray) (h3 : ρ z = .bool b) :
    Sem.run Tryd.prog (execOp ρ ⟨d, .build 34 #[(0, x), (1, y), (2, z)], t, p, af, g⟩) w = .ok (.value (.agg (memCells S f b).toArray)) w := by
  have e : Sem.run Tryd.prog (Instr.build 34 #[(0, ρ x), (1, ρ y), (2, ρ z)]) w = .ok (.agg (memCells S f b).toArray) w := by rw [h1, h2, h3]; exact build_member S f b w
  unfold execOp
  simp only [List.map_toArray, List.map_cons, List.map_nil, Sem.run_bind, Sem.run_pure, e, Result.andThen_ok]
theorem exec_build2 (S : ByteArray) (f : Nat → Bool) (w : World) (h1 : ρ x = .string S) (h2 : ρ y = .agg (pastCells f).toArray) :
    Sem.run Tryd.prog (execOp ρ ⟨d, .build 34 #[(0, x), (1, y)], t, p, af, g⟩) w = .ok (.value (.agg (memCells S f false).toArray)) w := by
  have e : Sem.run Tryd.prog (Instr.build 34 #[(0, ρ x), (1, ρ y)]) w = .ok (.agg (memCells S f false).toArray) w := by rw [h1, h2]; exact build_member2 S f w
  unfold execOp
  simp only [List.map_toArray, List.map_cons, List.map_nil, Sem.run_bind, Sem.run_pure, e, Result.andThen_ok]
theorem bslice_member (S : ByteArray) (f : Nat → Bool) (b : Bool) (w : World) : Sem.run Tryd.prog (Instr.buildSlice 26 1 #[(0, Value.agg (memCells S f b).toArray)]) w = .ok (.slice (some ⟨w.heap.size, 0, none⟩) 1 1) (w.alloc (.cells (memCells S f b).toArray 34)) := by kernel_rfl
theorem exec_bslice (S : ByteArray) (f : Nat → Bool) (b : Bool) (w : World) (h : ρ x = .agg (memCells S f b).toArray) :
    Sem.run Tryd.prog (execOp ρ ⟨d, .buildSlice 26 1 #[(0, x)], t, p, af, g⟩) w = .ok (.value (.slice (some ⟨w.heap.size, 0, none⟩) 1 1)) (w.alloc (.cells (memCells S f b).toArray 34)) := by
  have e := bslice_member S f b w
  rw [← h] at e
  unfold execOp
  simp only [List.map_toArray, List.map_cons, List.map_nil, Sem.run_bind, Sem.run_pure, e, Result.andThen_ok]
theorem exec_load_row (w : World) (ad : Addr) (v : Value) (h : ρ x = .pointer (some ad)) (hc : w.cell? ad = some v) :
    Sem.run Tryd.prog (execOp ρ ⟨d, .load 26 x, t, p, af, g⟩) w = .ok (.value v) w := by
  unfold execOp
  simp only [h]
  go_simp
theorem exec_store_row (w : World) (ad : Addr) (u : Option Addr) (n c : Nat) (v : Value) (h : ρ x = .pointer (some ad)) (hy : ρ y = .slice u n c) (hc : w.cell? ad = some v) (hf : w.frozen? ad = false) :
    Sem.run Tryd.prog (execOp ρ ⟨d, .store 26 x y, t, p, af, g⟩) w = .ok .skip (w.setCell ad (.slice u n c)) := by
  unfold execOp
  simp only [h, hy]
  go_simp
end

theorem range_far {w w' : World} {M o : Nat} {cs : List Value} (h : w.rangeAt M o cs) (e : w'.heap[M]? = w.heap[M]?) : w'.rangeAt M o cs := fun j v hj => (cell_of_block e).trans (h j v hj)
theorem past_len (f : Nat → Bool) : (pastCells f).length = 60 := by simp [pastCells]
theorem mem_len (S : ByteArray) (f : Nat → Bool) (b : Bool) : (memCells S f b).length = 62 := by simp [memCells, past_len]
theorem mem_one (S : ByteArray) (f : Nat → Bool) (b : Bool) : ∀ v ∈ memCells S f b, v.oneCell' = true := by
  intro v hv
  unfold memCells pastCells at hv
  rw [List.mem_cons, List.mem_append, List.mem_map, List.mem_singleton] at hv
  rcases hv with rfl | ⟨j, _, rfl⟩ | rfl <;> rfl

/-- What was ahead, of a member that was taken. -/
theorem Took.past {B gb M : Nat} {w0 w : World} {sv : Value} {L : List Mem} {d : Nat} {m : Mem} (h : Took B gb M w0 w sv L d m) : w.rangeAt M 1 (pastCells m.past) := by
  intro j v hj
  have hjl := get_lt hj
  rw [past_len] at hjl
  have e1 : v = .bool (m.past j) := by simpa [pastCells, hjl] using hj.symm
  subst e1
  have := h.rng (1 + j) _ ((mcells_at m).2.2 j hjl)
  rw [Nat.zero_add] at this
  exact this

/-- A group's row, with one member more, stored back. -/
theorem Gr.appended {B gb : Nat} {w : World} {sv : Value} {L : List Mem} {d : Nat} (G : Gr B gb w sv L d) (hp : 0 < L.length) (m' : Mem) {g' cap' : Nat} {w4 : World}
    (hown : w4.ownsRow B 34 62 (.slice (some ⟨g', 0, none⟩) (L.length + 1) cap') (L.length + 1) (flatM L ++ mcells m')) (hgrow : w.grownBy w4 sv.ownBlock) (hat : sv.ownBlock = some g' ∨ g' = w.heap.size) :
    Gr B gb (w4.setCell ⟨gb, 0, none⟩ (.slice (some ⟨g', 0, none⟩) (L.length + 1) cap')) (.slice (some ⟨g', 0, none⟩) (L.length + 1) cap') (L ++ [m']) d ∧ Below B w (w4.setCell ⟨gb, 0, none⟩ (.slice (some ⟨g', 0, none⟩) (L.length + 1) cap')) ∧
    w4.cell? ⟨gb, 0, none⟩ = some sv ∧ (∀ o, w4.frozen? ⟨gb, o, none⟩ = false) := by
  obtain ⟨g, cap, rfl, hBg, hgl, hne, _, _, _, _, _⟩ := G.form hp
  have hgbl := lt_of_heap G.box
  have eb : w4.heap[gb]? = w.heap[gb]? := hgrow.block gb hgbl (by show some gb ≠ some g; intro e; injection e with e; exact hne e.symm)
  have hg' : g' ≠ gb := by
    rcases hat with h | h
    · have h : some g = some g' := h
      injection h with h; omega
    · omega
  have hB4 : Below B w w4 := ⟨hgrow.os, hgrow.tape, hgrow.output, hgrow.size, fun k hk => hgrow.block k (by omega) (by show some k ≠ some g; intro e; injection e with e; omega)⟩
  have c4 := cells2 (eb.trans G.box)
  refine ⟨⟨?_, G.base, ?_⟩, hB4.trans (below_set1 w4 G.base _ 0), c4.1, c4.2.2⟩
  · have := eb.trans G.box
    simp [World.setCell, Array.getElem?_modify, this]
  · rw [flatM_append, show flatM [m'] = mcells m' by simp [flatM], List.length_append]
    obtain ⟨k1, k2⟩ := hown
    refine ⟨k1, ?_⟩
    rcases k2 with ⟨h, _⟩ | ⟨g9, cap9, cur, e1, e2, e3, e4, e5, e6, e7⟩
    · cases h
    · refine Or.inr ⟨g9, cap9, cur, e1, e2, ?_, e4, e5, e6, e7⟩
      simp only [Value.slice.injEq, Option.some.injEq, Addr.mk.injEq] at e1
      obtain ⟨⟨rfl, _⟩, _, _⟩ := e1
      rw [Below.heap_setCell _ _ _ g' hg']; exact e3

end Go.Proofs.YtoebmfhgaalcdaaDoor
