/-
  Our own. The document's stamp in memory; (*sprigsref.Stamp).id.
-/
import Derived.Test.YtoebmfhgaalcdaaGreatDoorRefNum
import Derived.BigRegion
namespace Go.Proofs.YtoebmfhgaalcdaaGreatDoor
open Go.RowKit

/-- A row of 256 cells lies in block b: which are held, and their numbers. -/
def St (b : Nat) (H : Nat → Bool) (C : Nat → Nat) (w : World) : Prop :=
  ∃ c : Array Value, w.heap[b]? = some (.cells c 121) ∧ c.size = 512 ∧ ∀ i, i < 256 → c[i]? = some (.bool (H i)) ∧ c[256 + i]? = some (.int .i64 (C i : Nat))

theorem St.holds {b : Nat} {H : Nat → Bool} {C : Nat → Nat} {w : World} (h : St b H C w) (i : Nat) (hi : i < 256) : w.cell? ⟨b, i, none⟩ = some (.bool (H i)) := by
  obtain ⟨c, h1, _, h3⟩ := h
  simp only [World.cell?, h1]
  simpa using (h3 i hi).1
theorem St.counts {b : Nat} {H : Nat → Bool} {C : Nat → Nat} {w : World} (h : St b H C w) (i : Nat) (hi : i < 256) : w.cell? ⟨b, 256 + i, none⟩ = some (.int .i64 (C i : Nat)) := by
  obtain ⟨c, h1, _, h3⟩ := h
  simp only [World.cell?, h1]
  simpa using (h3 i hi).2
theorem St.free {b : Nat} {H : Nat → Bool} {C : Nat → Nat} {w : World} (h : St b H C w) (o : Nat) : w.frozen? ⟨b, o, none⟩ = false := by
  obtain ⟨c, h1, _, h3⟩ := h
  simp [World.frozen?, h1]
theorem St.lt {b : Nat} {H : Nat → Bool} {C : Nat → Nat} {w : World} (h : St b H C w) : b < w.heap.size := by
  obtain ⟨c, h1, _⟩ := h; exact lt_of_heap h1

theorem St.congr {b : Nat} {H H' : Nat → Bool} {C C' : Nat → Nat} {w : World} (h : St b H C w) (e1 : ∀ i, i < 256 → H i = H' i) (e2 : ∀ i, i < 256 → C i = C' i) : St b H' C' w := by
  obtain ⟨c, h1, h2, h3⟩ := h
  exact ⟨c, h1, h2, fun i hi => by rw [← e1 i hi, ← e2 i hi]; exact h3 i hi⟩

theorem St.keep {b : Nat} {H : Nat → Bool} {C : Nat → Nat} {w w' : World} (h : St b H C w) (e : w'.heap[b]? = w.heap[b]?) : St b H C w' := by
  obtain ⟨c, h1, h2, h3⟩ := h
  exact ⟨c, e.trans h1, h2, h3⟩

theorem St.setHold {b : Nat} {H : Nat → Bool} {C : Nat → Nat} {w : World} (h : St b H C w) (j : Nat) (hj : j < 256) (v : Bool) : St b (fun i => if i = j then v else H i) C (w.setCell ⟨b, j, none⟩ (.bool v)) := by
  obtain ⟨c, h1, h2, h3⟩ := h
  refine ⟨c.setIfInBounds j (.bool v), ?_, by simpa using h2, fun i hi => ?_⟩
  · simp [World.setCell, Array.getElem?_modify, h1]
  · obtain ⟨g1, g2⟩ := h3 i hi
    rw [Array.getElem?_setIfInBounds, Array.getElem?_setIfInBounds]
    refine ⟨?_, ?_⟩
    · by_cases e : j = i
      · subst e; simp [h2]; omega
      · rw [if_neg e, g1]; simp only; rw [if_neg (show ¬ i = j by omega)]
    · rw [if_neg (by omega), g2]
theorem St.setCount {b : Nat} {H : Nat → Bool} {C : Nat → Nat} {w : World} (h : St b H C w) (j : Nat) (hj : j < 256) (v : Nat) : St b H (fun i => if i = j then v else C i) (w.setCell ⟨b, 256 + j, none⟩ (.int .i64 v)) := by
  obtain ⟨c, h1, h2, h3⟩ := h
  refine ⟨c.setIfInBounds (256 + j) (.int .i64 v), ?_, by simpa using h2, fun i hi => ?_⟩
  · simp [World.setCell, Array.getElem?_modify, h1]
  · obtain ⟨g1, g2⟩ := h3 i hi
    rw [Array.getElem?_setIfInBounds, Array.getElem?_setIfInBounds]
    refine ⟨?_, ?_⟩
    · rw [if_neg (by omega), g1]
    · by_cases e : j = i
      · subst e; simp [h2]; omega
      · rw [if_neg (by omega), g2]; simp only; rw [if_neg (show ¬ i = j by omega)]

theorem heap_new_r (w : World) (o : Obj) : (w.alloc o).heap[w.heap.size]? = some o := by
  show (w.heap.push o)[w.heap.size]? = _
  simp

theorem zero_cells : Tryz.zeroCells121 = Array.replicate 256 (.bool false) ++ Array.replicate 256 (.int .i64 0) := by kernel_rfl

theorem St.zero (w : World) : St w.heap.size (fun _ => false) (fun _ => 0) (w.alloc (.cells Tryz.zeroCells121 121)) := by
  refine ⟨_, heap_new_r w _, by rw [zero_cells]; simp, fun i hi => ?_⟩
  rw [zero_cells]
  refine ⟨?_, ?_⟩
  · rw [Array.getElem?_append_left (by simpa using hi)]; simp [hi]
  · rw [Array.getElem?_append_right (by simp)]; simp [hi]

end Go.Proofs.YtoebmfhgaalcdaaGreatDoor
