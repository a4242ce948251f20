/-
  Our own. Words for worlds: 'Apart b w w2': all blocks of w but number b are as they were; the reader's box; trees in memory.
-/
import Derived.Test.YtoebmfhgaalcdaaGreatDoorRows
import Derived.WalkKit
import Derived.WalkSpells
import Derived.WalkLawsBesides
import Derived.BigQuiet
import Derived.Deep.QuietTactic
namespace Go.Proofs.YtoebmfhgaalcdaaGreatDoor
open Go.RowKit

theorem hide {p : Prop} (h : p) : Hid p := h
theorem unhide {p : Prop} (h : Hid p) : p := h

/-- All blocks of w but number b are as they were; the streams too. -/
structure Apart (b : Nat) (w w' : World) : Prop where
  os : w'.os = w.os
  tape : w'.tape = w.tape
  output : w'.output = w.output
  size : w.heap.size ≤ w'.heap.size
  block : ∀ k, k < w.heap.size → k ≠ b → w'.heap[k]? = w.heap[k]?

theorem Apart.refl (b : Nat) (w : World) : Apart b w w := ⟨rfl, rfl, rfl, Nat.le_refl _, fun _ _ _ => rfl⟩

theorem Apart.trans {b : Nat} {u v w : World} (h : Apart b u v) (k : Apart b v w) : Apart b u w :=
  ⟨k.os.trans h.os, k.tape.trans h.tape, k.output.trans h.output, Nat.le_trans h.size k.size, fun i hi hn => (k.block i (Nat.lt_of_lt_of_le hi h.size) hn).trans (h.block i hi hn)⟩

theorem Apart.drewN (b : Nat) (w : World) (n : Nat) : Apart b w (w.drewN n) := ⟨rfl, rfl, rfl, Nat.le_refl _, fun _ _ _ => rfl⟩

theorem Apart.alloc {b : Nat} {u w : World} (h : Apart b u w) (o : Obj) : Apart b u (w.alloc o) :=
  h.trans ⟨rfl, rfl, rfl, by simp, fun k hk _ => Below.heap_alloc _ _ _ hk⟩

theorem Apart.setCell {b : Nat} {u w : World} (h : Apart b u w) {p : Addr} (hp : p.block = b) (v : Value) : Apart b u (w.setCell p v) :=
  h.trans ⟨rfl, rfl, rfl, by simp [World.setCell], fun k _ hn => Below.heap_setCell _ _ _ _ (by omega)⟩

theorem Apart.below {b : Nat} {w w' : World} (h : Apart b w w') (hb : b ≤ w.heap.size) : Below b w w' :=
  ⟨h.os, h.tape, h.output, h.size, fun k hk => h.block k (by omega) (by omega)⟩

/-- A block that no world has: nothing has turned at all. -/
theorem Apart.of_below {w w' : World} (h : Below w.heap.size w w') (b : Nat) : Apart b w w' :=
  ⟨h.os, h.tape, h.output, h.size, fun k hk _ => h.block k hk⟩

theorem lt_of_heap {w : World} {k : Nat} {o : Obj} (h : w.heap[k]? = some o) : k < w.heap.size := by
  rcases Nat.lt_or_ge k w.heap.size with g | g
  · exact g
  · rw [Array.getElem?_eq_none g] at h; cases h

/-- The reader's box. -/
def rdObj (s : ByteArray) (at_ rough : Nat) : Obj := .cells #[.string s, .int .i64 at_, .int .i64 rough] 135

/-- The reader lies in block b. -/
def Rd (b : Nat) (s : ByteArray) (at_ rough : Nat) (w : World) : Prop := w.heap[b]? = some (rdObj s at_ rough)

theorem Rd.cells {b : Nat} {s : ByteArray} {i r : Nat} {w : World} (h : Rd b s i r w) :
    w.cell? ⟨b, 0, none⟩ = some (.string s) ∧ w.cell? ⟨b, 1, none⟩ = some (.int .i64 i) ∧ w.cell? ⟨b, 2, none⟩ = some (.int .i64 r) ∧ (∀ o, w.frozen? ⟨b, o, none⟩ = false) := by
  unfold Rd rdObj at h
  refine ⟨?_, ?_, ?_, ?_⟩
  · simp [World.cell?, h]
  · simp [World.cell?, h]
  · simp [World.cell?, h]
  · intro o; simp [World.frozen?, h]

theorem Rd.drewN {b : Nat} {s : ByteArray} {i r : Nat} {w : World} (h : Rd b s i r w) (n : Nat) : Rd b s i r (w.drewN n) := h

theorem Rd.alloc {b : Nat} {s : ByteArray} {i r : Nat} {w : World} (h : Rd b s i r w) (o : Obj) : Rd b s i r (w.alloc o) :=
  (Below.heap_alloc w o b (lt_of_heap h)).trans h

theorem Rd.setAt {b : Nat} {s : ByteArray} {i r : Nat} {w : World} (h : Rd b s i r w) (j : Nat) : Rd b s j r (w.setCell ⟨b, 1, none⟩ (.int .i64 j)) := by
  unfold Rd rdObj at *
  simp [World.setCell, Array.getElem?_modify, h]

theorem Rd.setRough {b : Nat} {s : ByteArray} {i r : Nat} {w : World} (h : Rd b s i r w) (j : Nat) : Rd b s i j (w.setCell ⟨b, 2, none⟩ (.int .i64 j)) := by
  unfold Rd rdObj at *
  simp [World.setCell, Array.getElem?_modify, h]

/-- What is thrown. -/
def thrown (errno place : Nat) : List PanicEntry := [{ v := .iface 109 (.agg #[.int .i64 errno, .int .i64 place]), recovered := false }]

/-- The byte that comes; 0 at the end. -/
def nx (s : ByteArray) (i : Nat) : Nat := (s.data.toList.getD i 0).toNat

theorem nx_lt (s : ByteArray) (i : Nat) : nx s i < 256 := UInt8.toNat_lt _
theorem nx_end (s : ByteArray) : nx s s.size = 0 := by
  unfold nx; simp [List.getD_eq_getElem?_getD]
theorem nx_in (s : ByteArray) (i : Nat) (h : i < s.size) : nx s i = (s[i]).toNat := by
  unfold nx
  rw [List.getD_eq_getElem?_getD, List.getElem?_eq_getElem (by simpa using h)]
  rfl
theorem lt_of_nx (s : ByteArray) (i : Nat) (h : nx s i ≠ 0) : i < s.size := by
  rcases Nat.lt_or_ge i s.size with g | g
  · exact g
  · exfalso; apply h; unfold nx
    rw [List.getD_eq_getElem?_getD, List.getElem?_eq_none (by simpa using g)]; rfl

/-- Is it a digit? -/
def isDig (c : Nat) : Bool := decide (48 ≤ c ∧ c ≤ 57)

end Go.Proofs.YtoebmfhgaalcdaaGreatDoor
