/-
  Our own. Twenty-three texts that are no stamps, and one that is too long: what reading each comes to. (Laid by wip/mk/firm.py.)
-/
import Derived.Test.YtoebmfhgaalcdaaGreatDoorCallsBad
import Derived.Test.YtoebmfhgaalcdaaGreatDoorStampsK
import Derived.Test.YtoebmfhgaalcdaaGreatDoorPackE
import Derived.Laws.MakeOwn
namespace Go.Proofs.YtoebmfhgaalcdaaGreatDoor
open Go.RowKit

/-- 20001 bytes, all 0. -/
def zeros : ByteArray := strOfNums (List.replicate 20001 0)
theorem nums_size (xs : List Int) : (strOfNums xs).size = xs.length := by simp [strOfNums, ByteArray.size]
theorem zeros_size : zeros.size = 20001 := by
  unfold zeros
  rw [nums_size, List.length_replicate]
def zerosObj : Obj := .cells (madeCells #[Value.int .u8 0] 20001) 5

theorem Tryz.info5Z : (Tryz.prog.info? 5).map (fun i => (i.zero, i.size, i.bytes)) = some (some (.int .u8 0), 1, 1) := by kernel_rfl

theorem make_zeros (w : World) : Sem.run Tryz.prog (Instr.makeSlice 27 (.int .i64 20001) (.int .i64 20001)) w = .ok (.slice (some ⟨w.heap.size, 0, none⟩) 20001 20001) (w.alloc zerosObj) := by
  obtain ⟨i, hi, hz, hs, hb⟩ : ∃ i, Tryz.prog.info? 5 = some i ∧ i.zero = some (.int .u8 0) ∧ i.size = 1 ∧ i.bytes = 1 := by
    have h := Tryz.info5Z
    cases e : Tryz.prog.info? 5 with
    | none => rw [e] at h; cases h
    | some i =>
      rw [e] at h
      simp only [Option.map_some, Option.some.injEq, Prod.mk.injEq] at h
      exact ⟨i, rfl, h.1, h.2.1, h.2.2⟩
  have R := run_makeSlice (P := Tryz.prog) w 27 5 i (.int .u8 0) Tryz.underlying27 hi hz .i64 .i64 20001 20001 (by omega) (by omega) (by rw [hs]; decide) (by rw [hb]; decide) (by omega)
  rw [R, hs]
  rfl

theorem madeOne (z : Value) (n i : Nat) (h : i < n) : (madeCells #[z] n)[i]? = some z := by
  unfold madeCells
  simp [h, Nat.mod_one]

theorem conv_zeros (w : World) : (convert 27 9 (.slice (some ⟨w.heap.size, 0, none⟩) 20001 20001)).run Tryz.prog (w.alloc zerosObj) = .ok (.string zeros) (w.alloc zerosObj) := by
  refine run_convert_bytes_arg (P := Tryz.prog) (w.alloc zerosObj) 27 5 Tryz.underlying27 Tryz.underlying5 w.heap.size 0 20001 20001 (List.replicate 20001 0) (by rw [List.length_replicate]) (fun i hi => ?_) 9 Tryz.underlying9
  have hb : (w.alloc zerosObj).heap[w.heap.size]? = some zerosObj := heap_new w _
  unfold World.cell?
  rw [hb]
  unfold zerosObj
  simp only [Nat.zero_add]
  rw [madeOne _ _ _ hi, List.getD_eq_getElem?_getD, List.getElem?_replicate, if_pos hi]
  rfl

/-- A text, its error and its place. -/
def isBad (t : ByteArray) (e p : Nat) : Prop := t.size ≤ 30000 ∧ readR t = .bad e p

theorem bad0 : isBad { data := #[] } 2 0 := ⟨by decide, by kernel_rfl⟩
theorem bad1 : isBad { data := #[120] } 2 0 := ⟨by decide, by kernel_rfl⟩
theorem bad2 : isBad { data := #[49] } 2 1 := ⟨by decide, by kernel_rfl⟩
theorem bad3 : isBad { data := #[49, 59] } 2 2 := ⟨by decide, by kernel_rfl⟩
theorem bad4 : isBad { data := #[49, 59, 120] } 2 2 := ⟨by decide, by kernel_rfl⟩
theorem bad5 : isBad { data := #[59, 48] } 2 0 := ⟨by decide, by kernel_rfl⟩
theorem bad6 : isBad { data := #[50, 59, 48] } 2 0 := ⟨by decide, by kernel_rfl⟩
theorem bad7 : isBad { data := #[40, 49, 44, 48, 59, 48] } 2 4 := ⟨by decide, by kernel_rfl⟩
theorem bad8 : isBad { data := #[40, 49, 44, 48, 41, 41, 59, 48] } 2 5 := ⟨by decide, by kernel_rfl⟩
theorem bad9 : isBad { data := #[49, 59, 40, 48, 44, 49] } 2 6 := ⟨by decide, by kernel_rfl⟩
theorem bad10 : isBad { data := #[49, 59, 40, 48, 44, 49, 44, 48] } 2 8 := ⟨by decide, by kernel_rfl⟩
theorem bad11 : isBad { data := #[49, 59, 32, 48] } 2 2 := ⟨by decide, by kernel_rfl⟩
theorem bad12 : isBad { data := #[49, 59, 45, 49] } 2 2 := ⟨by decide, by kernel_rfl⟩
theorem bad13 : isBad { data := #[49, 59, 48, 48] } 2 3 := ⟨by decide, by kernel_rfl⟩
theorem bad14 : isBad { data := #[49, 59, 49, 48, 57, 57, 53, 49, 49, 54, 50, 55, 55, 55, 55] } 2 14 := ⟨by decide, by kernel_rfl⟩
theorem bad15 : isBad { data := #[40, 49, 44, 49, 41, 59, 48] } 3 0 := ⟨by decide, by kernel_rfl⟩
theorem bad16 : isBad { data := #[40, 48, 44, 48, 41, 59, 48] } 3 0 := ⟨by decide, by kernel_rfl⟩
theorem bad17 : isBad { data := #[40, 40, 49, 44, 49, 41, 44, 48, 41, 59, 48] } 3 1 := ⟨by decide, by kernel_rfl⟩
theorem bad18 : isBad { data := #[49, 59, 40, 48, 44, 48, 44, 48, 41] } 3 2 := ⟨by decide, by kernel_rfl⟩
theorem bad19 : isBad { data := #[49, 59, 40, 48, 44, 49, 44, 49, 41] } 3 2 := ⟨by decide, by kernel_rfl⟩
theorem bad20 : isBad { data := #[49, 59, 40, 49, 44, 50, 44, 51, 41] } 3 2 := ⟨by decide, by kernel_rfl⟩
theorem bad21 : isBad { data := #[49, 59, 40, 49, 48, 57, 57, 53, 49, 49, 54, 50, 55, 55, 55, 54, 44, 48, 44, 49, 41] } 7 21 := ⟨by decide, by kernel_rfl⟩
theorem bad22 : isBad { data := #[40, 40, 40, 40, 40, 40, 40, 40, 40, 49, 44, 48, 41, 44, 48, 41, 44, 48, 41, 44, 48, 41, 44, 48, 41, 44, 48, 41, 44, 48, 41, 44, 48, 41, 44, 48, 41, 59, 48] } 2 8 := ⟨by decide, by kernel_rfl⟩
theorem bad23 : isBad zeros 1 0 := ⟨by rw [zeros_size]; omega, readR_of_long zeros (by rw [zeros_size]; omega)⟩

theorem firm_at : ∀ (k : Nat), k < 24 → ∃ t e p, (#[Value.string { data := #[] }, Value.string { data := #[120] }, Value.string { data := #[49] }, Value.string { data := #[49, 59] }, Value.string { data := #[49, 59, 120] }, Value.string { data := #[59, 48] }, Value.string { data := #[50, 59, 48] }, Value.string { data := #[40, 49, 44, 48, 59, 48] }, Value.string { data := #[40, 49, 44, 48, 41, 41, 59, 48] }, Value.string { data := #[49, 59, 40, 48, 44, 49] }, Value.string { data := #[49, 59, 40, 48, 44, 49, 44, 48] }, Value.string { data := #[49, 59, 32, 48] }, Value.string { data := #[49, 59, 45, 49] }, Value.string { data := #[49, 59, 48, 48] }, Value.string { data := #[49, 59, 49, 48, 57, 57, 53, 49, 49, 54, 50, 55, 55, 55, 55] }, Value.string { data := #[40, 49, 44, 49, 41, 59, 48] }, Value.string { data := #[40, 48, 44, 48, 41, 59, 48] }, Value.string { data := #[40, 40, 49, 44, 49, 41, 44, 48, 41, 59, 48] }, Value.string { data := #[49, 59, 40, 48, 44, 48, 44, 48, 41] }, Value.string { data := #[49, 59, 40, 48, 44, 49, 44, 49, 41] }, Value.string { data := #[49, 59, 40, 49, 44, 50, 44, 51, 41] }, Value.string { data := #[49, 59, 40, 49, 48, 57, 57, 53, 49, 49, 54, 50, 55, 55, 55, 54, 44, 48, 44, 49, 41] }, Value.string { data := #[40, 40, 40, 40, 40, 40, 40, 40, 40, 49, 44, 48, 41, 44, 48, 41, 44, 48, 41, 44, 48, 41, 44, 48, 41, 44, 48, 41, 44, 48, 41, 44, 48, 41, 44, 48, 41, 59, 48] }, Value.string zeros] : Array Value)[k]? = some (.string t) ∧ (#[Value.int .i64 0, Value.int .i64 0, Value.int .i64 1, Value.int .i64 2, Value.int .i64 2, Value.int .i64 0, Value.int .i64 0, Value.int .i64 4, Value.int .i64 5, Value.int .i64 6, Value.int .i64 8, Value.int .i64 2, Value.int .i64 2, Value.int .i64 3, Value.int .i64 14, Value.int .i64 0, Value.int .i64 0, Value.int .i64 1, Value.int .i64 2, Value.int .i64 2, Value.int .i64 2, Value.int .i64 21, Value.int .i64 8, Value.int .i64 0] : Array Value)[k]? = some (.int .i64 (p : Nat)) ∧ (#[Value.int .i64 2, Value.int .i64 2, Value.int .i64 2, Value.int .i64 2, Value.int .i64 2, Value.int .i64 2, Value.int .i64 2, Value.int .i64 2, Value.int .i64 2, Value.int .i64 2, Value.int .i64 2, Value.int .i64 2, Value.int .i64 2, Value.int .i64 2, Value.int .i64 2, Value.int .i64 3, Value.int .i64 3, Value.int .i64 3, Value.int .i64 3, Value.int .i64 3, Value.int .i64 3, Value.int .i64 7, Value.int .i64 2, Value.int .i64 1] : Array Value)[k]? = some (.int .i64 (e : Nat)) ∧ isBad t e p
  | 0, _ => ⟨_, 2, 0, rfl, rfl, rfl, bad0⟩
  | 1, _ => ⟨_, 2, 0, rfl, rfl, rfl, bad1⟩
  | 2, _ => ⟨_, 2, 1, rfl, rfl, rfl, bad2⟩
  | 3, _ => ⟨_, 2, 2, rfl, rfl, rfl, bad3⟩
  | 4, _ => ⟨_, 2, 2, rfl, rfl, rfl, bad4⟩
  | 5, _ => ⟨_, 2, 0, rfl, rfl, rfl, bad5⟩
  | 6, _ => ⟨_, 2, 0, rfl, rfl, rfl, bad6⟩
  | 7, _ => ⟨_, 2, 4, rfl, rfl, rfl, bad7⟩
  | 8, _ => ⟨_, 2, 5, rfl, rfl, rfl, bad8⟩
  | 9, _ => ⟨_, 2, 6, rfl, rfl, rfl, bad9⟩
  | 10, _ => ⟨_, 2, 8, rfl, rfl, rfl, bad10⟩
  | 11, _ => ⟨_, 2, 2, rfl, rfl, rfl, bad11⟩
  | 12, _ => ⟨_, 2, 2, rfl, rfl, rfl, bad12⟩
  | 13, _ => ⟨_, 2, 3, rfl, rfl, rfl, bad13⟩
  | 14, _ => ⟨_, 2, 14, rfl, rfl, rfl, bad14⟩
  | 15, _ => ⟨_, 3, 0, rfl, rfl, rfl, bad15⟩
  | 16, _ => ⟨_, 3, 0, rfl, rfl, rfl, bad16⟩
  | 17, _ => ⟨_, 3, 1, rfl, rfl, rfl, bad17⟩
  | 18, _ => ⟨_, 3, 2, rfl, rfl, rfl, bad18⟩
  | 19, _ => ⟨_, 3, 2, rfl, rfl, rfl, bad19⟩
  | 20, _ => ⟨_, 3, 2, rfl, rfl, rfl, bad20⟩
  | 21, _ => ⟨_, 7, 21, rfl, rfl, rfl, bad21⟩
  | 22, _ => ⟨_, 2, 8, rfl, rfl, rfl, bad22⟩
  | 23, _ => ⟨_, 1, 0, rfl, rfl, rfl, bad23⟩
  | k + 24, h => by omega

theorem firm_cells (k : Nat) (hk : k < 24) : ∃ t e p, isBad t e p ∧ ∀ w1 : World,
    ((((w1.alloc zerosObj).alloc (.cells #[Value.string { data := #[] }, Value.string { data := #[120] }, Value.string { data := #[49] }, Value.string { data := #[49, 59] }, Value.string { data := #[49, 59, 120] }, Value.string { data := #[59, 48] }, Value.string { data := #[50, 59, 48] }, Value.string { data := #[40, 49, 44, 48, 59, 48] }, Value.string { data := #[40, 49, 44, 48, 41, 41, 59, 48] }, Value.string { data := #[49, 59, 40, 48, 44, 49] }, Value.string { data := #[49, 59, 40, 48, 44, 49, 44, 48] }, Value.string { data := #[49, 59, 32, 48] }, Value.string { data := #[49, 59, 45, 49] }, Value.string { data := #[49, 59, 48, 48] }, Value.string { data := #[49, 59, 49, 48, 57, 57, 53, 49, 49, 54, 50, 55, 55, 55, 55] }, Value.string { data := #[40, 49, 44, 49, 41, 59, 48] }, Value.string { data := #[40, 48, 44, 48, 41, 59, 48] }, Value.string { data := #[40, 40, 49, 44, 49, 41, 44, 48, 41, 59, 48] }, Value.string { data := #[49, 59, 40, 48, 44, 48, 44, 48, 41] }, Value.string { data := #[49, 59, 40, 48, 44, 49, 44, 49, 41] }, Value.string { data := #[49, 59, 40, 49, 44, 50, 44, 51, 41] }, Value.string { data := #[49, 59, 40, 49, 48, 57, 57, 53, 49, 49, 54, 50, 55, 55, 55, 54, 44, 48, 44, 49, 41] }, Value.string { data := #[40, 40, 40, 40, 40, 40, 40, 40, 40, 49, 44, 48, 41, 44, 48, 41, 44, 48, 41, 44, 48, 41, 44, 48, 41, 44, 48, 41, 44, 48, 41, 44, 48, 41, 44, 48, 41, 59, 48] }, Value.string zeros] 9)).alloc (.cells #[Value.int .i64 0, Value.int .i64 0, Value.int .i64 1, Value.int .i64 2, Value.int .i64 2, Value.int .i64 0, Value.int .i64 0, Value.int .i64 4, Value.int .i64 5, Value.int .i64 6, Value.int .i64 8, Value.int .i64 2, Value.int .i64 2, Value.int .i64 3, Value.int .i64 14, Value.int .i64 0, Value.int .i64 0, Value.int .i64 1, Value.int .i64 2, Value.int .i64 2, Value.int .i64 2, Value.int .i64 21, Value.int .i64 8, Value.int .i64 0] 3)).alloc (.cells #[Value.int .i64 2, Value.int .i64 2, Value.int .i64 2, Value.int .i64 2, Value.int .i64 2, Value.int .i64 2, Value.int .i64 2, Value.int .i64 2, Value.int .i64 2, Value.int .i64 2, Value.int .i64 2, Value.int .i64 2, Value.int .i64 2, Value.int .i64 2, Value.int .i64 2, Value.int .i64 3, Value.int .i64 3, Value.int .i64 3, Value.int .i64 3, Value.int .i64 3, Value.int .i64 3, Value.int .i64 7, Value.int .i64 2, Value.int .i64 1] 29)).cell? ⟨w1.heap.size + 1, k, none⟩ = some (.string t) ∧
    ((((w1.alloc zerosObj).alloc (.cells #[Value.string { data := #[] }, Value.string { data := #[120] }, Value.string { data := #[49] }, Value.string { data := #[49, 59] }, Value.string { data := #[49, 59, 120] }, Value.string { data := #[59, 48] }, Value.string { data := #[50, 59, 48] }, Value.string { data := #[40, 49, 44, 48, 59, 48] }, Value.string { data := #[40, 49, 44, 48, 41, 41, 59, 48] }, Value.string { data := #[49, 59, 40, 48, 44, 49] }, Value.string { data := #[49, 59, 40, 48, 44, 49, 44, 48] }, Value.string { data := #[49, 59, 32, 48] }, Value.string { data := #[49, 59, 45, 49] }, Value.string { data := #[49, 59, 48, 48] }, Value.string { data := #[49, 59, 49, 48, 57, 57, 53, 49, 49, 54, 50, 55, 55, 55, 55] }, Value.string { data := #[40, 49, 44, 49, 41, 59, 48] }, Value.string { data := #[40, 48, 44, 48, 41, 59, 48] }, Value.string { data := #[40, 40, 49, 44, 49, 41, 44, 48, 41, 59, 48] }, Value.string { data := #[49, 59, 40, 48, 44, 48, 44, 48, 41] }, Value.string { data := #[49, 59, 40, 48, 44, 49, 44, 49, 41] }, Value.string { data := #[49, 59, 40, 49, 44, 50, 44, 51, 41] }, Value.string { data := #[49, 59, 40, 49, 48, 57, 57, 53, 49, 49, 54, 50, 55, 55, 55, 54, 44, 48, 44, 49, 41] }, Value.string { data := #[40, 40, 40, 40, 40, 40, 40, 40, 40, 49, 44, 48, 41, 44, 48, 41, 44, 48, 41, 44, 48, 41, 44, 48, 41, 44, 48, 41, 44, 48, 41, 44, 48, 41, 44, 48, 41, 59, 48] }, Value.string zeros] 9)).alloc (.cells #[Value.int .i64 0, Value.int .i64 0, Value.int .i64 1, Value.int .i64 2, Value.int .i64 2, Value.int .i64 0, Value.int .i64 0, Value.int .i64 4, Value.int .i64 5, Value.int .i64 6, Value.int .i64 8, Value.int .i64 2, Value.int .i64 2, Value.int .i64 3, Value.int .i64 14, Value.int .i64 0, Value.int .i64 0, Value.int .i64 1, Value.int .i64 2, Value.int .i64 2, Value.int .i64 2, Value.int .i64 21, Value.int .i64 8, Value.int .i64 0] 3)).alloc (.cells #[Value.int .i64 2, Value.int .i64 2, Value.int .i64 2, Value.int .i64 2, Value.int .i64 2, Value.int .i64 2, Value.int .i64 2, Value.int .i64 2, Value.int .i64 2, Value.int .i64 2, Value.int .i64 2, Value.int .i64 2, Value.int .i64 2, Value.int .i64 2, Value.int .i64 2, Value.int .i64 3, Value.int .i64 3, Value.int .i64 3, Value.int .i64 3, Value.int .i64 3, Value.int .i64 3, Value.int .i64 7, Value.int .i64 2, Value.int .i64 1] 29)).cell? ⟨w1.heap.size + 1 + 1, k, none⟩ = some (.int .i64 (p : Nat)) ∧
    ((((w1.alloc zerosObj).alloc (.cells #[Value.string { data := #[] }, Value.string { data := #[120] }, Value.string { data := #[49] }, Value.string { data := #[49, 59] }, Value.string { data := #[49, 59, 120] }, Value.string { data := #[59, 48] }, Value.string { data := #[50, 59, 48] }, Value.string { data := #[40, 49, 44, 48, 59, 48] }, Value.string { data := #[40, 49, 44, 48, 41, 41, 59, 48] }, Value.string { data := #[49, 59, 40, 48, 44, 49] }, Value.string { data := #[49, 59, 40, 48, 44, 49, 44, 48] }, Value.string { data := #[49, 59, 32, 48] }, Value.string { data := #[49, 59, 45, 49] }, Value.string { data := #[49, 59, 48, 48] }, Value.string { data := #[49, 59, 49, 48, 57, 57, 53, 49, 49, 54, 50, 55, 55, 55, 55] }, Value.string { data := #[40, 49, 44, 49, 41, 59, 48] }, Value.string { data := #[40, 48, 44, 48, 41, 59, 48] }, Value.string { data := #[40, 40, 49, 44, 49, 41, 44, 48, 41, 59, 48] }, Value.string { data := #[49, 59, 40, 48, 44, 48, 44, 48, 41] }, Value.string { data := #[49, 59, 40, 48, 44, 49, 44, 49, 41] }, Value.string { data := #[49, 59, 40, 49, 44, 50, 44, 51, 41] }, Value.string { data := #[49, 59, 40, 49, 48, 57, 57, 53, 49, 49, 54, 50, 55, 55, 55, 54, 44, 48, 44, 49, 41] }, Value.string { data := #[40, 40, 40, 40, 40, 40, 40, 40, 40, 49, 44, 48, 41, 44, 48, 41, 44, 48, 41, 44, 48, 41, 44, 48, 41, 44, 48, 41, 44, 48, 41, 44, 48, 41, 44, 48, 41, 59, 48] }, Value.string zeros] 9)).alloc (.cells #[Value.int .i64 0, Value.int .i64 0, Value.int .i64 1, Value.int .i64 2, Value.int .i64 2, Value.int .i64 0, Value.int .i64 0, Value.int .i64 4, Value.int .i64 5, Value.int .i64 6, Value.int .i64 8, Value.int .i64 2, Value.int .i64 2, Value.int .i64 3, Value.int .i64 14, Value.int .i64 0, Value.int .i64 0, Value.int .i64 1, Value.int .i64 2, Value.int .i64 2, Value.int .i64 2, Value.int .i64 21, Value.int .i64 8, Value.int .i64 0] 3)).alloc (.cells #[Value.int .i64 2, Value.int .i64 2, Value.int .i64 2, Value.int .i64 2, Value.int .i64 2, Value.int .i64 2, Value.int .i64 2, Value.int .i64 2, Value.int .i64 2, Value.int .i64 2, Value.int .i64 2, Value.int .i64 2, Value.int .i64 2, Value.int .i64 2, Value.int .i64 2, Value.int .i64 3, Value.int .i64 3, Value.int .i64 3, Value.int .i64 3, Value.int .i64 3, Value.int .i64 3, Value.int .i64 7, Value.int .i64 2, Value.int .i64 1] 29)).cell? ⟨w1.heap.size + 1 + 1 + 1, k, none⟩ = some (.int .i64 (e : Nat)) ∧
    Below w1.heap.size w1 ((((w1.alloc zerosObj).alloc (.cells #[Value.string { data := #[] }, Value.string { data := #[120] }, Value.string { data := #[49] }, Value.string { data := #[49, 59] }, Value.string { data := #[49, 59, 120] }, Value.string { data := #[59, 48] }, Value.string { data := #[50, 59, 48] }, Value.string { data := #[40, 49, 44, 48, 59, 48] }, Value.string { data := #[40, 49, 44, 48, 41, 41, 59, 48] }, Value.string { data := #[49, 59, 40, 48, 44, 49] }, Value.string { data := #[49, 59, 40, 48, 44, 49, 44, 48] }, Value.string { data := #[49, 59, 32, 48] }, Value.string { data := #[49, 59, 45, 49] }, Value.string { data := #[49, 59, 48, 48] }, Value.string { data := #[49, 59, 49, 48, 57, 57, 53, 49, 49, 54, 50, 55, 55, 55, 55] }, Value.string { data := #[40, 49, 44, 49, 41, 59, 48] }, Value.string { data := #[40, 48, 44, 48, 41, 59, 48] }, Value.string { data := #[40, 40, 49, 44, 49, 41, 44, 48, 41, 59, 48] }, Value.string { data := #[49, 59, 40, 48, 44, 48, 44, 48, 41] }, Value.string { data := #[49, 59, 40, 48, 44, 49, 44, 49, 41] }, Value.string { data := #[49, 59, 40, 49, 44, 50, 44, 51, 41] }, Value.string { data := #[49, 59, 40, 49, 48, 57, 57, 53, 49, 49, 54, 50, 55, 55, 55, 54, 44, 48, 44, 49, 41] }, Value.string { data := #[40, 40, 40, 40, 40, 40, 40, 40, 40, 49, 44, 48, 41, 44, 48, 41, 44, 48, 41, 44, 48, 41, 44, 48, 41, 44, 48, 41, 44, 48, 41, 44, 48, 41, 44, 48, 41, 59, 48] }, Value.string zeros] 9)).alloc (.cells #[Value.int .i64 0, Value.int .i64 0, Value.int .i64 1, Value.int .i64 2, Value.int .i64 2, Value.int .i64 0, Value.int .i64 0, Value.int .i64 4, Value.int .i64 5, Value.int .i64 6, Value.int .i64 8, Value.int .i64 2, Value.int .i64 2, Value.int .i64 3, Value.int .i64 14, Value.int .i64 0, Value.int .i64 0, Value.int .i64 1, Value.int .i64 2, Value.int .i64 2, Value.int .i64 2, Value.int .i64 21, Value.int .i64 8, Value.int .i64 0] 3)).alloc (.cells #[Value.int .i64 2, Value.int .i64 2, Value.int .i64 2, Value.int .i64 2, Value.int .i64 2, Value.int .i64 2, Value.int .i64 2, Value.int .i64 2, Value.int .i64 2, Value.int .i64 2, Value.int .i64 2, Value.int .i64 2, Value.int .i64 2, Value.int .i64 2, Value.int .i64 2, Value.int .i64 3, Value.int .i64 3, Value.int .i64 3, Value.int .i64 3, Value.int .i64 3, Value.int .i64 3, Value.int .i64 7, Value.int .i64 2, Value.int .i64 1] 29)) := by
  obtain ⟨t, e, p, h1, h2, h3, hb⟩ := firm_at k hk
  refine ⟨t, e, p, hb, fun w1 => ?_⟩
  have z0 : (w1.alloc zerosObj).heap.size = w1.heap.size + 1 := by simp
  generalize hA : (#[Value.string { data := #[] }, Value.string { data := #[120] }, Value.string { data := #[49] }, Value.string { data := #[49, 59] }, Value.string { data := #[49, 59, 120] }, Value.string { data := #[59, 48] }, Value.string { data := #[50, 59, 48] }, Value.string { data := #[40, 49, 44, 48, 59, 48] }, Value.string { data := #[40, 49, 44, 48, 41, 41, 59, 48] }, Value.string { data := #[49, 59, 40, 48, 44, 49] }, Value.string { data := #[49, 59, 40, 48, 44, 49, 44, 48] }, Value.string { data := #[49, 59, 32, 48] }, Value.string { data := #[49, 59, 45, 49] }, Value.string { data := #[49, 59, 48, 48] }, Value.string { data := #[49, 59, 49, 48, 57, 57, 53, 49, 49, 54, 50, 55, 55, 55, 55] }, Value.string { data := #[40, 49, 44, 49, 41, 59, 48] }, Value.string { data := #[40, 48, 44, 48, 41, 59, 48] }, Value.string { data := #[40, 40, 49, 44, 49, 41, 44, 48, 41, 59, 48] }, Value.string { data := #[49, 59, 40, 48, 44, 48, 44, 48, 41] }, Value.string { data := #[49, 59, 40, 48, 44, 49, 44, 49, 41] }, Value.string { data := #[49, 59, 40, 49, 44, 50, 44, 51, 41] }, Value.string { data := #[49, 59, 40, 49, 48, 57, 57, 53, 49, 49, 54, 50, 55, 55, 55, 54, 44, 48, 44, 49, 41] }, Value.string { data := #[40, 40, 40, 40, 40, 40, 40, 40, 40, 49, 44, 48, 41, 44, 48, 41, 44, 48, 41, 44, 48, 41, 44, 48, 41, 44, 48, 41, 44, 48, 41, 44, 48, 41, 44, 48, 41, 59, 48] }, Value.string zeros] : Array Value) = A at *
  generalize hB : (#[Value.int .i64 0, Value.int .i64 0, Value.int .i64 1, Value.int .i64 2, Value.int .i64 2, Value.int .i64 0, Value.int .i64 0, Value.int .i64 4, Value.int .i64 5, Value.int .i64 6, Value.int .i64 8, Value.int .i64 2, Value.int .i64 2, Value.int .i64 3, Value.int .i64 14, Value.int .i64 0, Value.int .i64 0, Value.int .i64 1, Value.int .i64 2, Value.int .i64 2, Value.int .i64 2, Value.int .i64 21, Value.int .i64 8, Value.int .i64 0] : Array Value) = B at *
  generalize hC : (#[Value.int .i64 2, Value.int .i64 2, Value.int .i64 2, Value.int .i64 2, Value.int .i64 2, Value.int .i64 2, Value.int .i64 2, Value.int .i64 2, Value.int .i64 2, Value.int .i64 2, Value.int .i64 2, Value.int .i64 2, Value.int .i64 2, Value.int .i64 2, Value.int .i64 2, Value.int .i64 3, Value.int .i64 3, Value.int .i64 3, Value.int .i64 3, Value.int .i64 3, Value.int .i64 3, Value.int .i64 7, Value.int .i64 2, Value.int .i64 1] : Array Value) = C at *
  have z1 : ((w1.alloc zerosObj).alloc (.cells A 9)).heap.size = w1.heap.size + 1 + 1 := by simp
  have z2 : (((w1.alloc zerosObj).alloc (.cells A 9)).alloc (.cells B 3)).heap.size = w1.heap.size + 1 + 1 + 1 := by simp
  have b1 := below_alloc w1 zerosObj
  have b2 := below_alloc (w1.alloc zerosObj) (.cells A 9)
  have b3 := below_alloc ((w1.alloc zerosObj).alloc (.cells A 9)) (.cells B 3)
  have b4 := below_alloc (((w1.alloc zerosObj).alloc (.cells A 9)).alloc (.cells B 3)) (.cells C 29)
  have n2 := heap_new (w1.alloc zerosObj) (.cells A 9)
  have n3 := heap_new ((w1.alloc zerosObj).alloc (.cells A 9)) (.cells B 3)
  have n4 := heap_new (((w1.alloc zerosObj).alloc (.cells A 9)).alloc (.cells B 3)) (.cells C 29)
  rw [z0] at n2
  rw [z1] at n3
  rw [z2] at n4
  have c : ∀ (w : World) (g o : Nat) (D : Array Value) (ty : Nat) (v : Value), w.heap[g]? = some (.cells D ty) → D[o]? = some v → w.cell? ⟨g, o, none⟩ = some v := by
    intro w g o D ty v h1 h2
    unfold World.cell?
    simp only [h1]
    exact h2
  refine ⟨?_, ?_, c _ _ _ _ _ _ n4 h3, below_trans (below_trans (below_trans b1 b2) b3) b4⟩
  · refine c _ _ _ A 9 _ ?_ h1
    rw [b4.block _ (by rw [z2]; omega), b3.block _ (by rw [z1]; omega)]; exact n2
  · refine c _ _ _ B 3 _ ?_ h2
    rw [b4.block _ (by rw [z2]; omega)]; exact n3

def deepId : Tr Bool := (.pair (.pair (.pair (.pair (.pair (.pair (.pair (.pair (.leaf true) (.leaf false)) (.leaf false)) (.leaf false)) (.leaf false)) (.leaf false)) (.leaf false)) (.leaf false)) (.leaf false))
theorem deep_tx : ({ data := #[40, 40, 40, 40, 40, 40, 40, 40, 49, 44, 48, 41, 44, 48, 41, 44, 48, 41, 44, 48, 41, 44, 48, 41, 44, 48, 41, 44, 48, 41, 44, 48, 41, 59, 48] } : ByteArray) = tx deepId (.leaf 0) := by kernel_rfl
theorem deep_PT : PT deepId (.leaf 0) := ⟨by unfold deepId; simp [plainT, same], by decide, trivial, Nat.zero_le _, Nat.zero_le _⟩
theorem deep_share : shareP deepId 256 = 1 := by decide
theorem none_tx : ({ data := #[48, 59, 48] } : ByteArray) = tx (.leaf false) (.leaf 0) := by kernel_rfl
theorem none_PT : PT (.leaf false) (.leaf 0) := ⟨trivial, Nat.zero_le _, trivial, Nat.zero_le _, Nat.zero_le _⟩
theorem whole_tx : ({ data := #[49, 59, 48] } : ByteArray) = tx (.leaf true) (.leaf 0) := by kernel_rfl
theorem whole_PT : PT (.leaf true) (.leaf 0) := ⟨trivial, Nat.zero_le _, trivial, Nat.zero_le _, Nat.zero_le _⟩
theorem right_tx : ({ data := #[40, 48, 44, 49, 41, 59, 48] } : ByteArray) = tx (.pair (.leaf false) (.leaf true)) (.leaf 0) := by kernel_rfl
theorem right_PT : PT (.pair (.leaf false) (.leaf true)) (.leaf 0) := ⟨⟨rfl, trivial, trivial⟩, by decide, trivial, Nat.zero_le _, Nat.zero_le _⟩
theorem readC_zeros : readC zeros = .bad 1 0 := by
  unfold readC
  rw [if_pos (by rw [zeros_size]; omega)]

end Go.Proofs.YtoebmfhgaalcdaaGreatDoor
