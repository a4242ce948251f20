/-
  Our own. A script's steps, as they came in. (Laid by wip/mk/playsp.py.)
-/
import Derived.Test.YtoebmfhgaalcdaaGreatDoorRowBase
import Derived.Test.YtoebmfhgaalcdaaGreatDoorLawKeepAll
import Derived.Deep.Slices
namespace Go.Proofs.YtoebmfhgaalcdaaGreatDoor
open Go.ChangeShapes Go.WideShapes Go.ChangeAt Go.RowKit
open Go.ChangeMaps (open_string shut_string)

/-- A script's steps lie below block B. -/
structure OpsP (B : Nat) (w : World) (v : Value) (n : Nat) : Prop where
  len : n ≤ 9223372036854775807
  at_ : ∃ p cap, v = .slice p n cap ∧ (0 < n → ∃ g off, g < B ∧ p = some ⟨g, off, none⟩ ∧ ∀ j, j < n → ∃ (k a b : Int) (s t : ByteArray),
    w.cell? ⟨g, off + j * 5, none⟩ = some (.int .i64 k) ∧ w.cell? ⟨g, off + j * 5 + 1, none⟩ = some (.int .i64 a) ∧ w.cell? ⟨g, off + j * 5 + 2, none⟩ = some (.int .i64 b) ∧
    w.cell? ⟨g, off + j * 5 + 3, none⟩ = some (.string s) ∧ w.cell? ⟨g, off + j * 5 + 4, none⟩ = some (.string t) ∧ a ≤ 9223372036854775807 ∧ b ≤ 9223372036854775807 ∧ s.size ≤ maxLen ∧ t.size ≤ maxLen)

theorem going_new (w : World) : Going w w.heap.size (w.alloc (.cells #[.slice none 0 0] 49)) :=
  ⟨(Below.refl _ _).alloc (Nat.le_refl _) _, .slice none 0 0, [], ⟨heap_new w _, Nat.le_refl _, ⟨rfl, Or.inl ⟨rfl, rfl⟩⟩, by decide, fun s hs => by cases hs⟩⟩

theorem Tryz.cells52 : Tryz.prog.cellsOf 52 = 5 := by kernel_rfl
theorem Tryz.cells3C : Tryz.prog.cellsOf 3 = 1 := by kernel_rfl
theorem Tryz.cells9C : Tryz.prog.cellsOf 9 = 1 := by kernel_rfl

set_option maxRecDepth 100000 in
theorem five {H : Type} {enc : TypeId × Value → H} {W : World} {n : Nat} {cs : List Value} {x : DataW H × List MemPlace} (h : DataW.trod enc Tryz.prog W 0 (fun _ => true) true n 52 cs = some x) :
    ∃ (k a b : Int) (s t : ByteArray), cs = [.int .i64 k, .int .i64 a, .int .i64 b, .string s, .string t] ∧ a ≤ 9223372036854775807 ∧ b ≤ 9223372036854775807 ∧ s.size ≤ maxLen ∧ t.size ≤ maxLen := by
  obtain ⟨xs, m, _, _, hl, hx, hf⟩ := DataW.trod_struct Tryz.underlying52 h
  rw [Tryz.cells52] at hl
  match cs, hl with
  | [c0, c1, c2, c3, c4], _ =>
    have f0 : DataW.trod enc Tryz.prog W 0 (fun _ => true) true m 3 (([c0, c1, c2, c3, c4].drop 0).take (Tryz.prog.cellsOf 3)) = xs[0]? := hf 0 _ rfl
    have f1 : DataW.trod enc Tryz.prog W 0 (fun _ => true) true m 3 (([c0, c1, c2, c3, c4].drop 1).take (Tryz.prog.cellsOf 3)) = xs[1]? := hf 1 _ rfl
    have f2 : DataW.trod enc Tryz.prog W 0 (fun _ => true) true m 3 (([c0, c1, c2, c3, c4].drop 2).take (Tryz.prog.cellsOf 3)) = xs[2]? := hf 2 _ rfl
    have f3 : DataW.trod enc Tryz.prog W 0 (fun _ => true) true m 9 (([c0, c1, c2, c3, c4].drop 3).take (Tryz.prog.cellsOf 9)) = xs[3]? := hf 3 _ rfl
    have f4 : DataW.trod enc Tryz.prog W 0 (fun _ => true) true m 9 (([c0, c1, c2, c3, c4].drop 4).take (Tryz.prog.cellsOf 9)) = xs[4]? := hf 4 _ rfl
    have hx5 : xs.length = 5 := hx
    rw [Tryz.cells3C] at f0 f1 f2
    rw [Tryz.cells9C] at f3 f4
    replace f0 : DataW.trod enc Tryz.prog W 0 (fun _ => true) true m 3 [c0] = xs[0]? := f0
    replace f1 : DataW.trod enc Tryz.prog W 0 (fun _ => true) true m 3 [c1] = xs[1]? := f1
    replace f2 : DataW.trod enc Tryz.prog W 0 (fun _ => true) true m 3 [c2] = xs[2]? := f2
    replace f3 : DataW.trod enc Tryz.prog W 0 (fun _ => true) true m 9 [c3] = xs[3]? := f3
    replace f4 : DataW.trod enc Tryz.prog W 0 (fun _ => true) true m 9 [c4] = xs[4]? := f4
    rw [List.getElem?_eq_getElem (by omega)] at f0 f1 f2 f3 f4
    obtain ⟨k, e0, _, _⟩ := DataW.trod_int Tryz.underlying3 f0
    obtain ⟨a, e1, _, ha⟩ := DataW.trod_int Tryz.underlying3 f1
    obtain ⟨b, e2, _, hb⟩ := DataW.trod_int Tryz.underlying3 f2
    obtain ⟨s, e3, _, hs⟩ := DataW.trod_string Tryz.underlying9 f3
    obtain ⟨t, e4, _, ht⟩ := DataW.trod_string Tryz.underlying9 f4
    simp only [List.cons.injEq, and_true] at e0 e1 e2 e3 e4
    subst e0 e1 e2 e3 e4
    exact ⟨k, a, b, s, t, rfl, (wf_i64 ha).2, (wf_i64 hb).2, hs, ht⟩

theorem ops_of {H : Type} {enc : TypeId × Value → H} {W : World} {v : Value} {d : DataW H} {p : List MemPlace} {a0 : Option Addr} {len cap fuel : Nat} (hv : v = .slice a0 len cap)
    (hf : DataW.trod enc Tryz.prog W 0 (fun _ => true) true fuel 22 [v] = some (d, p)) : OpsP W.heap.size W v len := by
  subst hv
  rcases Go.Deep.open_slice Tryz.underlying22 hf with ⟨hcs, _⟩ | ⟨a, l, c, m, n, D, Pl, hcs, _, hl, hm, hmm, _, hall⟩
  · simp at hcs
    obtain ⟨rfl, rfl, rfl⟩ := hcs
    exact ⟨by omega, ⟨none, 0, rfl, fun h => by omega⟩⟩
  · simp only [List.cons.injEq, and_true, Value.slice.injEq] at hcs
    obtain ⟨rfl, rfl, rfl⟩ := hcs
    simp only [if_true] at hmm
    subst hmm
    refine ⟨by unfold maxLen at hm; omega, ⟨some a, _, rfl, fun hp => ?_⟩⟩
    have one : ∀ j, j < len → ∃ (k a' b : Int) (s t : ByteArray), (∀ i, i < 5 → W.cell? ((a.add (j * 5)).add i) = [Value.int .i64 k, .int .i64 a', .int .i64 b, .string s, .string t][i]?) ∧ a' ≤ 9223372036854775807 ∧ b ≤ 9223372036854775807 ∧ s.size ≤ maxLen ∧ t.size ≤ maxLen := by
      intro j hj
      obtain ⟨cs', h1, h2⟩ := hall j (by omega)
      rw [Tryz.cells52] at h1
      obtain ⟨k, a', b, s, t, rfl, hs⟩ := five h2
      exact ⟨k, a', b, s, t, (World.cells?_some h1).2.2, hs⟩
    obtain ⟨g, off, spot⟩ := a
    have hspot : spot = none := by
      obtain ⟨k, a', b, s, t, hc, _⟩ := one 0 hp
      have := hc 0 (by omega)
      simpa [Addr.add] using World.cell?_spot this
    subst hspot
    refine ⟨g, off, ?_, rfl, fun j hj => ?_⟩
    · obtain ⟨k, a', b, s, t, hc, _⟩ := one 0 hp
      have := hc 0 (by omega)
      rw [add_plain, add_plain] at this
      exact World.block_lt_of_cell? _ _ this
    · obtain ⟨k, a', b, s, t, hc, hs⟩ := one j hj
      refine ⟨k, a', b, s, t, ?_, ?_, ?_, ?_, ?_, hs⟩
      · have := hc 0 (by omega); rw [add_plain, add_plain] at this; exact this
      · have := hc 1 (by omega); rw [add_plain, add_plain] at this; exact this
      · have := hc 2 (by omega); rw [add_plain, add_plain] at this; exact this
      · have := hc 3 (by omega); rw [add_plain, add_plain] at this; exact this
      · have := hc 4 (by omega); rw [add_plain, add_plain] at this; exact this

end Go.Proofs.YtoebmfhgaalcdaaGreatDoor
