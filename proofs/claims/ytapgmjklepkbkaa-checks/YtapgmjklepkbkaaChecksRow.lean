/-
  Proved here: for every script, sprigslaw.Checks returns true (every Check of any text answers the document's error and place), and the script reads as it did (Rows.ChecksSaid, no condition).
-/
import Derived.Test.YtapgmjklepkbkaaRows
import Derived.Test.YtapgmjklepkbkaaLawPlays
import Derived.Test.YtapgmjklepkbkaaRefFails
import Derived.WalkKit
import Derived.ProofKit
import Derived.OpenShut
import Derived.ShutString
import Derived.ChangeOld
import Derived.Below
import Derived.Deep.Slices
namespace Go.Proofs.Ytapgmjklepkbkaa
open Go.ChangeShapes Go.WideShapes Go.ChangeAt Go.RowKit
open Go.ChangeMaps (open_string shut_string)

theorem Try.ownC : ownKnob Try.prog.godebug = none := by kernel_rfl
theorem Try.laidOutC : laidOutB Try.prog = true := by kernel_rfl
theorem Try.cells39 : Try.prog.cellsOf 39 = 5 := by kernel_rfl
theorem Try.cells3C : Try.prog.cellsOf 3 = 1 := by kernel_rfl
theorem Try.cells9C : Try.prog.cellsOf 9 = 1 := by kernel_rfl

set_option maxRecDepth 100000 in
theorem five {H : Type} {enc : TypeId × Value → H} {W : World} {n : Nat} {cs : List Value} {x : DataW H × List MemPlace} (h : DataW.trod enc Try.prog W 0 (fun _ => true) true n 39 cs = some x) :
    ∃ (k a b : Int) (s t : ByteArray), cs = [.int .i64 k, .int .i64 a, .int .i64 b, .string s, .string t] ∧ s.size ≤ maxLen := by
  obtain ⟨xs, m, _, _, hl, hx, hf⟩ := DataW.trod_struct Try.underlying39 h
  rw [Try.cells39] at hl
  match cs, hl with
  | [c0, c1, c2, c3, c4], _ =>
    have f0 : DataW.trod enc Try.prog W 0 (fun _ => true) true m 3 (([c0, c1, c2, c3, c4].drop 0).take (Try.prog.cellsOf 3)) = xs[0]? := hf 0 _ rfl
    have f1 : DataW.trod enc Try.prog W 0 (fun _ => true) true m 3 (([c0, c1, c2, c3, c4].drop 1).take (Try.prog.cellsOf 3)) = xs[1]? := hf 1 _ rfl
    have f2 : DataW.trod enc Try.prog W 0 (fun _ => true) true m 3 (([c0, c1, c2, c3, c4].drop 2).take (Try.prog.cellsOf 3)) = xs[2]? := hf 2 _ rfl
    have f3 : DataW.trod enc Try.prog W 0 (fun _ => true) true m 9 (([c0, c1, c2, c3, c4].drop 3).take (Try.prog.cellsOf 9)) = xs[3]? := hf 3 _ rfl
    have f4 : DataW.trod enc Try.prog W 0 (fun _ => true) true m 9 (([c0, c1, c2, c3, c4].drop 4).take (Try.prog.cellsOf 9)) = xs[4]? := hf 4 _ rfl
    have hx5 : xs.length = 5 := hx
    rw [Try.cells3C] at f0 f1 f2
    rw [Try.cells9C] at f3 f4
    replace f0 : DataW.trod enc Try.prog W 0 (fun _ => true) true m 3 [c0] = xs[0]? := f0
    replace f1 : DataW.trod enc Try.prog W 0 (fun _ => true) true m 3 [c1] = xs[1]? := f1
    replace f2 : DataW.trod enc Try.prog W 0 (fun _ => true) true m 3 [c2] = xs[2]? := f2
    replace f3 : DataW.trod enc Try.prog W 0 (fun _ => true) true m 9 [c3] = xs[3]? := f3
    replace f4 : DataW.trod enc Try.prog W 0 (fun _ => true) true m 9 [c4] = xs[4]? := f4
    rw [List.getElem?_eq_getElem (by omega)] at f0 f1 f2 f3 f4
    obtain ⟨k, e0, _, _⟩ := DataW.trod_int Try.underlying3 f0
    obtain ⟨a, e1, _, _⟩ := DataW.trod_int Try.underlying3 f1
    obtain ⟨b, e2, _, _⟩ := DataW.trod_int Try.underlying3 f2
    obtain ⟨s, e3, _, hs⟩ := DataW.trod_string Try.underlying9 f3
    obtain ⟨t, e4, _, _⟩ := DataW.trod_string Try.underlying9 f4
    simp only [List.cons.injEq, and_true] at e0 e1 e2 e3 e4
    subst e0 e1 e2 e3 e4
    exact ⟨k, a, b, s, t, rfl, hs⟩

theorem ops_of {H : Type} {enc : TypeId × Value → H} {W : World} {v : Value} {d : DataW H} {p : List MemPlace} {a0 : Option Addr} {len cap fuel : Nat} (hv : v = .slice a0 len cap)
    (hf : DataW.trod enc Try.prog W 0 (fun _ => true) true fuel 22 [v] = some (d, p)) : OpsAt W.heap.size W v len := by
  subst hv
  rcases Go.Deep.open_slice Try.underlying22 hf with ⟨hcs, _⟩ | ⟨a, l, c, m, n, D, Pl, hcs, _, hl, hm, hmm, _, hall⟩
  · simp at hcs
    obtain ⟨rfl, rfl, rfl⟩ := hcs
    exact ⟨by omega, ⟨none, 0, rfl, fun h => by omega⟩⟩
  · simp only [List.cons.injEq, and_true, Value.slice.injEq] at hcs
    obtain ⟨rfl, rfl, rfl⟩ := hcs
    simp only [if_true] at hmm
    subst hmm
    refine ⟨by unfold maxLen at hm; omega, ⟨some a, _, rfl, fun hp => ?_⟩⟩
    have one : ∀ j, j < len → ∃ (k a' b : Int) (s t : ByteArray), (∀ i, i < 5 → W.cell? ((a.add (j * 5)).add i) = [Value.int .i64 k, .int .i64 a', .int .i64 b, .string s, .string t][i]?) ∧ s.size ≤ maxLen := by
      intro j hj
      obtain ⟨cs', h1, h2⟩ := hall j (by omega)
      rw [Try.cells39] at h1
      obtain ⟨k, a', b, s, t, rfl, hs⟩ := five h2
      exact ⟨k, a', b, s, t, (World.cells?_some h1).2.2, hs⟩
    obtain ⟨g, off, spot⟩ := a
    have hspot : spot = none := by
      obtain ⟨k, a', b, s, t, hc, _⟩ := one 0 hp
      have := hc 0 (by omega)
      simpa [Addr.add] using World.cell?_spot this
    subst hspot
    refine ⟨g, off, ?_, rfl, fun j hj => ?_⟩
    · obtain ⟨k, a', b, s, t, hc, _⟩ := one 0 hp
      have := hc 0 (by omega)
      rw [add_plain, add_plain] at this
      exact World.block_lt_of_cell? _ _ this
    · obtain ⟨k, a', b, s, t, hc, hs⟩ := one j hj
      refine ⟨k, a', b, s, t, ?_, ?_, ?_, ?_, ?_, hs⟩
      · have := hc 0 (by omega); rw [add_plain, add_plain] at this; exact this
      · have := hc 1 (by omega); rw [add_plain, add_plain] at this; exact this
      · have := hc 2 (by omega); rw [add_plain, add_plain] at this; exact this
      · have := hc 3 (by omega); rw [add_plain, add_plain] at this; exact this
      · have := hc 4 (by omega); rw [add_plain, add_plain] at this; exact this

set_option maxRecDepth 100000 in
theorem checks_lifted (os : Os) (started : os.Started) (H : Type) (enc : TypeId × Value → H) :
    ReturnsInHanded {} Try.checked os 3 .any (Rows.checksSpec.pre6 enc Try.prog Try.f3 Rows.checksRow.domain false) (Rows.checksSpec.post enc Try.prog Try.f3 false true false false) := by
  refine returnsInHanded_of_change (C := Try.checked) Try.ownC started (by kernel_rfl) Try.func3
    (ChangeSpec.witness6 (enc := enc) (C := Try.checked) false ⟨#[], #[.slice none 0 0], []⟩ 8 (by kernel_rfl) (by kernel_rfl) (by kernel_rfl) (by kernel_rfl)) ?_
  intro W base args ds gs before hval0 hW hcnd _
  have hval : ∀ (j : Nat) t v, Try.f3.params[j]? = some t → args[j]? = some v → Value.okWide Try.prog W .any base t v := hval0
  have hW' := hW
  obtain ⟨p, q, hA0, hV, rfl, hfz, hnd⟩ := hW
  have hA : DataW.TrodAll enc Try.prog W 0 (fun _ => true) true Try.f3.params.toList args.toList ds p := hA0
  rw [Try.params3] at hA hval
  obtain ⟨v0, vs0, d0, ds0, p0, q0, hargs, rfl, rfl, h0, r0⟩ := trodAll_cons hA
  obtain ⟨rfl, rfl, rfl⟩ := trodAll_nil r0
  obtain rfl : args = #[v0] := by cases args; simp_all
  obtain ⟨rfl, rfl⟩ := trodVars_none hV
  obtain ⟨a0, len0, cap0, rfl⟩ := okWide_slice Try.underlying22 (hval 0 22 v0 rfl rfl)
  have k0 := h0
  have lt0 : ∀ x ∈ p0, x.block < W.heap.size := by obtain ⟨m, hm⟩ := k0; exact DataW.trod_lt m _ _ _ hm
  have w0 : OpsAt W.heap.size W (.slice a0 len0 cap0) len0 := by
    obtain ⟨fuel, hf⟩ := h0
    exact ops_of rfl hf
  clear hA0 hval0
  refine (checks_any fails_any _ len0 W w0).mono fun e W' ⟨he, bel⟩ => ?_
  subst he
  exact ⟨_, rfl, _, _, _, [], _, [], hW', trodAll_mk1 (shut_bool Try.underlying4 _), (trodAll_cons_mk (Below.trod Try.laidOutC (by kernel_rfl) (of_decide_eq_true (by kernel_rfl)) k0 bel lt0) trodAll_mk0), rfl, bel.frame _, fun h => by cases h⟩

theorem checks_holds : Rows.ChecksSaid :=
  OpenClaim.holds_of_wide 3 Try.f3 rfl rfl rfl rfl rfl rfl rfl ⟨rfl, rfl, rfl, rfl, rfl⟩ rfl rfl rfl rfl rfl (by kernel_rfl) Try.func3 (by kernel_rfl)
    (of_decide_eq_true (by kernel_rfl)) (by unfold Func.isWrapper; first | (rw [if_pos (by decide +kernel)]; kernel_rfl) | (rw [if_neg (by decide +kernel)]; exact ⟨rfl, rfl⟩))
    (fun os started H enc _ => checks_lifted os started H enc)

end Go.Proofs.Ytapgmjklepkbkaa
