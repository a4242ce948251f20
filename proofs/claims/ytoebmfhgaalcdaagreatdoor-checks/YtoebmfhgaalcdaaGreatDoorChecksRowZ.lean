/-
  Proved here: for every script sprigslaw.Checks returns true (every Check of any text answers the document's error and place), and the script reads as it did (Rows.ChecksCardSaid; the three tables of the Go library that the row lists are tied to the program's text; no other condition).
-/
import Derived.Test.YtoebmfhgaalcdaaGreatDoorRows
import Derived.Test.YtoebmfhgaalcdaaGreatDoorLawPlays
import Derived.Test.YtoebmfhgaalcdaaGreatDoorRefFails
import Derived.WalkKit
import Derived.ProofKit
import Derived.OpenShut
import Derived.ShutString
import Derived.ChangeOld
import Derived.Below
import Derived.Deep.Slices
import Derived.LaidMore
import Derived.Stop.Joined
import Derived.Test.YtoebmfhgaalcdaaGreatDoorTie
import Derived.Test.YtoebmfhgaalcdaaGreatDoorCards
import Derived.SevenTiedAt
namespace Go.Proofs.YtoebmfhgaalcdaaGreatDoor
open Go.ChangeShapes Go.WideShapes Go.ChangeAt Go.RowKit
open Go.ChangeMaps (open_string shut_string)

theorem Tryz.ownC : ownKnob Tryz.prog.godebug = none := by kernel_rfl
theorem Tryz.laidOutC : laidOutB Tryz.prog = true := by kernel_rfl
theorem Tryz.cells52 : Tryz.prog.cellsOf 52 = 5 := by kernel_rfl
theorem Tryz.cells3C : Tryz.prog.cellsOf 3 = 1 := by kernel_rfl
theorem Tryz.cells9C : Tryz.prog.cellsOf 9 = 1 := by kernel_rfl

set_option maxRecDepth 100000 in
theorem five {H : Type} {enc : TypeId × Value → H} {W : World} {n : Nat} {cs : List Value} {x : DataW H × List MemPlace} (h : DataW.trod enc Tryz.prog W 0 (fun _ => true) true n 52 cs = some x) :
    ∃ (k a b : Int) (s t : ByteArray), cs = [.int .i64 k, .int .i64 a, .int .i64 b, .string s, .string t] ∧ s.size ≤ maxLen := by
  obtain ⟨xs, m, _, _, hl, hx, hf⟩ := DataW.trod_struct Tryz.underlying52 h
  rw [Tryz.cells52] at hl
  match cs, hl with
  | [c0, c1, c2, c3, c4], _ =>
    have f0 : DataW.trod enc Tryz.prog W 0 (fun _ => true) true m 3 (([c0, c1, c2, c3, c4].drop 0).take (Tryz.prog.cellsOf 3)) = xs[0]? := hf 0 _ rfl
    have f1 : DataW.trod enc Tryz.prog W 0 (fun _ => true) true m 3 (([c0, c1, c2, c3, c4].drop 1).take (Tryz.prog.cellsOf 3)) = xs[1]? := hf 1 _ rfl
    have f2 : DataW.trod enc Tryz.prog W 0 (fun _ => true) true m 3 (([c0, c1, c2, c3, c4].drop 2).take (Tryz.prog.cellsOf 3)) = xs[2]? := hf 2 _ rfl
    have f3 : DataW.trod enc Tryz.prog W 0 (fun _ => true) true m 9 (([c0, c1, c2, c3, c4].drop 3).take (Tryz.prog.cellsOf 9)) = xs[3]? := hf 3 _ rfl
    have f4 : DataW.trod enc Tryz.prog W 0 (fun _ => true) true m 9 (([c0, c1, c2, c3, c4].drop 4).take (Tryz.prog.cellsOf 9)) = xs[4]? := hf 4 _ rfl
    have hx5 : xs.length = 5 := hx
    rw [Tryz.cells3C] at f0 f1 f2
    rw [Tryz.cells9C] at f3 f4
    replace f0 : DataW.trod enc Tryz.prog W 0 (fun _ => true) true m 3 [c0] = xs[0]? := f0
    replace f1 : DataW.trod enc Tryz.prog W 0 (fun _ => true) true m 3 [c1] = xs[1]? := f1
    replace f2 : DataW.trod enc Tryz.prog W 0 (fun _ => true) true m 3 [c2] = xs[2]? := f2
    replace f3 : DataW.trod enc Tryz.prog W 0 (fun _ => true) true m 9 [c3] = xs[3]? := f3
    replace f4 : DataW.trod enc Tryz.prog W 0 (fun _ => true) true m 9 [c4] = xs[4]? := f4
    rw [List.getElem?_eq_getElem (by omega)] at f0 f1 f2 f3 f4
    obtain ⟨k, e0, _, _⟩ := DataW.trod_int Tryz.underlying3 f0
    obtain ⟨a, e1, _, _⟩ := DataW.trod_int Tryz.underlying3 f1
    obtain ⟨b, e2, _, _⟩ := DataW.trod_int Tryz.underlying3 f2
    obtain ⟨s, e3, _, hs⟩ := DataW.trod_string Tryz.underlying9 f3
    obtain ⟨t, e4, _, _⟩ := DataW.trod_string Tryz.underlying9 f4
    simp only [List.cons.injEq, and_true] at e0 e1 e2 e3 e4
    subst e0 e1 e2 e3 e4
    exact ⟨k, a, b, s, t, rfl, hs⟩

theorem ops_of {H : Type} {enc : TypeId × Value → H} {W : World} {v : Value} {d : DataW H} {p : List MemPlace} {a0 : Option Addr} {len cap fuel : Nat} (hv : v = .slice a0 len cap)
    (hf : DataW.trod enc Tryz.prog W 0 (fun _ => true) true fuel 22 [v] = some (d, p)) : OpsAt W.heap.size W v len := by
  subst hv
  rcases Go.Deep.open_slice Tryz.underlying22 hf with ⟨hcs, _⟩ | ⟨a, l, c, m, n, D, Pl, hcs, _, hl, hm, hmm, _, hall⟩
  · simp at hcs
    obtain ⟨rfl, rfl, rfl⟩ := hcs
    exact ⟨by omega, ⟨none, 0, rfl, fun h => by omega⟩⟩
  · simp only [List.cons.injEq, and_true, Value.slice.injEq] at hcs
    obtain ⟨rfl, rfl, rfl⟩ := hcs
    simp only [if_true] at hmm
    subst hmm
    refine ⟨by unfold maxLen at hm; omega, ⟨some a, _, rfl, fun hp => ?_⟩⟩
    have one : ∀ j, j < len → ∃ (k a' b : Int) (s t : ByteArray), (∀ i, i < 5 → W.cell? ((a.add (j * 5)).add i) = [Value.int .i64 k, .int .i64 a', .int .i64 b, .string s, .string t][i]?) ∧ s.size ≤ maxLen := by
      intro j hj
      obtain ⟨cs', h1, h2⟩ := hall j (by omega)
      rw [Tryz.cells52] at h1
      obtain ⟨k, a', b, s, t, rfl, hs⟩ := five h2
      exact ⟨k, a', b, s, t, (World.cells?_some h1).2.2, hs⟩
    obtain ⟨g, off, spot⟩ := a
    have hspot : spot = none := by
      obtain ⟨k, a', b, s, t, hc, _⟩ := one 0 hp
      have := hc 0 (by omega)
      simpa [Addr.add] using World.cell?_spot this
    subst hspot
    refine ⟨g, off, ?_, rfl, fun j hj => ?_⟩
    · obtain ⟨k, a', b, s, t, hc, _⟩ := one 0 hp
      have := hc 0 (by omega)
      rw [add_plain, add_plain] at this
      exact World.block_lt_of_cell? _ _ this
    · obtain ⟨k, a', b, s, t, hc, hs⟩ := one j hj
      refine ⟨k, a', b, s, t, ?_, ?_, ?_, ?_, ?_, hs⟩
      · have := hc 0 (by omega); rw [add_plain, add_plain] at this; exact this
      · have := hc 1 (by omega); rw [add_plain, add_plain] at this; exact this
      · have := hc 2 (by omega); rw [add_plain, add_plain] at this; exact this
      · have := hc 3 (by omega); rw [add_plain, add_plain] at this; exact this
      · have := hc 4 (by omega); rw [add_plain, add_plain] at this; exact this

/-- The listed variables. -/
def laid3 : List (String × DataW Unit) := [("math/bits.deBruijn32tab", Rows.laid_math_bits_deBruijn32tab), ("math/bits.deBruijn64tab", Rows.laid_math_bits_deBruijn64tab), ("internal/strconv.uint64pow10", Rows.laid_internal_strconv_uint64pow10)]

set_option maxRecDepth 100000 in
theorem door_met (os : Os) (args : Array Value) : laidMetH Tryz.prog laid3 ((World.doorLaid Tryz.prog 400 os).forCall (fun _ _ => 0) ⟨#[], args, []⟩).memory :=
  laidMetH_of_parts3 (fuel := 8) (laidMet_of_run' 8 (by kernel_rfl) (by kernel_rfl)) (by kernel_rfl) (by kernel_rfl)

set_option maxRecDepth 100000 in
theorem checks_lifted (os : Os) (started : os.Started) (H : Type) (enc : TypeId × Value → H) :
    ReturnsInHanded {} Tryz.checked os 3 .any (fun w args => (Rows.checksSpec.pre enc Tryz.prog Tryz.f3 [] false w args ∧ laidMetH Tryz.prog laid3 w) ∧ sizedMet enc Tryz.prog Tryz.f3 (OpenSpec.ofChange Rows.checksSpec) false w args)
      (Rows.checksSpec.post enc Tryz.prog Tryz.f3 false true false false) := by
  refine returnsInHanded_of_change_and (C := Tryz.checked) (X := fun w _ => laidMetH Tryz.prog laid3 w) (fun _ _ _ hh h => h.of_heap hh) Tryz.ownC started (by kernel_rfl) Tryz.func3
    (ChangeSpec.witness_shaped (enc := enc) (C := Tryz.checked) (os := os) (X := fun w _ => laidMetH Tryz.prog laid3 w) false (World.doorLaid Tryz.prog 400 os) #[.slice none 0 0] 8 rfl (World.shaped_of_RefB (by kernel_rfl) (by kernel_rfl)) (by kernel_rfl) (by kernel_rfl) (by kernel_rfl) (door_met os _)) ?_
  intro W base args ds gs before hval0 hW _ _ _ _
  have hval : ∀ (j : Nat) t v, Tryz.f3.params[j]? = some t → args[j]? = some v → Value.okWide Tryz.prog W .any base t v := hval0
  have hW' := hW
  obtain ⟨p, q, hA0, hV, rfl, hfz, hnd⟩ := hW
  have hA : DataW.TrodAll enc Tryz.prog W 0 (fun _ => true) true Tryz.f3.params.toList args.toList ds p := hA0
  rw [Tryz.params3] at hA hval
  obtain ⟨v0, vs0, d0, ds0, p0, q0, hargs, rfl, rfl, h0, r0⟩ := trodAll_cons hA
  obtain ⟨rfl, rfl, rfl⟩ := trodAll_nil r0
  obtain rfl : args = #[v0] := by cases args; simp_all
  obtain ⟨rfl, rfl⟩ := trodVars_none hV
  obtain ⟨a0, len0, cap0, rfl⟩ := okWide_slice Tryz.underlying22 (hval 0 22 v0 rfl rfl)
  have k0 := h0
  have lt0 : ∀ x ∈ p0, x.block < W.heap.size := by obtain ⟨m, hm⟩ := k0; exact DataW.trod_lt m _ _ _ hm
  have w0 : OpsAt W.heap.size W (.slice a0 len0 cap0) len0 := by
    obtain ⟨fuel, hf⟩ := h0
    exact ops_of rfl hf
  clear hA0 hval0
  refine (checks_any fails_any _ len0 W w0).mono fun e W' ⟨he, bel⟩ => ?_
  subst he
  exact ⟨_, rfl, _, _, _, [], _, [], hW', trodAll_mk1 (shut_bool Tryz.underlying4 _), (trodAll_cons_mk (Below.trod Tryz.laidOutC (by kernel_rfl) (of_decide_eq_true (by kernel_rfl)) k0 bel lt0) trodAll_mk0), rfl, bel.frame _, fun h => by cases h⟩

theorem checks_row : Rows.ChecksSaid :=
  OpenClaim.holds_of_wide 3 Tryz.f3 rfl rfl rfl rfl rfl rfl rfl ⟨rfl, rfl, rfl, rfl, rfl⟩ rfl rfl rfl rfl rfl (by kernel_rfl) Tryz.func3 (by kernel_rfl)
    (of_decide_eq_true (by kernel_rfl)) (by unfold Func.isWrapper; first | (rw [if_pos (by decide +kernel)]; kernel_rfl) | (rw [if_neg (by decide +kernel)]; exact ⟨rfl, rfl⟩))
    (fun os started H enc _ => checks_lifted os started H enc)

theorem checks_holds : Rows.ChecksCardSaid :=
  Claim7.holds_tied_plain_at .later [] [.data, .data, .data] true Rows.checksCard.stood.harness true
    checks_row (fun _ h => by cases h) (by kernel_rfl) (fun _ h => by cases h) checks_row_tie rfl ⟨rfl, rfl⟩ (by kernel_rfl) rfl
    (fun f fn hf hfn => by
      obtain rfl : f = 3 := Option.some.inj ((show Tryz.prog.funcNamed Rows.checksRow.func = some 3 by kernel_rfl).symm.trans hf) |>.symm
      obtain rfl : fn = Tryz.f3 := (Option.some.inj (Tryz.func3.symm.trans hfn)).symm
      exact ⟨by kernel_rfl, fun j t ht => by
        rw [Tryz.params3] at ht
        have hm : t ∈ [22] := by simpa using Array.mem_of_getElem? ht
        have hall : ([22].all fun u => !Tryz.prog.wantsStandIn u) = true := by kernel_rfl
        exact (show Tryz.prog.wantsStandIn t = false by simpa using List.all_eq_true.1 hall t hm)⟩)
    (by kernel_rfl)

end Go.Proofs.YtoebmfhgaalcdaaGreatDoor
