/-
  Our own. sprigskeep.ahead, sprigskeep.Causal: true, whatever the input.
-/
import Derived.Test.YtoebmfhgaalcdaaDoorGrown
namespace Go.Proofs.YtoebmfhgaalcdaaDoor
open Go.RowKit

/-- Were all events ahead of the one ahead of the other? -/
def aheadP (m n : Mem) : Bool := (List.range 60).all (fun j => !m.past j || n.past j)
theorem aheadP_iff (m n : Mem) : aheadP m n = true ↔ ∀ j, j < 60 → m.past j = true → n.past j = true := by
  unfold aheadP
  rw [List.all_eq_true]
  constructor
  · intro h j hj hm
    have := h j (List.mem_range.2 hj)
    rw [hm] at this
    simpa using this
  · intro h j hj
    have := h j (List.mem_range.1 hj)
    cases e : m.past j with
    | false => rfl
    | true => rw [this e]; rfl

theorem cell_row {w : World} {g o ty : Nat} {cs : List Value} {v : Value} (h : w.heap[g]? = some (.cells cs.toArray ty)) (hv : cs[o]? = some v) : w.cell? ⟨g, o, none⟩ = some v := by
  unfold World.cell?
  simp only [h]
  simpa using hv

set_option maxRecDepth 100000 in
set_option maxHeartbeats 2000000 in
theorem ahead_any (m n : Mem) (w : World) :
    Calls Tryd.prog 11 #[.agg (mcells m).toArray, .agg (mcells n).toArray] w fun e w' => e = .returned (.bool (aheadP m n)) ∧ Below w.heap.size w w' := by
  have s1 : (w.alloc (.cells (mcells m).toArray 34)).heap.size = w.heap.size + 1 := by simp
  have b1 := below_alloc w (.cells (mcells m).toArray 34)
  have b2 := below_alloc (w.alloc (.cells (mcells m).toArray 34)) (.cells (mcells n).toArray 34)
  have h1 : ((w.alloc (.cells (mcells m).toArray 34)).alloc (.cells (mcells n).toArray 34)).heap[w.heap.size]? = some (.cells (mcells m).toArray 34) := by
    rw [b2.block _ (by rw [s1]; omega)]; exact heap_new w _
  have h2 : ((w.alloc (.cells (mcells m).toArray 34)).alloc (.cells (mcells n).toArray 34)).heap[w.heap.size + 1]? = some (.cells (mcells n).toArray 34) := by
    have := heap_new (w.alloc (.cells (mcells m).toArray 34)) (.cells (mcells n).toArray 34)
    rw [s1] at this; exact this
  have BB := hide (below_trans b1 b2)
  have HA := aheadP_iff m n
  have CM := hide (fun j (hj : j < 60) => cell_row h1 ((mcells_at m).2.2 j hj))
  have CN := hide (fun j (hj : j < 60) => cell_row h2 ((mcells_at n).2.2 j hj))
  replace HA := hide HA
  clear h1 h2 b1 b2 s1
  generalize aheadP m n = A at *
  go_enter Tryd.func11, Tryd.ntmps11
  go_wp2_with fail
  generalize (w.alloc (.cells (mcells m).toArray 34)).alloc (.cells (mcells n).toArray 34) = W at *
  go_loop [5] (fun x => ∃ j : Nat, j ≤ 60 ∧ x = .int .i64 (j : Nat) ∧ ∀ q, q < j → m.past q = true → n.past q = true) (fun x => 60 - (intOf x).toNat)
  case atStart => exact ⟨0, by omega, rfl, fun q hq => by omega⟩
  case round =>
    obtain ⟨j, hj, rfl, hq⟩ := hrel
    by_cases hlt : j < 60
    · have c1 := unhide CM j hlt
      have c2 := unhide CN j hlt
      have j0 : (0 : Int) ≤ (j : Int) := by omega
      have j1 : (j : Int) < 60 := by omega
      generalize hm : m.past j = a at *
      generalize hn : n.past j = b at *
      replace hm := hide hm
      replace hn := hide hn
      replace hq := hide hq
      cases a
      · go_wp2_with fail
        go_round
        case rel => exact ⟨j + 1, by omega, by go_num, fun q h1 h2 => by
          by_cases e : q = j
          · subst e; rw [unhide hm] at h2; cases h2
          · exact unhide hq q (by omega) h2⟩
        case measure => simp [intOf]; omega
      · cases b
        · go_wp2_with fail
          go_ret
          refine ⟨?_, unhide BB⟩
          have : A = false := by
            cases e : A with
            | false => rfl
            | true =>
              have h9 := (unhide HA).1 e j hlt (unhide hm)
              rw [unhide hn] at h9; cases h9
          rw [this]; rfl
        · go_wp2_with fail
          go_round
          case rel => exact ⟨j + 1, by omega, by go_num, fun q h1 h2 => by
            by_cases e : q = j
            · subst e; exact unhide hn
            · exact unhide hq q (by omega) h2⟩
          case measure => simp [intOf]; omega
    · have hj60 : j = 60 := by omega
      subst hj60
      replace hq := hide hq
      go_wp2_with fail
      go_ret
      refine ⟨?_, unhide BB⟩
      rw [(unhide HA).2 (unhide hq)]; rfl

set_option maxRecDepth 100000 in
set_option maxHeartbeats 8000000 in
theorem causal_any (v : Value) (l : List Int) (w : World) (T : Tab w) (h : Sl w.heap.size w v l) :
    Calls Tryd.prog 3 #[v] w fun e w' => e = .returned (.bool true) ∧ Below w.heap.size w w' := by
  have GR := hide (grown_any v l w T h)
  obtain ⟨hl, ⟨p, cap0, rfl, _⟩, _⟩ := h
  go_enter Tryd.func3, Tryd.ntmps3
  go_wp2_with fail
  refine (unhide GR).mono ?_
  rintro o w1 ⟨gb, sv, L, d, rfl, G, I, hp, hL, b1⟩
  obtain ⟨g, cap, rfl, hBg, hgl, hgg, hlc, hcm, _, _, _⟩ := G.form hp
  have RNG : Hid (∀ w', Gr w.heap.size gb w' (.slice (some ⟨g, 0, none⟩) L.length cap) L d → True ∧ True ∧ ∀ (i : Nat) (m : Mem), L[i]? = some m → w'.rangeAt g (i * 62) (mcells m)) := hide fun w' G' => by
    obtain ⟨g', cap', e9, _, _, _, _, _, _, _, hr⟩ := G'.form hp
    simp only [Value.slice.injEq, Option.some.injEq, Addr.mk.injEq] at e9
    obtain ⟨⟨rfl, _⟩, _, _⟩ := e9
    exact ⟨trivial, trivial, hr⟩
  replace I := hide I
  replace G := hide G
  replace b1 := hide b1
  clear GR hcm hlc hgl
  go_wp2_with fail
  go_loopg [5] L.length (fun q x wr => ∃ i : Nat, i + q = L.length ∧ x = .int .i64 (i : Nat) ∧ Gr w.heap.size gb wr (.slice (some ⟨g, 0, none⟩) L.length cap) L d ∧ Below w.heap.size w wr)
  case atStart => exact ⟨0, by omega, rfl, unhide G, unhide b1⟩
  case round =>
    obtain ⟨i, hi, rfl, G2, hb2⟩ := hrel
    clear G b1
    have HI := hide hi
    have hil0 : i ≤ L.length := by omega
    clear hi
    have c0 := G2.cells.1
    replace G2 := hide G2
    replace hb2 := hide hb2
    by_cases hlt : i < L.length
    · have i0 : (0 : Int) ≤ (i : Int) := by omega
      have i1 : (i : Int) < (L.length : Int) := by omega
      obtain ⟨mi, hmi⟩ : ∃ m, L[i]? = some m := ⟨_, List.getElem?_eq_getElem hlt⟩
      go_wp2_with fail
      clear c0
      go_loopg [6] L.length (fun q x wr => ∃ k : Nat, k + q = L.length ∧ x = .int .i64 (k : Nat) ∧ Gr w.heap.size gb wr (.slice (some ⟨g, 0, none⟩) L.length cap) L d ∧ Below w.heap.size w wr)
      case atStart => exact ⟨0, by omega, rfl, unhide G2, unhide hb2⟩
      case round =>
        obtain ⟨k, hk, rfl, G3, hb3⟩ := hrel
        clear G2 hb2
        have HK := hide hk
        have hkl0 : k ≤ L.length := by omega
        clear hk
        have c0 := G3.cells.1
        by_cases hlk : k < L.length
        · have k0 : (0 : Int) ≤ (k : Int) := by omega
          have k1 : (k : Int) < (L.length : Int) := by omega
          obtain ⟨mk, hmk⟩ : ∃ m, L[k]? = some m := ⟨_, List.getElem?_eq_getElem hlk⟩
          have LQ : Hid (atMostP mi.ev mk.ev = aheadP mi mk) := hide (by rw [Bool.eq_iff_iff, (unhide I).leq hmi hmk, aheadP_iff])
          have LE := hide (leq_T ((unhide I).pt i mi hmi) ((unhide I).pt k mk hmk))
          have AH := hide (fun w' => ahead_any mi mk w')
          have s1 := (G3.at hmi 0 _ (mcells_at mi).1).1
          have s2 := (G3.at hmk 0 _ (mcells_at mk).1).1
          rw [Nat.add_zero] at s1 s2
          replace G3 := hide G3
          replace hb3 := hide hb3
          generalize tx mi.id mi.ev = S1 at *
          generalize tx mk.id mk.ev = S2 at *
          go_wp2_with fail
          go_region_held3 (fun w' => w'.cell? ⟨gb, 0, none⟩ = some (.slice (some ⟨g, 0, none⟩) L.length cap) ∧ w'.cell? ⟨g, i * 62, none⟩ = some (.string S1) ∧ w'.cell? ⟨g, k * 62, none⟩ = some (.string S2))
            (refine ⟨?_, ?_, ?_⟩ <;> (repeat first | assumption | refine cell_drew_keep ?_))
            (first
              | (go_at_call 10; refine (unhide LE _).mono ?_; rintro o w5 ⟨rfl, b5⟩; have c0b := cell_keep (below_trans (below_drew _) b5) c0; have s1b := cell_keep (below_trans (below_drew _) b5) s1; have s2b := cell_keep (below_trans (below_drew _) b5) s2))
          have G5 := (unhide G3).keep (below_trans (below_drew _) b5)
          have hb5 := hide ((unhide hb3).trans ((below_trans (below_drew _) b5).mono (unhide hb3).size))
          obtain ⟨_, _, R5⟩ := unhide RNG w5 G5
          have c5 := G5.cells.1
          have r1 := hide (R5 i mi hmi)
          have r2 := hide (R5 k mk hmk)
          replace G5 := hide G5
          clear R5 c0 c0b s1 s2 s1b s2b b5 G3 hb3 LE
          go_wp2_with fail
          refine wp_region_held_drew (S := fun w' => w'.cell? ⟨gb, 0, none⟩ = some (.slice (some ⟨g, 0, none⟩) L.length cap) ∧ w'.rangeAt g (i * 62) (mcells mi) ∧ w'.rangeAt g (k * 62) (mcells mk)) (by kernel_rfl) ⟨c5, unhide r1, unhide r2⟩ (fun hHeld => ?_)
          refine wpAnyH_take (i := 0) (oi := ⟨some 55, .move (.tmp 3), _, _, _, none⟩) (v := .pointer (some ⟨gb, 0, none⟩)) rfl (by kernel_rfl) (by kernel_rfl) (by kernel_rfl) (fun _ _ _ h => h) (Or.inl ⟨by rfl, fun w' hS' => ?_⟩) hHeld ?_
          · go_simp
          simp only [Act.put, List.setIfInBounds_toArray, List.set_cons_zero, List.set_cons_succ]
          refine wpAnyH_take (i := 1) (oi := ⟨some 56, .nilCheck (.tmp 55), _, _, _, none⟩) (v := .pointer (some ⟨gb, 0, none⟩)) rfl (by kernel_rfl) (by kernel_rfl) (by kernel_rfl) (fun _ _ _ h => h) (Or.inl ⟨by rfl, fun w' hS' => ?_⟩) hHeld ?_
          · go_simp
          simp only [Act.put, List.setIfInBounds_toArray, List.set_cons_zero, List.set_cons_succ]
          refine wpAnyH_take (i := 2) (oi := ⟨some 57, .fieldAddr 28 (.tmp 56) 0, _, _, _, none⟩) (v := .pointer (some ⟨gb, 0, none⟩)) rfl (by kernel_rfl) (by kernel_rfl) (by kernel_rfl) (fun _ _ _ h => h) (Or.inl ⟨by rfl, fun w' hS' => ?_⟩) hHeld ?_
          · go_simp
          simp only [Act.put, List.setIfInBounds_toArray, List.set_cons_zero, List.set_cons_succ]
          refine wpAnyH_take (i := 3) (oi := ⟨some 58, .load 26 (.tmp 57), _, _, _, none⟩) (v := .slice (some ⟨g, 0, none⟩) L.length cap) rfl (by kernel_rfl) (by kernel_rfl) (by kernel_rfl) (fun _ _ _ h => h) (Or.inl ⟨by rfl, fun w' hS' => ?_⟩) hHeld ?_
          · exact exec_load_row w' ⟨gb, 0, none⟩ _ rfl hS'.1
          simp only [Act.put, List.setIfInBounds_toArray, List.set_cons_zero, List.set_cons_succ]
          refine wpAnyH_take (i := 4) (oi := ⟨some 59, .move (.tmp 5), _, _, _, none⟩) (v := .int .i64 (i : Int)) rfl (by kernel_rfl) (by kernel_rfl) (by kernel_rfl) (fun _ _ _ h => h) (Or.inl ⟨by rfl, fun w' hS' => ?_⟩) hHeld ?_
          · go_simp
          simp only [Act.put, List.setIfInBounds_toArray, List.set_cons_zero, List.set_cons_succ]
          refine wpAnyH_take (i := 5) (oi := ⟨some 60, .indexAddr 26 (.tmp 58) (.tmp 59), _, _, _, none⟩) (v := .pointer (some ⟨g, i * 62, none⟩)) rfl (by kernel_rfl) (by kernel_rfl) (by kernel_rfl) (fun _ _ _ h => h) (Or.inl ⟨by rfl, fun w' hS' => ?_⟩) hHeld ?_
          · go_simp
          simp only [Act.put, List.setIfInBounds_toArray, List.set_cons_zero, List.set_cons_succ]
          refine wpAnyH_take (i := 6) (oi := ⟨some 61, .load 34 (.tmp 60), _, _, _, none⟩) (v := .agg (mcells mi).toArray) rfl (by kernel_rfl) (by kernel_rfl) (by kernel_rfl) (fun _ _ _ h => h) (yieldsIf_load_mid (by rfl) 34 (.tmp 60) rfl g (i * 62) rfl (mcells mi) _ (fun _ h => h.2.1) Tryd.underlying34 rfl (by rw [mcells_len]; exact Tryd.member62)) hHeld ?_
          simp only [Act.put, List.setIfInBounds_toArray, List.set_cons_zero, List.set_cons_succ]
          refine wpAnyH_take (i := 7) (oi := ⟨some 62, .move (.tmp 3), _, _, _, none⟩) (v := .pointer (some ⟨gb, 0, none⟩)) rfl (by kernel_rfl) (by kernel_rfl) (by kernel_rfl) (fun _ _ _ h => h) (Or.inl ⟨by rfl, fun w' hS' => ?_⟩) hHeld ?_
          · go_simp
          simp only [Act.put, List.setIfInBounds_toArray, List.set_cons_zero, List.set_cons_succ]
          refine wpAnyH_take (i := 8) (oi := ⟨some 63, .nilCheck (.tmp 62), _, _, _, none⟩) (v := .pointer (some ⟨gb, 0, none⟩)) rfl (by kernel_rfl) (by kernel_rfl) (by kernel_rfl) (fun _ _ _ h => h) (Or.inl ⟨by rfl, fun w' hS' => ?_⟩) hHeld ?_
          · go_simp
          simp only [Act.put, List.setIfInBounds_toArray, List.set_cons_zero, List.set_cons_succ]
          refine wpAnyH_take (i := 9) (oi := ⟨some 64, .fieldAddr 28 (.tmp 63) 0, _, _, _, none⟩) (v := .pointer (some ⟨gb, 0, none⟩)) rfl (by kernel_rfl) (by kernel_rfl) (by kernel_rfl) (fun _ _ _ h => h) (Or.inl ⟨by rfl, fun w' hS' => ?_⟩) hHeld ?_
          · go_simp
          simp only [Act.put, List.setIfInBounds_toArray, List.set_cons_zero, List.set_cons_succ]
          refine wpAnyH_take (i := 10) (oi := ⟨some 65, .load 26 (.tmp 64), _, _, _, none⟩) (v := .slice (some ⟨g, 0, none⟩) L.length cap) rfl (by kernel_rfl) (by kernel_rfl) (by kernel_rfl) (fun _ _ _ h => h) (Or.inl ⟨by rfl, fun w' hS' => ?_⟩) hHeld ?_
          · exact exec_load_row w' ⟨gb, 0, none⟩ _ rfl hS'.1
          simp only [Act.put, List.setIfInBounds_toArray, List.set_cons_zero, List.set_cons_succ]
          refine wpAnyH_take (i := 11) (oi := ⟨some 66, .move (.tmp 6), _, _, _, none⟩) (v := .int .i64 (k : Int)) rfl (by kernel_rfl) (by kernel_rfl) (by kernel_rfl) (fun _ _ _ h => h) (Or.inl ⟨by rfl, fun w' hS' => ?_⟩) hHeld ?_
          · go_simp
          simp only [Act.put, List.setIfInBounds_toArray, List.set_cons_zero, List.set_cons_succ]
          refine wpAnyH_take (i := 12) (oi := ⟨some 67, .indexAddr 26 (.tmp 65) (.tmp 66), _, _, _, none⟩) (v := .pointer (some ⟨g, k * 62, none⟩)) rfl (by kernel_rfl) (by kernel_rfl) (by kernel_rfl) (fun _ _ _ h => h) (Or.inl ⟨by rfl, fun w' hS' => ?_⟩) hHeld ?_
          · go_simp
          simp only [Act.put, List.setIfInBounds_toArray, List.set_cons_zero, List.set_cons_succ]
          refine wpAnyH_take (i := 13) (oi := ⟨some 68, .load 34 (.tmp 67), _, _, _, none⟩) (v := .agg (mcells mk).toArray) rfl (by kernel_rfl) (by kernel_rfl) (by kernel_rfl) (fun _ _ _ h => h) (yieldsIf_load_mid (by rfl) 34 (.tmp 67) rfl g (k * 62) rfl (mcells mk) _ (fun _ h => h.2.2) Tryd.underlying34 rfl (by rw [mcells_len]; exact Tryd.member62)) hHeld ?_
          simp only [Act.put, List.setIfInBounds_toArray, List.set_cons_zero, List.set_cons_succ]
          refine wpAnyH_ready (rs := [14]) (by kernel_rfl) (by simp) ?_
          refine AllReadyH.cons (o := ⟨some 69, .call { callee := .value (.func 11), args := #[.tmp 61, .tmp 68], argTypes := #[34, 34] }, _, _, _, none⟩) rfl (fun K hK => ?_) AllReadyH.nil
          go_simp
          refine (unhide AH _).mono ?_
          rintro o w6 ⟨rfl, b6⟩
          have G6 := (unhide G5).keep (below_trans (below_drew w5) b6)
          have B6 := hide ((unhide hb5).trans ((below_trans (below_drew w5) b6).mono (unhide hb5).size))
          obtain ⟨_, _, R6⟩ := unhide RNG w6 G6
          have C6 := G6.cells.1
          replace G6 := hide G6
          refine hK.out _ _ ⟨C6, R6 i mi hmi, R6 k mk hmk⟩ (fun hHeld => ?_)
          clear hK K b6
          try simp only [Act.put, List.setIfInBounds_toArray, List.set_cons_zero, List.set_cons_succ]
          refine wpAnyH_take (i := 15) (oi := ⟨some 9, .assign (.tmp 69), _, _, _, none⟩) (v := .bool (aheadP mi mk)) rfl (by kernel_rfl) (by kernel_rfl) (by kernel_rfl) (fun _ _ _ h => h) (Or.inl ⟨by rfl, fun w' hS' => ?_⟩) hHeld ?_
          · go_simp
          simp only [Act.put, List.setIfInBounds_toArray, List.set_cons_zero, List.set_cons_succ]
          refine wpAnyH_done (by kernel_rfl) ?_ _
          clear hHeld R6
          rw [← unhide LQ]
          generalize atMostP mi.ev mk.ev = A at *
          cases A
          all_goals
            go_wp2_with fail
            go_roundg (L.length - (k + 1))
            case measure => have := unhide HK; omega
            case rel => exact ⟨k + 1, by omega, by go_num, unhide G6, unhide B6⟩
        · have k1 : ¬ (k : Int) < (L.length : Int) := by omega
          replace G3 := hide G3
          replace hb3 := hide hb3
          go_wp2_with fail
          go_roundg (L.length - (i + 1))
          case measure => have := unhide HI; omega
          case rel => exact ⟨i + 1, by omega, by go_num, unhide G3, unhide hb3⟩
    · have i1 : ¬ (i : Int) < (L.length : Int) := by omega
      go_wp2_with fail
      go_ret
      exact ⟨rfl, unhide hb2⟩

end Go.Proofs.YtoebmfhgaalcdaaDoor
