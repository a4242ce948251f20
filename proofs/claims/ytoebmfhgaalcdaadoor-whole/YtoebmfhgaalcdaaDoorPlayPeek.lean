/-
  Our own. (*group).play: peeks. (Laid by wip/mk/play2.py.)
-/
import Derived.Test.YtoebmfhgaalcdaaDoorGroupR
namespace Go.Proofs.YtoebmfhgaalcdaaDoor
open Go.RowKit

set_option maxRecDepth 100000 in
set_option maxHeartbeats 4000000 in
theorem play_peek (B gb : Nat) (w : World) (sv : Value) (L : List Mem) (d : Nat) (what a b : Int) (i c : Nat) (m : Mem) (hL : L.length ≤ 31) (I : GInv L d) (G : Gr B gb w sv L d) (hB : B ≤ w.heap.size) (hm : L[i]? = some m) (T : Tab w)
    (PA : ∀ w, Calls Tryd.prog 16 #[.int .i64 a, .int .i64 (L.length : Int)] w fun e w' => e = .returned (.int .i64 (i : Int)) ∧ w' = w)
    (PW : ∀ w, Calls Tryd.prog 16 #[.int .i64 what, .int .i64 8] w fun e w' => e = .returned (.int .i64 (c : Int)) ∧ w' = w) (hc : c = 5) :
    Calls Tryd.prog 24 #[.pointer (some ⟨gb, 0, none⟩), .int .i64 what, .int .i64 a, .int .i64 b] w fun e w' => Played B gb w e w' := by
  have hil := get_lt hm
  obtain ⟨g, cap, rfl, hBg, hgl, hgg, hlc, hcm, hcell, hfz, hrange⟩ := G.form (by omega)
  obtain ⟨c0, c1, cf⟩ := G.cells
  have R := hide (hrange i m hm)
  have mi := hide Tryd.member62
  have hu := hide Tryd.underlying34
  have i0 : (0 : Int) ≤ (i : Int) := by omega
  have i1 : (i : Int) < (L.length : Int) := by omega
  have PK := hide (peek_T (I.pt i m hm))
  have NEXT := hide (I.peeked hm)
  replace T := hide T
  have TK := hide (Took.enter (m := m) G zeroM rfl)
  replace PA := hide PA
  replace PW := hide PW
  replace I := hide I
  have HS := store_member_new m w
  have ML := mcells_len m
  have hBg2 := hBg
  clear hcell hrange hfz cf hcm hlc hBg G
  go_enter Tryd.func24, Tryd.ntmps24
  go_wp2_with fail
  refine (unhide PA _).mono ?_
  rintro o w1 ⟨rfl, hw1⟩
  rw [hw1]
  clear hw1 w1
  go_upto_region 3 with (refine wpList_load_mid rfl 34 _ rfl g (i * 62) rfl (mcells m) _ (unhide R) (unhide hu) rfl (by rw [mcells_len]; exact unhide mi) ?_)
  clear HS R mi hu ML c0 c1
  have MW : Hid (w.heap.size ≤ ((w.alloc (Obj.cells zeroM 34)).setCells w.heap.size 0 (mcells m)).heap.size) := hide (unhide TK).bel.size
  generalize (w.alloc (Obj.cells zeroM 34)).setCells w.heap.size 0 (mcells m) = W at *
  obtain ⟨m0, m61⟩ := (unhide TK).cells
  obtain ⟨c0, c1, cf⟩ := (unhide TK).gr.cells
  generalize hM : w.heap.size = M at *
  replace hM := hide hM
  go_wp2_with fail
  refine (unhide PW _).mono ?_
  rintro o w1 ⟨rfl, hw1⟩
  rw [hw1]
  clear hw1 w1
  generalize hS : tx m.id m.ev = S at *
  generalize hX : tx (.leaf false) m.ev = X at *
  subst hc
  by_cases h30 : L.length < 30
  · have h31 : (L.length : Int) < 30 := by omega
    go_wp2_with fail
    refine (unhide PK _ ((unhide T).below (by rw [unhide hM]; exact (unhide TK).bel))).mono ?_
    rintro o w2 ⟨rfl, b2⟩
    have TK2 := (unhide TK).keep (unhide MW) b2
    have MW2 := hide (Nat.le_trans (unhide MW) b2.size)
    have c0b := cell_keep b2 c0
    obtain ⟨_, _, cfb⟩ := TK2.gr.cells
    have RP : w2.rangeAt M 1 (pastCells m.past) := TK2.past
    have gl := TK2.gl
    have ML0 : M < w2.heap.size := World.block_lt_of_cell? _ _ TK2.cells.1
    have GR := hide TK2.gr
    have BL := hide TK2.bel
    clear TK2 b2 m0 m61 c0 c1 cf
    generalize hpst : m.past = pst at *
    replace RP := hide RP
    replace hpst := hide hpst
    replace hS := hide hS
    replace hX := hide hX
    clear TK MW PK
    obtain ⟨mn, hmn⟩ : ∃ mn : Mem, mn = ⟨.leaf false, m.ev, pst, true⟩ := ⟨_, rfl⟩
    rw [← hmn] at NEXT
    have hmc : Hid (mcells mn = memCells X pst true) := by
      show _ = _
      rw [hmn, memCells_eq, ← unhide hX]
    obtain ⟨zm, zi, zz0, zz1, zz2⟩ := info_parts Tryd.infoMember
    have GA := hide ((unhide GR).keep (below_trans (below_drew w2) (below_alloc w2.drew (.cells (memCells X pst true).toArray 34))))
    have BA2 := hide (((unhide BL).mono hB).trans ((below_trans (below_drew w2) (below_alloc w2.drew (.cells (memCells X pst true).toArray 34))).mono (by omega)))
    have SZ2 : (w2.drew.alloc (.cells (memCells X pst true).toArray 34)).heap.size = w2.heap.size + 1 := by simp
    have BA : Hid (B ≤ (w2.drew.alloc (.cells (memCells X pst true).toArray 34)).heap.size) := by show B ≤ _; omega
    have NW := hide (World.news_of_block (heap_new w2.drew (.cells (memCells X pst true).toArray 34)))
    have ML : Hid (M < (w2.drew.alloc (.cells (memCells X pst true).toArray 34)).heap.size) := by
      show M < _
      omega
    have MG : Hid (some M ≠ (Value.slice (some ⟨g, 0, none⟩) L.length cap).ownBlock) := by
      show some M ≠ some g
      intro e
      injection e with e
      omega
    have MGB : Hid (M ≠ gb) := by show M ≠ gb; omega
    replace hmn := hmc
    clear SZ2
    go_wp2_with fail
    refine wp_region_held_drew (S := fun w' => w'.rangeAt M 1 (pastCells pst)) (by kernel_rfl) (unhide RP) (fun hHeld => ?_)
    refine wpAnyH_take (i := 0) (oi := ⟨some 246, .move (.tmp 0), _, _, _, none⟩) (v := .pointer (some ⟨gb, 0, none⟩)) rfl (by kernel_rfl) (by kernel_rfl) (by kernel_rfl) (fun _ _ _ h => h) (Or.inl ⟨by rfl, fun w' hS' => ?_⟩) hHeld ?_
    · go_simp
    simp only [Act.put, List.setIfInBounds_toArray, List.set_cons_zero, List.set_cons_succ]
    refine wpAnyH_take (i := 1) (oi := ⟨some 247, .move (.tmp 0), _, _, _, none⟩) (v := .pointer (some ⟨gb, 0, none⟩)) rfl (by kernel_rfl) (by kernel_rfl) (by kernel_rfl) (fun _ _ _ h => h) (Or.inl ⟨by rfl, fun w' hS' => ?_⟩) hHeld ?_
    · go_simp
    simp only [Act.put, List.setIfInBounds_toArray, List.set_cons_zero, List.set_cons_succ]
    refine wpAnyH_take (i := 2) (oi := ⟨some 248, .nilCheck (.tmp 247), _, _, _, none⟩) (v := .pointer (some ⟨gb, 0, none⟩)) rfl (by kernel_rfl) (by kernel_rfl) (by kernel_rfl) (fun _ _ _ h => h) (Or.inl ⟨by rfl, fun w' hS' => ?_⟩) hHeld ?_
    · go_simp
    simp only [Act.put, List.setIfInBounds_toArray, List.set_cons_zero, List.set_cons_succ]
    refine wpAnyH_take (i := 3) (oi := ⟨some 249, .fieldAddr 28 (.tmp 248) 0, _, _, _, none⟩) (v := .pointer (some ⟨gb, 0, none⟩)) rfl (by kernel_rfl) (by kernel_rfl) (by kernel_rfl) (fun _ _ _ h => h) (Or.inl ⟨by rfl, fun w' hS' => ?_⟩) hHeld ?_
    · go_simp
    simp only [Act.put, List.setIfInBounds_toArray, List.set_cons_zero, List.set_cons_succ]
    refine wpAnyH_take (i := 5) (oi := ⟨some 251, .move (.tmp 16), _, _, _, none⟩) (v := .string X) rfl (by kernel_rfl) (by kernel_rfl) (by kernel_rfl) (fun _ _ _ h => h) (Or.inl ⟨by rfl, fun w' hS' => ?_⟩) hHeld ?_
    · go_simp
    simp only [Act.put, List.setIfInBounds_toArray, List.set_cons_zero, List.set_cons_succ]
    refine wpAnyH_take (i := 6) (oi := ⟨some 252, .fieldAddr 34 (.tmp 10) 1, _, _, _, none⟩) (v := .pointer (some ⟨M, 1, none⟩)) rfl (by kernel_rfl) (by kernel_rfl) (by kernel_rfl) (fun _ _ _ h => h) (Or.inl ⟨by rfl, fun w' hS' => ?_⟩) hHeld ?_
    · go_simp
    simp only [Act.put, List.setIfInBounds_toArray, List.set_cons_zero, List.set_cons_succ]
    refine wpAnyH_take (i := 7) (oi := ⟨some 253, .load 32 (.tmp 252), _, _, _, none⟩) (v := .agg (pastCells pst).toArray) rfl (by kernel_rfl) (by kernel_rfl) (by kernel_rfl) (fun _ _ _ h => h) (yieldsIf_load_mid (by rfl) 32 (.tmp 252) rfl M 1 rfl (pastCells pst) _ (fun _ h => h) Tryd.underlying32 rfl (by rw [past_len]; exact Tryd.infoPast)) hHeld ?_
    simp only [Act.put, List.setIfInBounds_toArray, List.set_cons_zero, List.set_cons_succ]
    refine wpAnyH_take (i := 8) (oi := ⟨some 254, .build 34 #[(0, .tmp 251), (1, .tmp 253), (2, .const (.bool true))], _, _, _, none⟩) (v := .agg (memCells X pst true).toArray) rfl (by kernel_rfl) (by kernel_rfl) (by kernel_rfl) (fun _ _ _ h => h) (Or.inl ⟨by rfl, fun w' hS' => ?_⟩) hHeld ?_
    · exact exec_build3 X pst true w' rfl rfl rfl
    simp only [Act.put, List.setIfInBounds_toArray, List.set_cons_zero, List.set_cons_succ]
    refine wpAnyH_ready (rs := [4, 9]) (by kernel_rfl) (by simp) ?_
    refine AllReadyH.cons (o := ⟨some 250, .load 26 (.tmp 249), _, _, _, none⟩) rfl (fun K hK => ?_) ?_
    · refine step_run rfl (.slice (some ⟨g, 0, none⟩) L.length cap) (exec_load_row _ ⟨gb, 0, none⟩ _ rfl c0b) ?_
      refine hK.out _ _ hHeld (fun hHeld => ?_)
      clear hK K
      simp only [Act.put, List.setIfInBounds_toArray, List.set_cons_zero, List.set_cons_succ]
      refine wpAnyH_ready (rs := [9]) (by kernel_rfl) (by simp) ?_
      refine AllReadyH.cons (o := ⟨some 255, .buildSlice 26 1 #[(0, .tmp 254)], _, _, _, none⟩) rfl (fun K hK => ?_) AllReadyH.nil
      refine step_run rfl _ (exec_bslice X pst true _ rfl) ?_
      refine hK.out _ _ (World.rangeAt_alloc hHeld _) (fun hHeld => ?_)
      clear hK K
      simp only [Act.put, List.setIfInBounds_toArray, List.set_cons_zero, List.set_cons_succ]
      refine wpAnyH_ready (rs := [10]) (by kernel_rfl) (by simp) ?_
      refine AllReadyH.cons (o := ⟨some 256, .call { callee := .builtin .append, args := #[.tmp 250, .tmp 255], argTypes := #[26, 26] }, _, _, _, none⟩) rfl (fun K hK => ?_) AllReadyH.nil
      refine step_append_lies _ (by rfl) _ _ _ (by rfl) B 34 zm (.agg zeroM) 62 80 Tryd.underlying26 zi zz0 zz1 zz2 rfl (by decide) (.slice (some ⟨g, 0, none⟩) L.length cap) L.length (flatM L) (by rfl) (unhide GA).row ⟨w2.drew.heap.size, 0, none⟩ 1 1 (memCells X pst true) (by rfl) (by rw [mem_len]) (unhide NW) (mem_one X pst true) (by omega) (by unfold maxLen; omega) (by omega) (unhide BA) _ rfl ?_
      intro g4 cap4 w4 hown4 hgrow4 hat4 _
      have R4 := range_far hHeld (hgrow4.block M (unhide ML) (unhide MG))
      obtain ⟨G5, B5, c4, f4⟩ := (unhide GA).appended (by omega) mn (by rw [unhide hmn]; exact hown4) hgrow4 hat4
      replace G5 := hide G5
      replace B5 := hide B5
      replace hown4 := hide hown4
      replace hgrow4 := hide hgrow4
      refine hK.out _ _ R4 (fun hHeld => ?_)
      clear hK K R4 hat4
      simp only [Act.put, List.setIfInBounds_toArray, List.set_cons_zero, List.set_cons_succ]
      refine wpAnyH_take (i := 11) (oi := ⟨some 257, .nilCheck (.tmp 246), _, _, _, none⟩) (v := .pointer (some ⟨gb, 0, none⟩)) rfl (by kernel_rfl) (by kernel_rfl) (by kernel_rfl) (fun _ _ _ h => h) (Or.inl ⟨by rfl, fun w' hS' => ?_⟩) hHeld ?_
      · go_simp
      simp only [Act.put, List.setIfInBounds_toArray, List.set_cons_zero, List.set_cons_succ]
      refine wpAnyH_take (i := 12) (oi := ⟨some 258, .fieldAddr 28 (.tmp 257) 0, _, _, _, none⟩) (v := .pointer (some ⟨gb, 0, none⟩)) rfl (by kernel_rfl) (by kernel_rfl) (by kernel_rfl) (fun _ _ _ h => h) (Or.inl ⟨by rfl, fun w' hS' => ?_⟩) hHeld ?_
      · go_simp
      simp only [Act.put, List.setIfInBounds_toArray, List.set_cons_zero, List.set_cons_succ]
      refine wpAnyH_ready (rs := [13]) (by kernel_rfl) (by simp) ?_
      refine AllReadyH.cons (o := ⟨none, .store 26 (.tmp 258) (.tmp 256), _, _, _, none⟩) rfl (fun K hK => ?_) AllReadyH.nil
      refine step_skip rfl (exec_store_row w4 ⟨gb, 0, none⟩ (some ⟨g4, 0, none⟩) (L.length + 1) cap4 _ rfl rfl c4 (f4 0)) ?_
      refine hK.out _ _ (range_far hHeld (Below.heap_setCell _ _ _ M (unhide MGB))) (fun hHeld => ?_)
      clear hK K hHeld c4 f4
      simp only [Act.put]
      refine wpAnyH_done (by kernel_rfl) ?_ _
      generalize w4.setCell ⟨gb, 0, none⟩ (.slice (some ⟨g4, 0, none⟩) (L.length + 1) cap4) = W5 at *
      go_wp2_with fail
      go_ret
      exact ⟨rfl, (unhide BA2).trans (unhide B5), _, _, _, unhide G5, unhide NEXT, by rw [List.length_append]; omega, by rw [List.length_append]; show _ + 1 ≤ 31; omega⟩
    refine AllReadyH.cons (o := ⟨some 255, .buildSlice 26 1 #[(0, .tmp 254)], _, _, _, none⟩) rfl (fun K hK => ?_) AllReadyH.nil
    · refine step_run rfl _ (exec_bslice X pst true _ rfl) ?_
      refine hK.out _ _ (World.rangeAt_alloc hHeld _) (fun hHeld => ?_)
      clear hK K
      simp only [Act.put, List.setIfInBounds_toArray, List.set_cons_zero, List.set_cons_succ]
      refine wpAnyH_ready (rs := [4]) (by kernel_rfl) (by simp) ?_
      refine AllReadyH.cons (o := ⟨some 250, .load 26 (.tmp 249), _, _, _, none⟩) rfl (fun K hK => ?_) AllReadyH.nil
      refine step_run rfl (.slice (some ⟨g, 0, none⟩) L.length cap) (exec_load_row _ ⟨gb, 0, none⟩ _ rfl (unhide GA).cells.1) ?_
      refine hK.out _ _ hHeld (fun hHeld => ?_)
      clear hK K
      simp only [Act.put, List.setIfInBounds_toArray, List.set_cons_zero, List.set_cons_succ]
      refine wpAnyH_ready (rs := [10]) (by kernel_rfl) (by simp) ?_
      refine AllReadyH.cons (o := ⟨some 256, .call { callee := .builtin .append, args := #[.tmp 250, .tmp 255], argTypes := #[26, 26] }, _, _, _, none⟩) rfl (fun K hK => ?_) AllReadyH.nil
      refine step_append_lies _ (by rfl) _ _ _ (by rfl) B 34 zm (.agg zeroM) 62 80 Tryd.underlying26 zi zz0 zz1 zz2 rfl (by decide) (.slice (some ⟨g, 0, none⟩) L.length cap) L.length (flatM L) (by rfl) (unhide GA).row ⟨w2.drew.heap.size, 0, none⟩ 1 1 (memCells X pst true) (by rfl) (by rw [mem_len]) (unhide NW) (mem_one X pst true) (by omega) (by unfold maxLen; omega) (by omega) (unhide BA) _ rfl ?_
      intro g4 cap4 w4 hown4 hgrow4 hat4 _
      have R4 := range_far hHeld (hgrow4.block M (unhide ML) (unhide MG))
      obtain ⟨G5, B5, c4, f4⟩ := (unhide GA).appended (by omega) mn (by rw [unhide hmn]; exact hown4) hgrow4 hat4
      replace G5 := hide G5
      replace B5 := hide B5
      replace hown4 := hide hown4
      replace hgrow4 := hide hgrow4
      refine hK.out _ _ R4 (fun hHeld => ?_)
      clear hK K R4 hat4
      simp only [Act.put, List.setIfInBounds_toArray, List.set_cons_zero, List.set_cons_succ]
      refine wpAnyH_take (i := 11) (oi := ⟨some 257, .nilCheck (.tmp 246), _, _, _, none⟩) (v := .pointer (some ⟨gb, 0, none⟩)) rfl (by kernel_rfl) (by kernel_rfl) (by kernel_rfl) (fun _ _ _ h => h) (Or.inl ⟨by rfl, fun w' hS' => ?_⟩) hHeld ?_
      · go_simp
      simp only [Act.put, List.setIfInBounds_toArray, List.set_cons_zero, List.set_cons_succ]
      refine wpAnyH_take (i := 12) (oi := ⟨some 258, .fieldAddr 28 (.tmp 257) 0, _, _, _, none⟩) (v := .pointer (some ⟨gb, 0, none⟩)) rfl (by kernel_rfl) (by kernel_rfl) (by kernel_rfl) (fun _ _ _ h => h) (Or.inl ⟨by rfl, fun w' hS' => ?_⟩) hHeld ?_
      · go_simp
      simp only [Act.put, List.setIfInBounds_toArray, List.set_cons_zero, List.set_cons_succ]
      refine wpAnyH_ready (rs := [13]) (by kernel_rfl) (by simp) ?_
      refine AllReadyH.cons (o := ⟨none, .store 26 (.tmp 258) (.tmp 256), _, _, _, none⟩) rfl (fun K hK => ?_) AllReadyH.nil
      refine step_skip rfl (exec_store_row w4 ⟨gb, 0, none⟩ (some ⟨g4, 0, none⟩) (L.length + 1) cap4 _ rfl rfl c4 (f4 0)) ?_
      refine hK.out _ _ (range_far hHeld (Below.heap_setCell _ _ _ M (unhide MGB))) (fun hHeld => ?_)
      clear hK K hHeld c4 f4
      simp only [Act.put]
      refine wpAnyH_done (by kernel_rfl) ?_ _
      generalize w4.setCell ⟨gb, 0, none⟩ (.slice (some ⟨g4, 0, none⟩) (L.length + 1) cap4) = W5 at *
      go_wp2_with fail
      go_ret
      exact ⟨rfl, (unhide BA2).trans (unhide B5), _, _, _, unhide G5, unhide NEXT, by rw [List.length_append]; omega, by rw [List.length_append]; show _ + 1 ≤ 31; omega⟩
  · have h31 : ¬ (L.length : Int) < 30 := by omega
    go_wp2_with fail
    refine (unhide PK _ ((unhide T).below (by rw [unhide hM]; exact (unhide TK).bel))).mono ?_
    rintro o w2 ⟨rfl, b2⟩
    have TK2 := (unhide TK).keep (unhide MW) b2
    have c0b := cell_keep b2 c0
    replace TK2 := hide TK2
    clear b2
    go_wp2_with fail
    go_ret
    refine ⟨rfl, ?_, _, L, d, (unhide TK2).gr, unhide I, by omega, hL⟩
    exact (unhide TK2).bel.mono hB

end Go.Proofs.YtoebmfhgaalcdaaDoor
