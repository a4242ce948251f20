/-
  Our own. (*group).play: forks. (Laid by wip/mk/play2.py.)
-/
import Derived.Test.YtoebmfhgaalcdaaDoorGroupR
namespace Go.Proofs.YtoebmfhgaalcdaaDoor
open Go.RowKit

set_option maxRecDepth 100000 in
set_option maxHeartbeats 4000000 in
theorem play_fork (B gb : Nat) (w : World) (sv : Value) (L : List Mem) (d : Nat) (what a b : Int) (i c : Nat) (m : Mem) (hL : L.length ≤ 31) (I : GInv L d) (G : Gr B gb w sv L d) (hB : B ≤ w.heap.size) (hm : L[i]? = some m) (hpk : m.peek = false) (hs2 : 2 ≤ shareP m.id 256) (h30 : L.length ≤ 30) (T : Tab w)
    (PA : ∀ w, Calls Tryd.prog 16 #[.int .i64 a, .int .i64 (L.length : Int)] w fun e w' => e = .returned (.int .i64 (i : Int)) ∧ w' = w)
    (PW : ∀ w, Calls Tryd.prog 16 #[.int .i64 what, .int .i64 8] w fun e w' => e = .returned (.int .i64 (c : Int)) ∧ w' = w) (hc : c = 0 ∨ c = 1) :
    Calls Tryd.prog 24 #[.pointer (some ⟨gb, 0, none⟩), .int .i64 what, .int .i64 a, .int .i64 b] w fun e w' => Played B gb w e w' := by
  have hil := get_lt hm
  obtain ⟨g, cap, rfl, hBg, hgl, hgg, hlc, hcm, hcell, hfz, hrange⟩ := G.form (by omega)
  obtain ⟨c0, c1, cf⟩ := G.cells
  have R := hide (hrange i m hm)
  have mi := hide Tryd.member62
  have hu := hide Tryd.underlying34
  have i0 : (0 : Int) ≤ (i : Int) := by omega
  have i1 : (i : Int) < (L.length : Int) := by omega
  obtain ⟨Pa, Pb, C⟩ := (I.pt i m hm).cut hs2
  have FK := hide (fork_T (I.pt i m hm) hs2)
  have NEXT := hide (I.forked hm Pa Pb C)
  replace T := hide T
  clear Pa Pb C hs2
  have TK := hide (Took.enter (m := m) G zeroM rfl)
  replace PA := hide PA
  replace PW := hide PW
  replace I := hide I
  have HS := store_member_new m w
  have ML := mcells_len m
  have hBg2 := hBg
  clear hcell hrange hfz cf hcm hlc hBg G
  go_enter Tryd.func24, Tryd.ntmps24
  go_wp2_with fail
  refine (unhide PA _).mono ?_
  rintro o w1 ⟨rfl, hw1⟩
  rw [hw1]
  clear hw1 w1
  go_upto_region 3 with (refine wpList_load_mid rfl 34 _ rfl g (i * 62) rfl (mcells m) _ (unhide R) (unhide hu) rfl (by rw [mcells_len]; exact unhide mi) ?_)
  clear HS R mi hu ML c0 c1
  have MW : Hid (w.heap.size ≤ ((w.alloc (Obj.cells zeroM 34)).setCells w.heap.size 0 (mcells m)).heap.size) := hide (unhide TK).bel.size
  generalize (w.alloc (Obj.cells zeroM 34)).setCells w.heap.size 0 (mcells m) = W at *
  obtain ⟨m0, m61⟩ := (unhide TK).cells
  obtain ⟨c0, c1, cf⟩ := (unhide TK).gr.cells
  generalize hM : w.heap.size = M at *
  replace hM := hide hM
  go_wp2_with fail
  refine (unhide PW _).mono ?_
  rintro o w1 ⟨rfl, hw1⟩
  rw [hw1]
  clear hw1 w1
  rw [hpk] at m61
  have e1 : Hid (mcells ⟨(cutP m.id).1, m.ev, m.past, m.peek⟩ = (mcells m).set 0 (.string (tx (cutP m.id).1 m.ev))) := hide rfl
  have e2 : Hid (mcells ⟨(cutP m.id).2, m.ev, m.past, false⟩ = memCells (tx (cutP m.id).2 m.ev) m.past false) := hide rfl
  generalize hS : tx m.id m.ev = S at *
  generalize hX0 : tx (cutP m.id).1 m.ev = X0 at *
  generalize hX : tx (cutP m.id).2 m.ev = X at *
  have h31 : ¬ (30 : Int) < (L.length : Int) := by omega
  rcases hc with rfl | rfl
  all_goals
    go_wp2_with fail
    refine (unhide FK _ ((unhide T).below (by rw [unhide hM]; exact (unhide TK).bel))).mono ?_
    rintro o w2 ⟨rfl, b2⟩
    have TK2 := (unhide TK).keep (unhide MW) b2
    have m61b := cell_keep b2 m61
    have c0b := cell_keep b2 c0
    obtain ⟨k0, kf⟩ := TK2.gr.at hm 0 (.string S) (by rw [← hS]; exact (mcells_at m).1)
    have G3 := TK2.gr.store hm 0 (.string X0) (by omega) (unhide e1)
    have ML1 : M < w2.heap.size := World.block_lt_of_cell? _ _ TK2.cells.1
    have RP := range_far TK2.past (Below.heap_setCell w2 ⟨g, i * 62, none⟩ (.string X0) M (by show M ≠ g; omega))
    have gl := TK2.gl
    have ML0 : M < (w2.setCell ⟨g, i * 62, none⟩ (.string X0)).heap.size := by
      have := (below_set1 w2 (Nat.zero_le g) (.string X0) (i * 62)).size
      omega
    have BL := hide ((TK2.bel.mono (show B ≤ M by omega)).trans (below_set1 w2 hBg2 (.string X0) (i * 62)))
    rw [Nat.add_zero] at k0 G3
    replace RP := hide RP
    replace G3 := hide G3
    replace ML0 := hide ML0
    have gne : ¬ g = gb := hgg
    have gne2 : ¬ gb = g := fun e => hgg e.symm
    clear TK2 b2 m0 m61 c0 c1 cf ML1 TK MW FK
    go_wp2_with fail
    generalize w2.setCell ⟨g, i * 62, none⟩ (.string X0) = W3 at *
    clear k0 kf c0b m61b
    obtain ⟨L1, hL1⟩ : ∃ L1, L1 = L.set i ⟨(cutP m.id).1, m.ev, m.past, m.peek⟩ := ⟨_, rfl⟩
    have hl1 : L1.length = L.length := by rw [hL1, List.length_set]
    replace G3 := unhide G3
    replace ML0 := unhide ML0
    rw [← hL1] at G3 NEXT
    rw [← hl1] at G3 hil
    obtain ⟨c0b, _, cfb⟩ := G3.cells
    have GR := hide G3
    obtain ⟨mn, hmn⟩ : ∃ mn : Mem, mn = ⟨(cutP m.id).2, m.ev, m.past, false⟩ := ⟨_, rfl⟩
    rw [← hmn] at NEXT e2
    replace hmn := e2
    generalize hpst : m.past = pst at *
    clear hpst hL1 G3 e2
    have h29 : L1.length ≤ 30 := by omega
    obtain ⟨zm, zi, zz0, zz1, zz2⟩ := info_parts Tryd.infoMember
    have GA := hide ((unhide GR).keep (below_trans (below_drew W3) (below_alloc W3.drew (.cells (memCells X pst false).toArray 34))))
    have BA2 := hide ((unhide BL).trans ((below_trans (below_drew W3) (below_alloc W3.drew (.cells (memCells X pst false).toArray 34))).mono (by omega)))
    have SZ2 : (W3.drew.alloc (.cells (memCells X pst false).toArray 34)).heap.size = W3.heap.size + 1 := by simp
    have BA : Hid (B ≤ (W3.drew.alloc (.cells (memCells X pst false).toArray 34)).heap.size) := by show B ≤ _; omega
    have NW := hide (World.news_of_block (heap_new W3.drew (.cells (memCells X pst false).toArray 34)))
    have ML : Hid (M < (W3.drew.alloc (.cells (memCells X pst false).toArray 34)).heap.size) := by
      show M < _
      omega
    have MGB : Hid (M ≠ gb) := by show M ≠ gb; omega
    clear SZ2
    have MG : Hid (some M ≠ (Value.slice (some ⟨g, 0, none⟩) L1.length cap).ownBlock) := by
      show some M ≠ some g
      intro e
      injection e with e
      omega
    refine wp_region_held_drew (S := fun w' => w'.rangeAt M 1 (pastCells pst)) (by kernel_rfl) (unhide RP) (fun hHeld => ?_)
    refine wpAnyH_take (i := 0) (oi := ⟨some 169, .move (.tmp 0), _, _, _, none⟩) (v := .pointer (some ⟨gb, 0, none⟩)) rfl (by kernel_rfl) (by kernel_rfl) (by kernel_rfl) (fun _ _ _ h => h) (Or.inl ⟨by rfl, fun w' hS' => ?_⟩) hHeld ?_
    · go_simp
    simp only [Act.put, List.setIfInBounds_toArray, List.set_cons_zero, List.set_cons_succ]
    refine wpAnyH_take (i := 1) (oi := ⟨some 170, .move (.tmp 0), _, _, _, none⟩) (v := .pointer (some ⟨gb, 0, none⟩)) rfl (by kernel_rfl) (by kernel_rfl) (by kernel_rfl) (fun _ _ _ h => h) (Or.inl ⟨by rfl, fun w' hS' => ?_⟩) hHeld ?_
    · go_simp
    simp only [Act.put, List.setIfInBounds_toArray, List.set_cons_zero, List.set_cons_succ]
    refine wpAnyH_take (i := 2) (oi := ⟨some 171, .nilCheck (.tmp 170), _, _, _, none⟩) (v := .pointer (some ⟨gb, 0, none⟩)) rfl (by kernel_rfl) (by kernel_rfl) (by kernel_rfl) (fun _ _ _ h => h) (Or.inl ⟨by rfl, fun w' hS' => ?_⟩) hHeld ?_
    · go_simp
    simp only [Act.put, List.setIfInBounds_toArray, List.set_cons_zero, List.set_cons_succ]
    refine wpAnyH_take (i := 3) (oi := ⟨some 172, .fieldAddr 28 (.tmp 171) 0, _, _, _, none⟩) (v := .pointer (some ⟨gb, 0, none⟩)) rfl (by kernel_rfl) (by kernel_rfl) (by kernel_rfl) (fun _ _ _ h => h) (Or.inl ⟨by rfl, fun w' hS' => ?_⟩) hHeld ?_
    · go_simp
    simp only [Act.put, List.setIfInBounds_toArray, List.set_cons_zero, List.set_cons_succ]
    refine wpAnyH_take (i := 5) (oi := ⟨some 174, .move (.tmp 12), _, _, _, none⟩) (v := .string X) rfl (by kernel_rfl) (by kernel_rfl) (by kernel_rfl) (fun _ _ _ h => h) (Or.inl ⟨by rfl, fun w' hS' => ?_⟩) hHeld ?_
    · go_simp
    simp only [Act.put, List.setIfInBounds_toArray, List.set_cons_zero, List.set_cons_succ]
    refine wpAnyH_take (i := 6) (oi := ⟨some 175, .fieldAddr 34 (.tmp 10) 1, _, _, _, none⟩) (v := .pointer (some ⟨M, 1, none⟩)) rfl (by kernel_rfl) (by kernel_rfl) (by kernel_rfl) (fun _ _ _ h => h) (Or.inl ⟨by rfl, fun w' hS' => ?_⟩) hHeld ?_
    · go_simp
    simp only [Act.put, List.setIfInBounds_toArray, List.set_cons_zero, List.set_cons_succ]
    refine wpAnyH_take (i := 7) (oi := ⟨some 176, .load 32 (.tmp 175), _, _, _, none⟩) (v := .agg (pastCells pst).toArray) rfl (by kernel_rfl) (by kernel_rfl) (by kernel_rfl) (fun _ _ _ h => h) (yieldsIf_load_mid (by rfl) 32 (.tmp 175) rfl M 1 rfl (pastCells pst) _ (fun _ h => h) Tryd.underlying32 rfl (by rw [past_len]; exact Tryd.infoPast)) hHeld ?_
    simp only [Act.put, List.setIfInBounds_toArray, List.set_cons_zero, List.set_cons_succ]
    refine wpAnyH_take (i := 8) (oi := ⟨some 177, .build 34 #[(0, .tmp 174), (1, .tmp 176)], _, _, _, none⟩) (v := .agg (memCells X pst false).toArray) rfl (by kernel_rfl) (by kernel_rfl) (by kernel_rfl) (fun _ _ _ h => h) (Or.inl ⟨by rfl, fun w' hS' => ?_⟩) hHeld ?_
    · exact exec_build2 X pst w' rfl rfl
    simp only [Act.put, List.setIfInBounds_toArray, List.set_cons_zero, List.set_cons_succ]
    refine wpAnyH_ready (rs := [4, 9]) (by kernel_rfl) (by simp) ?_
    refine AllReadyH.cons (o := ⟨some 173, .load 26 (.tmp 172), _, _, _, none⟩) rfl (fun K hK => ?_) ?_
    · refine step_run rfl (.slice (some ⟨g, 0, none⟩) L1.length cap) (exec_load_row _ ⟨gb, 0, none⟩ _ rfl c0b) ?_
      refine hK.out _ _ hHeld (fun hHeld => ?_)
      clear hK K
      simp only [Act.put, List.setIfInBounds_toArray, List.set_cons_zero, List.set_cons_succ]
      refine wpAnyH_ready (rs := [9]) (by kernel_rfl) (by simp) ?_
      refine AllReadyH.cons (o := ⟨some 178, .buildSlice 26 1 #[(0, .tmp 177)], _, _, _, none⟩) rfl (fun K hK => ?_) AllReadyH.nil
      refine step_run rfl _ (exec_bslice X pst false _ rfl) ?_
      refine hK.out _ _ (World.rangeAt_alloc hHeld _) (fun hHeld => ?_)
      clear hK K
      simp only [Act.put, List.setIfInBounds_toArray, List.set_cons_zero, List.set_cons_succ]
      refine wpAnyH_ready (rs := [10]) (by kernel_rfl) (by simp) ?_
      refine AllReadyH.cons (o := ⟨some 179, .call { callee := .builtin .append, args := #[.tmp 173, .tmp 178], argTypes := #[26, 26] }, _, _, _, none⟩) rfl (fun K hK => ?_) AllReadyH.nil
      refine step_append_lies _ (by rfl) _ _ _ (by rfl) B 34 zm (.agg zeroM) 62 80 Tryd.underlying26 zi zz0 zz1 zz2 rfl (by decide) (.slice (some ⟨g, 0, none⟩) L1.length cap) L1.length (flatM L1) (by rfl) (unhide GA).row ⟨W3.drew.heap.size, 0, none⟩ 1 1 (memCells X pst false) (by rfl) (by rw [mem_len]) (unhide NW) (mem_one X pst false) (by omega) (by unfold maxLen; omega) (by omega) (unhide BA) _ rfl ?_
      intro g4 cap4 w4 hown4 hgrow4 hat4 _
      have R4 := range_far hHeld (hgrow4.block M (unhide ML) (unhide MG))
      obtain ⟨G5, B5, c4, f4⟩ := (unhide GA).appended (by omega) mn (by rw [unhide hmn]; exact hown4) hgrow4 hat4
      replace G5 := hide G5
      replace B5 := hide B5
      replace hown4 := hide hown4
      replace hgrow4 := hide hgrow4
      refine hK.out _ _ R4 (fun hHeld => ?_)
      clear hK K R4 hat4
      simp only [Act.put, List.setIfInBounds_toArray, List.set_cons_zero, List.set_cons_succ]
      refine wpAnyH_take (i := 11) (oi := ⟨some 180, .nilCheck (.tmp 169), _, _, _, none⟩) (v := .pointer (some ⟨gb, 0, none⟩)) rfl (by kernel_rfl) (by kernel_rfl) (by kernel_rfl) (fun _ _ _ h => h) (Or.inl ⟨by rfl, fun w' hS' => ?_⟩) hHeld ?_
      · go_simp
      simp only [Act.put, List.setIfInBounds_toArray, List.set_cons_zero, List.set_cons_succ]
      refine wpAnyH_take (i := 12) (oi := ⟨some 181, .fieldAddr 28 (.tmp 180) 0, _, _, _, none⟩) (v := .pointer (some ⟨gb, 0, none⟩)) rfl (by kernel_rfl) (by kernel_rfl) (by kernel_rfl) (fun _ _ _ h => h) (Or.inl ⟨by rfl, fun w' hS' => ?_⟩) hHeld ?_
      · go_simp
      simp only [Act.put, List.setIfInBounds_toArray, List.set_cons_zero, List.set_cons_succ]
      refine wpAnyH_ready (rs := [13]) (by kernel_rfl) (by simp) ?_
      refine AllReadyH.cons (o := ⟨none, .store 26 (.tmp 181) (.tmp 179), _, _, _, none⟩) rfl (fun K hK => ?_) AllReadyH.nil
      refine step_skip rfl (exec_store_row w4 ⟨gb, 0, none⟩ (some ⟨g4, 0, none⟩) (L1.length + 1) cap4 _ rfl rfl c4 (f4 0)) ?_
      refine hK.out _ _ (range_far hHeld (Below.heap_setCell _ _ _ M (unhide MGB))) (fun hHeld => ?_)
      clear hK K hHeld c4 f4
      simp only [Act.put]
      refine wpAnyH_done (by kernel_rfl) ?_ _
      generalize w4.setCell ⟨gb, 0, none⟩ (.slice (some ⟨g4, 0, none⟩) (L1.length + 1) cap4) = W5 at *
      go_wp2_with fail
      go_ret
      exact ⟨rfl, (unhide BA2).trans (unhide B5), _, _, _, unhide G5, unhide NEXT, by rw [List.length_append]; omega, by rw [List.length_append]; show _ + 1 ≤ 31; omega⟩
    refine AllReadyH.cons (o := ⟨some 178, .buildSlice 26 1 #[(0, .tmp 177)], _, _, _, none⟩) rfl (fun K hK => ?_) AllReadyH.nil
    · refine step_run rfl _ (exec_bslice X pst false _ rfl) ?_
      refine hK.out _ _ (World.rangeAt_alloc hHeld _) (fun hHeld => ?_)
      clear hK K
      simp only [Act.put, List.setIfInBounds_toArray, List.set_cons_zero, List.set_cons_succ]
      refine wpAnyH_ready (rs := [4]) (by kernel_rfl) (by simp) ?_
      refine AllReadyH.cons (o := ⟨some 173, .load 26 (.tmp 172), _, _, _, none⟩) rfl (fun K hK => ?_) AllReadyH.nil
      refine step_run rfl (.slice (some ⟨g, 0, none⟩) L1.length cap) (exec_load_row _ ⟨gb, 0, none⟩ _ rfl (unhide GA).cells.1) ?_
      refine hK.out _ _ hHeld (fun hHeld => ?_)
      clear hK K
      simp only [Act.put, List.setIfInBounds_toArray, List.set_cons_zero, List.set_cons_succ]
      refine wpAnyH_ready (rs := [10]) (by kernel_rfl) (by simp) ?_
      refine AllReadyH.cons (o := ⟨some 179, .call { callee := .builtin .append, args := #[.tmp 173, .tmp 178], argTypes := #[26, 26] }, _, _, _, none⟩) rfl (fun K hK => ?_) AllReadyH.nil
      refine step_append_lies _ (by rfl) _ _ _ (by rfl) B 34 zm (.agg zeroM) 62 80 Tryd.underlying26 zi zz0 zz1 zz2 rfl (by decide) (.slice (some ⟨g, 0, none⟩) L1.length cap) L1.length (flatM L1) (by rfl) (unhide GA).row ⟨W3.drew.heap.size, 0, none⟩ 1 1 (memCells X pst false) (by rfl) (by rw [mem_len]) (unhide NW) (mem_one X pst false) (by omega) (by unfold maxLen; omega) (by omega) (unhide BA) _ rfl ?_
      intro g4 cap4 w4 hown4 hgrow4 hat4 _
      have R4 := range_far hHeld (hgrow4.block M (unhide ML) (unhide MG))
      obtain ⟨G5, B5, c4, f4⟩ := (unhide GA).appended (by omega) mn (by rw [unhide hmn]; exact hown4) hgrow4 hat4
      replace G5 := hide G5
      replace B5 := hide B5
      replace hown4 := hide hown4
      replace hgrow4 := hide hgrow4
      refine hK.out _ _ R4 (fun hHeld => ?_)
      clear hK K R4 hat4
      simp only [Act.put, List.setIfInBounds_toArray, List.set_cons_zero, List.set_cons_succ]
      refine wpAnyH_take (i := 11) (oi := ⟨some 180, .nilCheck (.tmp 169), _, _, _, none⟩) (v := .pointer (some ⟨gb, 0, none⟩)) rfl (by kernel_rfl) (by kernel_rfl) (by kernel_rfl) (fun _ _ _ h => h) (Or.inl ⟨by rfl, fun w' hS' => ?_⟩) hHeld ?_
      · go_simp
      simp only [Act.put, List.setIfInBounds_toArray, List.set_cons_zero, List.set_cons_succ]
      refine wpAnyH_take (i := 12) (oi := ⟨some 181, .fieldAddr 28 (.tmp 180) 0, _, _, _, none⟩) (v := .pointer (some ⟨gb, 0, none⟩)) rfl (by kernel_rfl) (by kernel_rfl) (by kernel_rfl) (fun _ _ _ h => h) (Or.inl ⟨by rfl, fun w' hS' => ?_⟩) hHeld ?_
      · go_simp
      simp only [Act.put, List.setIfInBounds_toArray, List.set_cons_zero, List.set_cons_succ]
      refine wpAnyH_ready (rs := [13]) (by kernel_rfl) (by simp) ?_
      refine AllReadyH.cons (o := ⟨none, .store 26 (.tmp 181) (.tmp 179), _, _, _, none⟩) rfl (fun K hK => ?_) AllReadyH.nil
      refine step_skip rfl (exec_store_row w4 ⟨gb, 0, none⟩ (some ⟨g4, 0, none⟩) (L1.length + 1) cap4 _ rfl rfl c4 (f4 0)) ?_
      refine hK.out _ _ (range_far hHeld (Below.heap_setCell _ _ _ M (unhide MGB))) (fun hHeld => ?_)
      clear hK K hHeld c4 f4
      simp only [Act.put]
      refine wpAnyH_done (by kernel_rfl) ?_ _
      generalize w4.setCell ⟨gb, 0, none⟩ (.slice (some ⟨g4, 0, none⟩) (L1.length + 1) cap4) = W5 at *
      go_wp2_with fail
      go_ret
      exact ⟨rfl, (unhide BA2).trans (unhide B5), _, _, _, unhide G5, unhide NEXT, by rw [List.length_append]; omega, by rw [List.length_append]; show _ + 1 ≤ 31; omega⟩

end Go.Proofs.YtoebmfhgaalcdaaDoor
