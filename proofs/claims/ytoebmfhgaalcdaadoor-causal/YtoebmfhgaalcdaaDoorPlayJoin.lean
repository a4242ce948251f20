/-
  Our own. (*group).play: joins. (Laid by wip/mk/play3.py.)
-/
import Derived.Test.YtoebmfhgaalcdaaDoorGroupJ
namespace Go.Proofs.YtoebmfhgaalcdaaDoor
open Go.RowKit

set_option maxRecDepth 100000 in
set_option maxHeartbeats 4000000 in
theorem play_join_self (B gb : Nat) (w : World) (sv : Value) (L : List Mem) (d : Nat) (what a b : Int) (i k c : Nat) (m : Mem) (hL : L.length ≤ 31) (I : GInv L d) (G : Gr B gb w sv L d) (hB : B ≤ w.heap.size) (hm : L[i]? = some m) (hk : k = i)
    (PA : ∀ w, Calls Tryd.prog 16 #[.int .i64 a, .int .i64 (L.length : Int)] w fun e w' => e = .returned (.int .i64 (i : Int)) ∧ w' = w)
    (PB : ∀ w, Calls Tryd.prog 16 #[.int .i64 b, .int .i64 (L.length : Int)] w fun e w' => e = .returned (.int .i64 (k : Int)) ∧ w' = w)
    (PW : ∀ w, Calls Tryd.prog 16 #[.int .i64 what, .int .i64 8] w fun e w' => e = .returned (.int .i64 (c : Int)) ∧ w' = w) (hc : c = 6 ∨ c = 7) :
    Calls Tryd.prog 24 #[.pointer (some ⟨gb, 0, none⟩), .int .i64 what, .int .i64 a, .int .i64 b] w fun e w' => Played B gb w e w' := by
  have hil := get_lt hm
  obtain ⟨g, cap, rfl, hBg, hgl, hgg, hlc, hcm, hcell, hfz, hrange⟩ := G.form (by omega)
  obtain ⟨c0, c1, cf⟩ := G.cells
  have R := hide (hrange i m hm)
  have mi := hide Tryd.member62
  have hu := hide Tryd.underlying34
  have i0 : (0 : Int) ≤ (i : Int) := by omega
  have i1 : (i : Int) < (L.length : Int) := by omega
  rw [hk] at PB
  replace PB := hide PB
  clear hk
  have TK := hide (Took.enter (m := m) G zeroM rfl)
  replace PA := hide PA
  replace PW := hide PW
  replace I := hide I
  have HS := store_member_new m w
  have ML := mcells_len m
  have hBg2 := hBg
  clear hcell hrange hfz cf hcm hlc hBg G
  go_enter Tryd.func24, Tryd.ntmps24
  go_wp2_with fail
  refine (unhide PA _).mono ?_
  rintro o w1 ⟨rfl, hw1⟩
  rw [hw1]
  clear hw1 w1
  go_upto_region 3 with (refine wpList_load_mid rfl 34 _ rfl g (i * 62) rfl (mcells m) _ (unhide R) (unhide hu) rfl (by rw [mcells_len]; exact unhide mi) ?_)
  clear HS R mi hu ML c0 c1
  have MW : Hid (w.heap.size ≤ ((w.alloc (Obj.cells zeroM 34)).setCells w.heap.size 0 (mcells m)).heap.size) := hide (unhide TK).bel.size
  generalize (w.alloc (Obj.cells zeroM 34)).setCells w.heap.size 0 (mcells m) = W at *
  obtain ⟨m0, m61⟩ := (unhide TK).cells
  obtain ⟨c0, c1, cf⟩ := (unhide TK).gr.cells
  generalize hM : w.heap.size = M at *
  replace hM := hide hM
  go_wp2_with fail
  refine (unhide PW _).mono ?_
  rintro o w1 ⟨rfl, hw1⟩
  rw [hw1]
  clear hw1 w1
  generalize tx m.id m.ev = S at *
  rcases hc with rfl | rfl
  all_goals
    go_wp2_with fail
    refine (unhide PB _).mono ?_
    rintro o w1 ⟨rfl, hw1⟩
    rw [hw1]
    clear hw1 w1
    go_wp2_with fail
    go_ret
    refine ⟨rfl, ?_, _, L, d, (unhide TK).gr, unhide I, by omega, hL⟩
    rw [← unhide hM] at hB
    exact (unhide TK).bel.mono (by rw [← unhide hM]; exact hB)

set_option maxRecDepth 100000 in
set_option maxHeartbeats 4000000 in
theorem play_join (B gb : Nat) (w : World) (sv : Value) (L : List Mem) (d : Nat) (what a b : Int) (i k c : Nat) (m : Mem) (hL : L.length ≤ 31) (I : GInv L d) (G : Gr B gb w sv L d) (hB : B ≤ w.heap.size) (hm : L[i]? = some m) (m2 : Mem) (hk : L[k]? = some m2) (hki : i ≠ k) (T : Tab w)
    (PA : ∀ w, Calls Tryd.prog 16 #[.int .i64 a, .int .i64 (L.length : Int)] w fun e w' => e = .returned (.int .i64 (i : Int)) ∧ w' = w)
    (PB : ∀ w, Calls Tryd.prog 16 #[.int .i64 b, .int .i64 (L.length : Int)] w fun e w' => e = .returned (.int .i64 (k : Int)) ∧ w' = w)
    (PW : ∀ w, Calls Tryd.prog 16 #[.int .i64 what, .int .i64 8] w fun e w' => e = .returned (.int .i64 (c : Int)) ∧ w' = w) (hc : c = 6 ∨ c = 7) :
    Calls Tryd.prog 24 #[.pointer (some ⟨gb, 0, none⟩), .int .i64 what, .int .i64 a, .int .i64 b] w fun e w' => Played B gb w e w' := by
  have hil := get_lt hm
  obtain ⟨g, cap, rfl, hBg, hgl, hgg, hlc, hcm, hcell, hfz, hrange⟩ := G.form (by omega)
  obtain ⟨c0, c1, cf⟩ := G.cells
  have R := hide (hrange i m hm)
  have mi := hide Tryd.member62
  have hu := hide Tryd.underlying34
  have i0 : (0 : Int) ≤ (i : Int) := by omega
  have i1 : (i : Int) < (L.length : Int) := by omega
  replace PB := hide PB
  have JN := hide (join_T (I.pt i m hm) (I.pt k m2 hk) (I.free hm hk hki))
  have NEXT := hide (I.joined hm hk hki)
  have hkl := get_lt hk
  have k0 : (0 : Int) ≤ (k : Int) := by omega
  have k1 : (k : Int) < (L.length : Int) := by omega
  have kne : ((k : Int) == (i : Int)) = false := beq_eq_false_iff_ne.2 (by omega)
  replace T := hide T
  have TK := hide (Took.enter (m := m) G zeroM rfl)
  replace PA := hide PA
  replace PW := hide PW
  replace I := hide I
  have HS := store_member_new m w
  have ML := mcells_len m
  have hBg2 := hBg
  clear hcell hrange hfz cf hcm hlc hBg G
  go_enter Tryd.func24, Tryd.ntmps24
  go_wp2_with fail
  refine (unhide PA _).mono ?_
  rintro o w1 ⟨rfl, hw1⟩
  rw [hw1]
  clear hw1 w1
  go_upto_region 3 with (refine wpList_load_mid rfl 34 _ rfl g (i * 62) rfl (mcells m) _ (unhide R) (unhide hu) rfl (by rw [mcells_len]; exact unhide mi) ?_)
  clear HS R mi hu ML c0 c1
  have MW : Hid (w.heap.size ≤ ((w.alloc (Obj.cells zeroM 34)).setCells w.heap.size 0 (mcells m)).heap.size) := hide (unhide TK).bel.size
  generalize (w.alloc (Obj.cells zeroM 34)).setCells w.heap.size 0 (mcells m) = W at *
  obtain ⟨m0, m61⟩ := (unhide TK).cells
  obtain ⟨c0, c1, cf⟩ := (unhide TK).gr.cells
  generalize hM : w.heap.size = M at *
  replace hM := hide hM
  go_wp2_with fail
  refine (unhide PW _).mono ?_
  rintro o w1 ⟨rfl, hw1⟩
  rw [hw1]
  clear hw1 w1
  have n0 := (unhide TK).other hk 0 _ (mcells_at m2).1
  rw [Nat.add_zero] at n0
  have hS := (mcells_at m).1
  generalize tx m.id m.ev = S at *
  generalize tx m2.id m2.ev = S2 at *
  generalize hX : tx (orB m.id m2.id) (maxT m.ev m2.ev) = X at *
  have c0d := c0
  have m0d := m0
  have n0d := n0
  go_wp2_with fail
  refine (unhide PB _).mono ?_
  rintro o w1 ⟨rfl, hw1⟩
  rw [hw1]
  clear hw1 w1 PB PA PW
  go_wp2_with fail
  go_region_held3 (fun w' => w'.cell? ⟨M, 0, none⟩ = some (.string S) ∧ w'.cell? ⟨gb, 0, none⟩ = some (.slice (some ⟨g, 0, none⟩) L.length cap) ∧ w'.cell? ⟨g, k * 62, none⟩ = some (.string S2))
    (refine ⟨?_, ?_, ?_⟩ <;> (repeat first | assumption | refine cell_drew_keep ?_))
    (first
      | (go_at_call 13; refine (unhide JN _ (((unhide T).below (by rw [unhide hM]; exact (unhide TK).bel)).below (below_drew _))).mono ?_; rintro o w2 ⟨rfl, b2⟩; have m0c := cell_keep (below_trans (below_drew _) b2) m0; have c0c := cell_keep (below_trans (below_drew _) b2) c0; have n0c := cell_keep (below_trans (below_drew _) b2) n0))
  all_goals
    have TK2 := (unhide TK).keep (unhide MW) (below_trans (below_drew _) b2)
    replace TK2 := hide TK2
    clear b2 m0c c0c n0c m0 m61 c0 c1 cf n0 m0d c0d n0d TK MW JN
    have il : (i : Int) < (L.length : Int) := by omega
    go_wp2_with fail
    go_loopg [21] 60 (fun q x wr => ∃ j : Nat, j + q = 60 ∧ x = .int .i64 (j : Nat) ∧ Took B gb M w wr (.slice (some ⟨g, 0, none⟩) L.length cap) L d ⟨m.id, m.ev, orTo m.past m2.past j, m.peek⟩)
    case atStart => exact ⟨0, rfl, rfl, by rw [orTo_zero]; exact unhide TK2⟩
    case round =>
      obtain ⟨j, hj, rfl, ht⟩ := hrel
      clear TK2
      by_cases hlt : j < 60
      · have cM := ht.own (1 + j) (.bool (m.past j)) (by rw [(mcells_at ⟨m.id, m.ev, orTo m.past m2.past j, m.peek⟩).2.2 j hlt]; show some (Value.bool (orTo m.past m2.past j j)) = _; rw [orTo_here])
        have fM := ht.open (1 + j) (by omega)
        have cG := ht.gr.cells.1
        have cN := ht.other hk (1 + j) _ ((mcells_at m2).2.2 j hlt)
        rw [← Nat.add_assoc] at cN
        have TN := ht.set hgl (1 + j) (by omega) (.bool (m.past j || m2.past j)) (mcells_orTo m m2.past j hlt)
        replace TN := hide TN
        replace ht := hide ht
        have j0 : (0 : Int) ≤ (j : Int) := by omega
        have j1 : (j : Int) < 60 := by omega
        have HJ := hide hj
        clear hj
        generalize hpj : m.past j = pj at *
        generalize hqj : m2.past j = qj at *
        replace hpj := hide hpj
        replace hqj := hide hqj
        cases pj
        · rw [Bool.false_or] at TN
          go_wp2_with fail
          go_roundg (gk - 1)
          case measure => have := unhide HJ; omega
          case rel => exact ⟨j + 1, by have := unhide HJ; omega, by go_num, unhide TN⟩
        · rw [Bool.true_or] at TN
          go_wp2_with fail
          go_roundg (gk - 1)
          case measure => have := unhide HJ; omega
          case rel => exact ⟨j + 1, by have := unhide HJ; omega, by go_num, unhide TN⟩
      · have hj60 : j = 60 := by omega
        subst hj60
        clear hj hlt
        have cM := ht.own 0 _ (mcells_at _).1
        have fM := ht.open 0 (by omega)
        have T2 := ht.set (m' := ⟨orB m.id m2.id, maxT m.ev m2.ev, orTo m.past m2.past 60, m.peek⟩) hgl 0 (by omega) (.string X) (by rw [← hX]; rfl)
        have q1 : ¬ M = gb := by have := ht.gl; omega
        have q2 : ¬ gb = M := by omega
        have q3 : ¬ M = g := by omega
        have q4 : ¬ g = M := by omega
        have c61 := ht.own 61 _ (mcells_at _).2.1
        have f61 := ht.open 61 (by omega)
        have cG := ht.gr.cells.1
        have n61 := ht.other hk 61 _ (mcells_at m2).2.1
        have T3 := T2.set (m' := ⟨orB m.id m2.id, maxT m.ev m2.ev, orTo m.past m2.past 60, m.peek && m2.peek⟩) hgl 61 (by omega) (.bool (m.peek && m2.peek)) (mcells_peek _ _ _ _ _)
        have T4 := hide (T3.congr (m' := joined m m2) (mcells_or _ _ _ _ _).symm)
        replace ht := hide ht
        replace hX := hide hX
        clear T2 T3
        generalize hVs : tx m.id m.ev = Sx at cM
        replace hVs := hide hVs
        generalize hpp : m.peek = pp at *
        generalize hqq : m2.peek = qq at *
        replace hpp := hide hpp
        replace hqq := hide hqq
        obtain ⟨jm, hjm⟩ : ∃ jm, jm = joined m m2 := ⟨_, rfl⟩
        rw [← hjm] at T4 NEXT
        clear hjm
        obtain ⟨zm, zi, zz0, zz1, zz2⟩ := info_parts Tryd.infoMember
        cases pp
        all_goals
          simp only [Bool.false_and, Bool.true_and] at T4
          go_wp2_with fail
          clear c61 f61 n61 cM fM q1 q2 q3 q4
          generalize World.setCell _ ⟨M, 61, none⟩ _ = W6 at *
          have cG6 := (unhide T4).gr.cells.1
          have RM := hide (unhide T4).rng
          have ML6 : Hid (g < M) := hide hgl
          refine wp_region_held_drew (S := fun w' => w'.cell? ⟨gb, 0, none⟩ = some (.slice (some ⟨g, 0, none⟩) L.length cap) ∧ w'.rangeAt M 0 (mcells jm)) (by kernel_rfl) ⟨cG6, unhide RM⟩ (fun hHeld => ?_)
          refine wpAnyH_take (i := 0) (oi := ⟨some 103, .move (.tmp 0), _, _, _, none⟩) (v := .pointer (some ⟨gb, 0, none⟩)) rfl (by kernel_rfl) (by kernel_rfl) (by kernel_rfl) (fun _ _ _ h => h) (Or.inl ⟨by rfl, fun w' hS' => ?_⟩) hHeld ?_
          · go_simp
          simp only [Act.put, List.setIfInBounds_toArray, List.set_cons_zero, List.set_cons_succ]
          refine wpAnyH_take (i := 1) (oi := ⟨some 104, .nilCheck (.tmp 103), _, _, _, none⟩) (v := .pointer (some ⟨gb, 0, none⟩)) rfl (by kernel_rfl) (by kernel_rfl) (by kernel_rfl) (fun _ _ _ h => h) (Or.inl ⟨by rfl, fun w' hS' => ?_⟩) hHeld ?_
          · go_simp
          simp only [Act.put, List.setIfInBounds_toArray, List.set_cons_zero, List.set_cons_succ]
          refine wpAnyH_take (i := 2) (oi := ⟨some 105, .fieldAddr 28 (.tmp 104) 0, _, _, _, none⟩) (v := .pointer (some ⟨gb, 0, none⟩)) rfl (by kernel_rfl) (by kernel_rfl) (by kernel_rfl) (fun _ _ _ h => h) (Or.inl ⟨by rfl, fun w' hS' => ?_⟩) hHeld ?_
          · go_simp
          simp only [Act.put, List.setIfInBounds_toArray, List.set_cons_zero, List.set_cons_succ]
          refine wpAnyH_take (i := 3) (oi := ⟨some 106, .load 26 (.tmp 105), _, _, _, none⟩) (v := .slice (some ⟨g, 0, none⟩) L.length cap) rfl (by kernel_rfl) (by kernel_rfl) (by kernel_rfl) (fun _ _ _ h => h) (Or.inl ⟨by rfl, fun w' hS' => ?_⟩) hHeld ?_
          · exact exec_load_row w' ⟨gb, 0, none⟩ _ rfl hS'.1
          simp only [Act.put, List.setIfInBounds_toArray, List.set_cons_zero, List.set_cons_succ]
          refine wpAnyH_take (i := 4) (oi := ⟨some 107, .move (.tmp 9), _, _, _, none⟩) (v := .int .i64 (i : Int)) rfl (by kernel_rfl) (by kernel_rfl) (by kernel_rfl) (fun _ _ _ h => h) (Or.inl ⟨by rfl, fun w' hS' => ?_⟩) hHeld ?_
          · go_simp
          simp only [Act.put, List.setIfInBounds_toArray, List.set_cons_zero, List.set_cons_succ]
          refine wpAnyH_take (i := 5) (oi := ⟨some 108, .load 34 (.tmp 10), _, _, _, none⟩) (v := .agg (mcells jm).toArray) rfl (by kernel_rfl) (by kernel_rfl) (by kernel_rfl) (fun _ _ _ h => h) (yieldsIf_load_mid (by rfl) 34 (.tmp 10) rfl M 0 rfl (mcells jm) _ (fun _ h => h.2) Tryd.underlying34 rfl (by rw [mcells_len]; exact Tryd.member62)) hHeld ?_
          simp only [Act.put, List.setIfInBounds_toArray, List.set_cons_zero, List.set_cons_succ]
          refine wpAnyH_take (i := 6) (oi := ⟨some 109, .indexAddr 26 (.tmp 106) (.tmp 107), _, _, _, none⟩) (v := .pointer (some ⟨g, i * 62, none⟩)) rfl (by kernel_rfl) (by kernel_rfl) (by kernel_rfl) (fun _ _ _ h => h) (Or.inl ⟨by rfl, fun w' hS' => ?_⟩) hHeld ?_
          · go_simp
          simp only [Act.put, List.setIfInBounds_toArray, List.set_cons_zero, List.set_cons_succ]
          refine wpAnyH_ready (rs := [7]) (by kernel_rfl) (by simp) ?_
          refine AllReadyH.cons (o := ⟨none, .store 34 (.tmp 109) (.tmp 108), _, _, _, none⟩) rfl (fun K hK => ?_) AllReadyH.nil
          refine step_skip rfl (exec_store_member W6.drew g (i * 62) jm rfl rfl ((unhide T4).gr.there hm)) ?_
          refine hK.out _ _ ⟨(cell_of_block (heap_setCells g gb (fun e => hgg e.symm) _ _ _)).trans cG6, range_far hHeld.2 (heap_setCells g M (by omega) _ _ _)⟩ (fun hHeld => ?_)
          clear hK K
          simp only [Act.put]
          refine wpAnyH_done (by kernel_rfl) ?_ _
          obtain ⟨G7, B7⟩ := ((unhide T4).gr.keep (below_drew W6)).setMember hm jm
          have B7a := hide ((((unhide T4).bel.mono hB).trans ((below_drew W6).mono (by have := (unhide T4).bel.size; rw [unhide hM] at this; omega))).trans B7)
          clear hHeld cG6 RM B7
          generalize W6.drew.setCells g (i * 62) (mcells jm) = W7 at *
          obtain ⟨L6, hL6⟩ : ∃ L6, L6 = L.set i jm := ⟨_, rfl⟩
          have hl6 : L6.length = L.length := by rw [hL6, List.length_set]
          have hk6 : L6[k]? = some m2 := by rw [hL6]; exact set_far hk (fun e => hki e.symm)
          rw [← hL6] at G7 NEXT
          clear hL6
          obtain ⟨hlc, hcm⟩ : L.length ≤ cap ∧ cap ≤ maxLen := by
            obtain ⟨_, cap', e9, _, _, _, h1, h2, _, _, _⟩ := G7.form (by omega)
            simp only [Value.slice.injEq, Option.some.injEq, Addr.mk.injEq] at e9
            obtain ⟨_, _, rfl⟩ := e9
            exact ⟨by omega, h2⟩
          unfold maxLen at hcm
          have R7 := G7.row
          have NW1 : ∀ j u, ((flatM L6).take (k * 62))[j]? = some u → W7.cell? ((⟨g, 0, none⟩ : Addr).add j) = some u := fun j u hj => World.ownsRow.cells R7 rfl j u (by rw [List.getElem?_take] at hj; split at hj; exact hj; cases hj)
          have NL1 : ((flatM L6).take (k * 62)).length = k * 62 := by rw [List.length_take, flatM_len]; omega
          have NO := flatM_one L6
          have szB : B ≤ W7.heap.size := by have := (unhide B7a).size; rw [unhide hM] at this; omega
          have k2 : (k : Int) ≤ (cap : Int) := by omega
          have k3 : (k : Int) + 1 ≤ (L.length : Int) := by omega
          have k4 : (L.length : Int) ≤ (cap : Int) := by omega
          have C7 := G7.cells.1
          have X7 := hide G7.box
          replace G7 := hide G7
          replace R7 := hide R7
          replace NW1 := hide NW1
          replace NL1 := hide NL1
          replace NO := hide NO
          replace szB := hide szB
          clear hcm T4 hX cG
          by_cases hcap : cap = k + 1
          · have hLk : L.length = k + 1 := by omega
            have NL2 : ((flatM L6).drop ((k + 1) * 62)).length = 0 * 62 := by rw [List.length_drop, flatM_len, hl6]; omega
            have NWF : ∀ w7, W7.grownBy w7 none → ∀ j u, ((flatM L6).drop ((k + 1) * 62))[j]? = some u → w7.cell? ((⟨g, 0, none⟩ : Addr).add j) = some u := fun w7 _ j u hj => by
              have : (flatM L6).drop ((k + 1) * 62) = [] := List.drop_eq_nil_of_le (by rw [flatM_len, hl6]; omega)
              rw [this] at hj; cases hj
            replace NL2 := hide NL2
            replace NWF := hide NWF
            subst hcap
            go_wp2_with (first
              | (at_builtin; refine wpList_append_own _ rfl _ _ 26 rfl B 34 zm (.agg zeroM) 62 80 Tryd.underlying26 zi zz0 zz1 zz2 rfl (by decide) (.slice none 0 0) 0 [] rfl (World.ownsRow_nil _ _ _ _) ⟨g, 0, none⟩ k (k + 1) ((flatM L6).take (k * 62)) rfl (unhide NL1) (unhide NW1) (fun u hu => unhide NO u (List.mem_of_mem_take hu)) (by unfold maxLen; omega) (by omega) (unhide szB) ?_; intro v7 w7 hown7 hgrow7 hnil7; clear hnil7; replace hown7 := hide hown7; have X8 := hide ((hgrow7.block gb (lt_of_heap (unhide X7)) (by intro e; cases e)).trans (unhide X7)); have C8 := (cells2 (unhide X8)).1; replace hgrow7 := hide hgrow7; have NW2 := hide (unhide NWF w7 (unhide hgrow7)); have szC := hide (Nat.le_trans (unhide szB) (unhide hgrow7).size); clear C7)
              | (at_builtin; refine wpList_append_own _ rfl _ _ 26 rfl B 34 zm (.agg zeroM) 62 80 Tryd.underlying26 zi zz0 zz1 zz2 rfl (by decide) v7 _ _ rfl (unhide hown7) ⟨g, 0, none⟩ (0) (0) ((flatM L6).drop ((k + 1) * 62)) rfl (unhide NL2) (unhide NW2) (fun u hu => unhide NO u (List.mem_of_mem_drop hu)) (by unfold maxLen; omega) (by omega) (unhide szC) ?_; intro v8 w8 hown8 hgrow8 hnil8; clear hnil8; obtain ⟨g8, cap8, rfl, _, _⟩ := World.ownsRow.form hown8 (by omega); generalize hn8 : 0 + k + (0) = n8 at hown8 ⊢; replace hn8 := hide hn8; have X9 := hide ((hgrow8.block gb (lt_of_heap (unhide X8)) (own_ne (unhide X8) (unhide hown7))).trans (unhide X8)); obtain ⟨C9, _, F9⟩ := cells2 (unhide X9); replace hown8 := hide hown8; replace hgrow8 := hide hgrow8; clear C8))
            go_ret
            have ho : w8.ownsRow B 34 62 (.slice (some ⟨g8, 0, none⟩) n8 cap8) (L6.eraseIdx k).length (flatM (L6.eraseIdx k)) := by
              have h := unhide hown8
              rw [flatM_erase L6 k m2 hk6]
              have e : n8 = (L6.eraseIdx k).length := by rw [← unhide hn8, List.length_eraseIdx, if_pos (by omega)]; omega
              rw [← e]
              exact h
            have B7b : Below B W7 w7 := ⟨(unhide hgrow7).os, (unhide hgrow7).tape, (unhide hgrow7).output, (unhide hgrow7).size, fun q hq => (unhide hgrow7).block q (by have := unhide szB; omega) (by intro e; cases e)⟩
            have B8b := own_from (unhide hown7) (unhide szC) (unhide hgrow8)
            refine ⟨rfl, (((unhide B7a).trans B7b).trans B8b).trans (below_set1 w8 (unhide G7).base _ 0), _, _, _, Gr.replaced (unhide X9) (unhide G7).base ho, unhide NEXT, ?_, ?_⟩
            · rw [List.length_eraseIdx, if_pos (by omega)]; omega
            · rw [List.length_eraseIdx, if_pos (by omega)]; omega
          · have NL2 : ((flatM L6).drop ((k + 1) * 62)).length = (L.length - (k + 1)) * 62 := by rw [List.length_drop, flatM_len, hl6]; omega
            have NWF : ∀ w7, W7.grownBy w7 none → ∀ j u, ((flatM L6).drop ((k + 1) * 62))[j]? = some u → w7.cell? ((⟨g, (k + 1) * 62, none⟩ : Addr).add j) = some u := fun w7 hg j u hj => by
              rw [List.getElem?_drop] at hj
              have := World.ownsRow.cells (unhide R7) rfl ((k + 1) * 62 + j) u hj
              rw [Go.WideShapes.add_plain] at this ⊢
              rw [Nat.zero_add] at this
              exact hg.cell this (by simp)
            have hcap2 : ¬ cap - (k + 1) = 0 := by omega
            have hcap3 : ¬ (cap : Int) = (k : Int) + 1 := by omega
            replace NL2 := hide NL2
            replace NWF := hide NWF
            go_wp2_with (first
              | (at_builtin; refine wpList_append_own _ rfl _ _ 26 rfl B 34 zm (.agg zeroM) 62 80 Tryd.underlying26 zi zz0 zz1 zz2 rfl (by decide) (.slice none 0 0) 0 [] rfl (World.ownsRow_nil _ _ _ _) ⟨g, 0, none⟩ k cap ((flatM L6).take (k * 62)) rfl (unhide NL1) (unhide NW1) (fun u hu => unhide NO u (List.mem_of_mem_take hu)) (by unfold maxLen; omega) (by omega) (unhide szB) ?_; intro v7 w7 hown7 hgrow7 hnil7; clear hnil7; replace hown7 := hide hown7; have X8 := hide ((hgrow7.block gb (lt_of_heap (unhide X7)) (by intro e; cases e)).trans (unhide X7)); have C8 := (cells2 (unhide X8)).1; replace hgrow7 := hide hgrow7; have NW2 := hide (unhide NWF w7 (unhide hgrow7)); have szC := hide (Nat.le_trans (unhide szB) (unhide hgrow7).size); clear C7)
              | (at_builtin; refine wpList_append_own _ rfl _ _ 26 rfl B 34 zm (.agg zeroM) 62 80 Tryd.underlying26 zi zz0 zz1 zz2 rfl (by decide) v7 _ _ rfl (unhide hown7) ⟨g, (k + 1) * 62, none⟩ (L.length - (k + 1)) (cap - (k + 1)) ((flatM L6).drop ((k + 1) * 62)) rfl (unhide NL2) (unhide NW2) (fun u hu => unhide NO u (List.mem_of_mem_drop hu)) (by unfold maxLen; omega) (by omega) (unhide szC) ?_; intro v8 w8 hown8 hgrow8 hnil8; clear hnil8; obtain ⟨g8, cap8, rfl, _, _⟩ := World.ownsRow.form hown8 (by omega); generalize hn8 : 0 + k + (L.length - (k + 1)) = n8 at hown8 ⊢; replace hn8 := hide hn8; have X9 := hide ((hgrow8.block gb (lt_of_heap (unhide X8)) (own_ne (unhide X8) (unhide hown7))).trans (unhide X8)); obtain ⟨C9, _, F9⟩ := cells2 (unhide X9); replace hown8 := hide hown8; replace hgrow8 := hide hgrow8; clear C8))
            go_ret
            have ho : w8.ownsRow B 34 62 (.slice (some ⟨g8, 0, none⟩) n8 cap8) (L6.eraseIdx k).length (flatM (L6.eraseIdx k)) := by
              have h := unhide hown8
              rw [flatM_erase L6 k m2 hk6]
              have e : n8 = (L6.eraseIdx k).length := by rw [← unhide hn8, List.length_eraseIdx, if_pos (by omega)]; omega
              rw [← e]
              exact h
            have B7b : Below B W7 w7 := ⟨(unhide hgrow7).os, (unhide hgrow7).tape, (unhide hgrow7).output, (unhide hgrow7).size, fun q hq => (unhide hgrow7).block q (by have := unhide szB; omega) (by intro e; cases e)⟩
            have B8b := own_from (unhide hown7) (unhide szC) (unhide hgrow8)
            refine ⟨rfl, (((unhide B7a).trans B7b).trans B8b).trans (below_set1 w8 (unhide G7).base _ 0), _, _, _, Gr.replaced (unhide X9) (unhide G7).base ho, unhide NEXT, ?_, ?_⟩
            · rw [List.length_eraseIdx, if_pos (by omega)]; omega
            · rw [List.length_eraseIdx, if_pos (by omega)]; omega

end Go.Proofs.YtoebmfhgaalcdaaDoor
