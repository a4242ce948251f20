/-
  Our own. (*group).play: forks of which nothing comes. (Laid by wip/mk/play2.py.)
-/
import Derived.Test.YtoebmfhgaalcdaaDoorGroupR
namespace Go.Proofs.YtoebmfhgaalcdaaDoor
open Go.RowKit

set_option maxRecDepth 100000 in
set_option maxHeartbeats 4000000 in
theorem play_fork_none (B gb : Nat) (w : World) (sv : Value) (L : List Mem) (d : Nat) (what a b : Int) (i c : Nat) (m : Mem) (hL : L.length ≤ 31) (I : GInv L d) (G : Gr B gb w sv L d) (hB : B ≤ w.heap.size) (hm : L[i]? = some m) (hpk : m.peek = true)
    (PA : ∀ w, Calls Tryd.prog 16 #[.int .i64 a, .int .i64 (L.length : Int)] w fun e w' => e = .returned (.int .i64 (i : Int)) ∧ w' = w)
    (PW : ∀ w, Calls Tryd.prog 16 #[.int .i64 what, .int .i64 8] w fun e w' => e = .returned (.int .i64 (c : Int)) ∧ w' = w) (hc : c = 0 ∨ c = 1) :
    Calls Tryd.prog 24 #[.pointer (some ⟨gb, 0, none⟩), .int .i64 what, .int .i64 a, .int .i64 b] w fun e w' => Played B gb w e w' := by
  have hil := get_lt hm
  obtain ⟨g, cap, rfl, hBg, hgl, hgg, hlc, hcm, hcell, hfz, hrange⟩ := G.form (by omega)
  obtain ⟨c0, c1, cf⟩ := G.cells
  have R := hide (hrange i m hm)
  have mi := hide Tryd.member62
  have hu := hide Tryd.underlying34
  have i0 : (0 : Int) ≤ (i : Int) := by omega
  have i1 : (i : Int) < (L.length : Int) := by omega
  have hs0 := (I.share hm).2 hpk
  have FK := few_T (I.pt i m hm) (by omega)
  rw [hs0] at FK
  replace FK := hide FK
  clear hs0
  have TK := hide (Took.enter (m := m) G zeroM rfl)
  replace PA := hide PA
  replace PW := hide PW
  replace I := hide I
  have HS := store_member_new m w
  have ML := mcells_len m
  have hBg2 := hBg
  clear hcell hrange hfz cf hcm hlc hBg G
  go_enter Tryd.func24, Tryd.ntmps24
  go_wp2_with fail
  refine (unhide PA _).mono ?_
  rintro o w1 ⟨rfl, hw1⟩
  rw [hw1]
  clear hw1 w1
  go_upto_region 3 with (refine wpList_load_mid rfl 34 _ rfl g (i * 62) rfl (mcells m) _ (unhide R) (unhide hu) rfl (by rw [mcells_len]; exact unhide mi) ?_)
  clear HS R mi hu ML c0 c1
  have MW : Hid (w.heap.size ≤ ((w.alloc (Obj.cells zeroM 34)).setCells w.heap.size 0 (mcells m)).heap.size) := hide (unhide TK).bel.size
  generalize (w.alloc (Obj.cells zeroM 34)).setCells w.heap.size 0 (mcells m) = W at *
  obtain ⟨m0, m61⟩ := (unhide TK).cells
  obtain ⟨c0, c1, cf⟩ := (unhide TK).gr.cells
  generalize hM : w.heap.size = M at *
  replace hM := hide hM
  go_wp2_with fail
  refine (unhide PW _).mono ?_
  rintro o w1 ⟨rfl, hw1⟩
  rw [hw1]
  clear hw1 w1
  rw [hpk] at m61
  generalize tx m.id m.ev = S at *
  rcases hc with rfl | rfl
  all_goals
    go_wp2_with fail
    refine (unhide FK _).mono ?_
    rintro o w2 ⟨rfl, b2⟩
    have TK2 := (unhide TK).keep (unhide MW) b2
    have m61b := cell_keep b2 m61
    have c0b := cell_keep b2 c0
    replace TK2 := hide TK2
    clear b2
    go_wp2_with fail
    go_ret
    refine ⟨rfl, ?_, _, L, d, (unhide TK2).gr, unhide I, by omega, hL⟩
    exact (unhide TK2).bel.mono hB

set_option maxRecDepth 100000 in
set_option maxHeartbeats 4000000 in
theorem play_fork_one (B gb : Nat) (w : World) (sv : Value) (L : List Mem) (d : Nat) (what a b : Int) (i c : Nat) (m : Mem) (hL : L.length ≤ 31) (I : GInv L d) (G : Gr B gb w sv L d) (hB : B ≤ w.heap.size) (hm : L[i]? = some m) (hpk : m.peek = false) (hs1 : shareP m.id 256 = 1)
    (PA : ∀ w, Calls Tryd.prog 16 #[.int .i64 a, .int .i64 (L.length : Int)] w fun e w' => e = .returned (.int .i64 (i : Int)) ∧ w' = w)
    (PW : ∀ w, Calls Tryd.prog 16 #[.int .i64 what, .int .i64 8] w fun e w' => e = .returned (.int .i64 (c : Int)) ∧ w' = w) (hc : c = 0 ∨ c = 1) :
    Calls Tryd.prog 24 #[.pointer (some ⟨gb, 0, none⟩), .int .i64 what, .int .i64 a, .int .i64 b] w fun e w' => Played B gb w e w' := by
  have hil := get_lt hm
  obtain ⟨g, cap, rfl, hBg, hgl, hgg, hlc, hcm, hcell, hfz, hrange⟩ := G.form (by omega)
  obtain ⟨c0, c1, cf⟩ := G.cells
  have R := hide (hrange i m hm)
  have mi := hide Tryd.member62
  have hu := hide Tryd.underlying34
  have i0 : (0 : Int) ≤ (i : Int) := by omega
  have i1 : (i : Int) < (L.length : Int) := by omega
  have FK := few_T (I.pt i m hm) (by omega)
  rw [hs1] at FK
  replace FK := hide FK
  clear hs1
  have TK := hide (Took.enter (m := m) G zeroM rfl)
  replace PA := hide PA
  replace PW := hide PW
  replace I := hide I
  have HS := store_member_new m w
  have ML := mcells_len m
  have hBg2 := hBg
  clear hcell hrange hfz cf hcm hlc hBg G
  go_enter Tryd.func24, Tryd.ntmps24
  go_wp2_with fail
  refine (unhide PA _).mono ?_
  rintro o w1 ⟨rfl, hw1⟩
  rw [hw1]
  clear hw1 w1
  go_upto_region 3 with (refine wpList_load_mid rfl 34 _ rfl g (i * 62) rfl (mcells m) _ (unhide R) (unhide hu) rfl (by rw [mcells_len]; exact unhide mi) ?_)
  clear HS R mi hu ML c0 c1
  have MW : Hid (w.heap.size ≤ ((w.alloc (Obj.cells zeroM 34)).setCells w.heap.size 0 (mcells m)).heap.size) := hide (unhide TK).bel.size
  generalize (w.alloc (Obj.cells zeroM 34)).setCells w.heap.size 0 (mcells m) = W at *
  obtain ⟨m0, m61⟩ := (unhide TK).cells
  obtain ⟨c0, c1, cf⟩ := (unhide TK).gr.cells
  generalize hM : w.heap.size = M at *
  replace hM := hide hM
  go_wp2_with fail
  refine (unhide PW _).mono ?_
  rintro o w1 ⟨rfl, hw1⟩
  rw [hw1]
  clear hw1 w1
  rw [hpk] at m61
  generalize tx m.id m.ev = S at *
  by_cases h31 : (30 : Int) < (L.length : Int)
  · rcases hc with rfl | rfl
    all_goals
      go_wp2_with fail
      refine (unhide FK _).mono ?_
      rintro o w2 ⟨rfl, b2⟩
      have TK2 := (unhide TK).keep (unhide MW) b2
      have m61b := cell_keep b2 m61
      have c0b := cell_keep b2 c0
      replace TK2 := hide TK2
      clear b2
      go_wp2_with fail
      go_ret
      refine ⟨rfl, ?_, _, L, d, (unhide TK2).gr, unhide I, by omega, hL⟩
      exact (unhide TK2).bel.mono hB
  · rcases hc with rfl | rfl
    all_goals
      go_wp2_with fail
      refine (unhide FK _).mono ?_
      rintro o w2 ⟨rfl, b2⟩
      have TK2 := (unhide TK).keep (unhide MW) b2
      have m61b := cell_keep b2 m61
      have c0b := cell_keep b2 c0
      replace TK2 := hide TK2
      clear b2
      go_wp2_with fail
      go_ret
      refine ⟨rfl, ?_, _, L, d, (unhide TK2).gr, unhide I, by omega, hL⟩
      exact (unhide TK2).bel.mono hB

set_option maxRecDepth 100000 in
set_option maxHeartbeats 4000000 in
theorem play_fork_many (B gb : Nat) (w : World) (sv : Value) (L : List Mem) (d : Nat) (what a b : Int) (i c : Nat) (m : Mem) (hL : L.length ≤ 31) (I : GInv L d) (G : Gr B gb w sv L d) (hB : B ≤ w.heap.size) (hm : L[i]? = some m) (hpk : m.peek = false) (hs2 : 2 ≤ shareP m.id 256) (h30 : 30 < L.length) (T : Tab w)
    (PA : ∀ w, Calls Tryd.prog 16 #[.int .i64 a, .int .i64 (L.length : Int)] w fun e w' => e = .returned (.int .i64 (i : Int)) ∧ w' = w)
    (PW : ∀ w, Calls Tryd.prog 16 #[.int .i64 what, .int .i64 8] w fun e w' => e = .returned (.int .i64 (c : Int)) ∧ w' = w) (hc : c = 0 ∨ c = 1) :
    Calls Tryd.prog 24 #[.pointer (some ⟨gb, 0, none⟩), .int .i64 what, .int .i64 a, .int .i64 b] w fun e w' => Played B gb w e w' := by
  have hil := get_lt hm
  obtain ⟨g, cap, rfl, hBg, hgl, hgg, hlc, hcm, hcell, hfz, hrange⟩ := G.form (by omega)
  obtain ⟨c0, c1, cf⟩ := G.cells
  have R := hide (hrange i m hm)
  have mi := hide Tryd.member62
  have hu := hide Tryd.underlying34
  have i0 : (0 : Int) ≤ (i : Int) := by omega
  have i1 : (i : Int) < (L.length : Int) := by omega
  have FK := hide (fork_T (I.pt i m hm) hs2)
  replace T := hide T
  clear hs2
  have TK := hide (Took.enter (m := m) G zeroM rfl)
  replace PA := hide PA
  replace PW := hide PW
  replace I := hide I
  have HS := store_member_new m w
  have ML := mcells_len m
  have hBg2 := hBg
  clear hcell hrange hfz cf hcm hlc hBg G
  go_enter Tryd.func24, Tryd.ntmps24
  go_wp2_with fail
  refine (unhide PA _).mono ?_
  rintro o w1 ⟨rfl, hw1⟩
  rw [hw1]
  clear hw1 w1
  go_upto_region 3 with (refine wpList_load_mid rfl 34 _ rfl g (i * 62) rfl (mcells m) _ (unhide R) (unhide hu) rfl (by rw [mcells_len]; exact unhide mi) ?_)
  clear HS R mi hu ML c0 c1
  have MW : Hid (w.heap.size ≤ ((w.alloc (Obj.cells zeroM 34)).setCells w.heap.size 0 (mcells m)).heap.size) := hide (unhide TK).bel.size
  generalize (w.alloc (Obj.cells zeroM 34)).setCells w.heap.size 0 (mcells m) = W at *
  obtain ⟨m0, m61⟩ := (unhide TK).cells
  obtain ⟨c0, c1, cf⟩ := (unhide TK).gr.cells
  generalize hM : w.heap.size = M at *
  replace hM := hide hM
  go_wp2_with fail
  refine (unhide PW _).mono ?_
  rintro o w1 ⟨rfl, hw1⟩
  rw [hw1]
  clear hw1 w1
  rw [hpk] at m61
  generalize tx m.id m.ev = S at *
  generalize tx (cutP m.id).1 m.ev = X0 at *
  generalize tx (cutP m.id).2 m.ev = X at *
  have h31 : (30 : Int) < (L.length : Int) := by omega
  rcases hc with rfl | rfl
  all_goals
    go_wp2_with fail
    refine (unhide FK _ ((unhide T).below (by rw [unhide hM]; exact (unhide TK).bel))).mono ?_
    rintro o w2 ⟨rfl, b2⟩
    have TK2 := (unhide TK).keep (unhide MW) b2
    have m61b := cell_keep b2 m61
    have c0b := cell_keep b2 c0
    replace TK2 := hide TK2
    clear b2
    go_wp2_with fail
    go_ret
    refine ⟨rfl, ?_, _, L, d, (unhide TK2).gr, unhide I, by omega, hL⟩
    exact (unhide TK2).bel.mono hB

end Go.Proofs.YtoebmfhgaalcdaaDoor
