/-
  Our own. (*group).play: the branches. (Their head is laid by wip/mk/play.py: one text.)
-/
import Derived.Test.YtoebmfhgaalcdaaDoorGroupAll
import Derived.Deep.RegionHeld3
import Derived.Deep.Cut
namespace Go.Proofs.YtoebmfhgaalcdaaDoor
open Go.RowKit

theorem Gr.at {B gb : Nat} {w : World} {g n cap : Nat} {L : List Mem} {d : Nat} (h : Gr B gb w (.slice (some ⟨g, 0, none⟩) n cap) L d) {i : Nat} {m : Mem} (hm : L[i]? = some m) (j : Nat) (v : Value) (hj : (mcells m)[j]? = some v) :
    w.cell? ⟨g, i * 62 + j, none⟩ = some v ∧ ∀ o, w.frozen? ⟨g, o, none⟩ = false := by
  have hl := get_lt hm
  obtain ⟨g', cap', e, _, _, _, _, _, hcell, hfz, _⟩ := h.form (by omega)
  simp only [Value.slice.injEq, Option.some.injEq, Addr.mk.injEq] at e
  obtain ⟨⟨rfl, _⟩, _, _⟩ := e
  have hjl := get_lt hj
  rw [mcells_len] at hjl
  exact ⟨hcell _ _ (by rw [flatM_get L i m hm j hjl]; exact hj), hfz⟩
theorem Gr.store {B gb : Nat} {w : World} {g n cap : Nat} {L : List Mem} {d : Nat} (h : Gr B gb w (.slice (some ⟨g, 0, none⟩) n cap) L d) {i : Nat} {m m' : Mem} (hm : L[i]? = some m) (j : Nat) (v : Value) (hj : j < 62) (e : mcells m' = (mcells m).set j v) :
    Gr B gb (w.setCell ⟨g, i * 62 + j, none⟩ v) (.slice (some ⟨g, 0, none⟩) n cap) (L.set i m') d := by
  have hl := get_lt hm
  obtain ⟨g', cap', e9, _, _, hne, _, _, _, _, _⟩ := h.form (by omega)
  simp only [Value.slice.injEq, Option.some.injEq, Addr.mk.injEq] at e9
  obtain ⟨⟨rfl, _⟩, rfl, rfl⟩ := e9
  refine ⟨?_, h.base, ?_⟩
  · rw [Below.heap_setCell _ _ _ gb (fun e => hne e.symm)]; exact h.box
  · have r := World.ownsRow.stored h.row (i * 62 + j) v
    rw [flatM_set L i m m' j v hm hj e, List.length_set]
    exact r.1
theorem Gr.count {B gb : Nat} {w : World} {sv : Value} {L : List Mem} {d : Nat} (h : Gr B gb w sv L d) (hp : 0 < L.length) (d' : Nat) : Gr B gb (w.setCell ⟨gb, 1, none⟩ (.int .i64 (d' : Int))) sv L d' := by
  obtain ⟨g, cap, rfl, hBg, _, hne, h1, h2, _, _, _⟩ := h.form hp
  refine ⟨?_, h.base, ?_⟩
  · have := h.box
    simp [World.setCell, Array.getElem?_modify, this]
  · obtain ⟨k1, k2⟩ := h.row
    refine ⟨k1, ?_⟩
    rcases k2 with k2 | ⟨g', cap', cur, e1, e2, e3, e4, e5, e6, e7⟩
    · exact Or.inl k2
    · refine Or.inr ⟨g', cap', cur, e1, e2, ?_, e4, e5, e6, e7⟩
      simp only [Value.slice.injEq, Option.some.injEq, Addr.mk.injEq] at e1
      obtain ⟨⟨rfl, _⟩, _, _⟩ := e1
      rw [Below.heap_setCell _ _ _ g hne]; exact e3

theorem mcells_stamp (m : Mem) (t : Tr Nat) : mcells ⟨m.id, t, m.past, m.peek⟩ = (mcells m).set 0 (.string (tx m.id t)) := rfl
theorem mcells_past (m : Mem) (d : Nat) (hd : d < 60) : mcells ⟨m.id, m.ev, fun j => if j = d then true else m.past j, m.peek⟩ = (mcells m).set (1 + d) (.bool true) := by
  apply List.ext_getElem?
  intro k
  rw [List.getElem?_set, mcells_len]
  have A := mcells_at m
  have B := mcells_at ⟨m.id, m.ev, fun j => if j = d then true else m.past j, m.peek⟩
  by_cases e : 1 + d = k
  · subst e
    rw [if_pos rfl, if_pos (by omega), B.2.2 d hd]
    simp
  · rw [if_neg e]
    by_cases e0 : k = 0
    · subst e0; rw [A.1, B.1]
    · by_cases e1 : k = 61
      · subst e1; rw [A.2.1, B.2.1]
      · rcases Nat.lt_or_ge k 62 with hk | hk
        · obtain ⟨q, rfl⟩ : ∃ q, k = 1 + q := ⟨k - 1, by omega⟩
          rw [A.2.2 q (by omega), B.2.2 q (by omega)]
          have : q ≠ d := by omega
          simp [this]
        · rw [List.getElem?_eq_none (by rw [mcells_len]; exact hk), List.getElem?_eq_none (by rw [mcells_len]; exact hk)]

set_option maxRecDepth 100000 in
set_option maxHeartbeats 4000000 in
theorem play_event_none (B gb : Nat) (w : World) (sv : Value) (L : List Mem) (d : Nat) (what a b : Int) (i c : Nat) (m : Mem) (hL : L.length ≤ 31) (I : GInv L d) (G : Gr B gb w sv L d) (hB : B ≤ w.heap.size) (hm : L[i]? = some m) (hpk : m.peek = true)
    (PA : ∀ w, Calls Tryd.prog 16 #[.int .i64 a, .int .i64 (L.length : Int)] w fun e w' => e = .returned (.int .i64 (i : Int)) ∧ w' = w)
    (PW : ∀ w, Calls Tryd.prog 16 #[.int .i64 what, .int .i64 8] w fun e w' => e = .returned (.int .i64 (c : Int)) ∧ w' = w) (hc : c = 2 ∨ c = 3 ∨ c = 4) :
    Calls Tryd.prog 24 #[.pointer (some ⟨gb, 0, none⟩), .int .i64 what, .int .i64 a, .int .i64 b] w fun e w' => Played B gb w e w' := by
  have hil := get_lt hm
  obtain ⟨g, cap, rfl, hBg, hgl, hgg, hlc, hcm, hcell, hfz, hrange⟩ := G.form (by omega)
  obtain ⟨c0, c1, cf⟩ := G.cells
  have R := hide (hrange i m hm)
  have mi := hide Tryd.member62
  have hu := hide Tryd.underlying34
  have i0 : (0 : Int) ≤ (i : Int) := by omega
  have i1 : (i : Int) < (L.length : Int) := by omega
  have EN := nothing_T (I.pt i m hm) ((I.share hm).2 hpk)
  replace EN := hide EN
  have TK := hide (Took.enter (m := m) G zeroM rfl)
  replace PA := hide PA
  replace PW := hide PW
  replace I := hide I
  have HS := store_member_new m w
  have ML := mcells_len m
  have hBg2 := hBg
  clear hcell hrange hfz cf hcm hlc hBg G
  go_enter Tryd.func24, Tryd.ntmps24
  go_wp2_with fail
  refine (unhide PA _).mono ?_
  rintro o w1 ⟨rfl, hw1⟩
  rw [hw1]
  clear hw1 w1
  go_upto_region 3 with (refine wpList_load_mid rfl 34 _ rfl g (i * 62) rfl (mcells m) _ (unhide R) (unhide hu) rfl (by rw [mcells_len]; exact unhide mi) ?_)
  clear HS R mi hu ML c0 c1
  have MW : Hid (w.heap.size ≤ ((w.alloc (Obj.cells zeroM 34)).setCells w.heap.size 0 (mcells m)).heap.size) := hide (unhide TK).bel.size
  generalize (w.alloc (Obj.cells zeroM 34)).setCells w.heap.size 0 (mcells m) = W at *
  obtain ⟨m0, m61⟩ := (unhide TK).cells
  obtain ⟨c0, c1, cf⟩ := (unhide TK).gr.cells
  generalize hM : w.heap.size = M at *
  replace hM := hide hM
  go_wp2_with fail
  refine (unhide PW _).mono ?_
  rintro o w1 ⟨rfl, hw1⟩
  rw [hw1]
  clear hw1 w1
  rw [hpk] at m61
  generalize tx m.id m.ev = S at *
  rcases hc with rfl | rfl | rfl
  all_goals
    go_wp2_with fail
    refine (unhide EN _).mono ?_
    rintro o w2 ⟨rfl, b2⟩
    have TK2 := (unhide TK).keep (unhide MW) b2
    have m61b := cell_keep b2 m61
    replace TK2 := hide TK2
    clear b2
    go_wp2_with fail
    go_ret
    refine ⟨rfl, ?_, _, L, d, (unhide TK2).gr, unhide I, by omega, hL⟩
    exact (unhide TK2).bel.mono hB

set_option maxRecDepth 100000 in
set_option maxHeartbeats 4000000 in
theorem play_event (B gb : Nat) (w : World) (sv : Value) (L : List Mem) (d : Nat) (what a b : Int) (i c : Nat) (m : Mem) (hL : L.length ≤ 31) (I : GInv L d) (G : Gr B gb w sv L d) (hB : B ≤ w.heap.size) (hm : L[i]? = some m) (hpk : m.peek = false) (T : Tab w)
    (PA : ∀ w, Calls Tryd.prog 16 #[.int .i64 a, .int .i64 (L.length : Int)] w fun e w' => e = .returned (.int .i64 (i : Int)) ∧ w' = w)
    (PW : ∀ w, Calls Tryd.prog 16 #[.int .i64 what, .int .i64 8] w fun e w' => e = .returned (.int .i64 (c : Int)) ∧ w' = w) (hc : c = 2 ∨ c = 3 ∨ c = 4) :
    Calls Tryd.prog 24 #[.pointer (some ⟨gb, 0, none⟩), .int .i64 what, .int .i64 a, .int .i64 b] w fun e w' => Played B gb w e w' := by
  have hil := get_lt hm
  obtain ⟨g, cap, rfl, hBg, hgl, hgg, hlc, hcm, hcell, hfz, hrange⟩ := G.form (by omega)
  obtain ⟨c0, c1, cf⟩ := G.cells
  have R := hide (hrange i m hm)
  have mi := hide Tryd.member62
  have hu := hide Tryd.underlying34
  have i0 : (0 : Int) ≤ (i : Int) := by omega
  have i1 : (i : Int) < (L.length : Int) := by omega
  have hs : shareP m.id 256 ≠ 0 := fun h => by rw [(I.share hm).1 h] at hpk; cases hpk
  obtain ⟨t, ht⟩ := event_exists (I.pt i m hm) hs (by have := I.high i m hm; have := I.dn; omega)
  obtain ⟨Q, E⟩ := (I.pt i m hm).event ht
  have EV := hide (event_T (I.pt i m hm) hs ht)
  have NEXT : d < 60 → GInv (L.set i ⟨m.id, t, fun j => if j = d then true else m.past j, m.peek⟩) (d + 1) := fun hd => I.evented hd hm Q E
  replace NEXT := hide NEXT
  replace T := hide T
  clear hs ht Q E
  have TK := hide (Took.enter (m := m) G zeroM rfl)
  replace PA := hide PA
  replace PW := hide PW
  replace I := hide I
  have HS := store_member_new m w
  have ML := mcells_len m
  have hBg2 := hBg
  clear hcell hrange hfz cf hcm hlc hBg G
  go_enter Tryd.func24, Tryd.ntmps24
  go_wp2_with fail
  refine (unhide PA _).mono ?_
  rintro o w1 ⟨rfl, hw1⟩
  rw [hw1]
  clear hw1 w1
  go_upto_region 3 with (refine wpList_load_mid rfl 34 _ rfl g (i * 62) rfl (mcells m) _ (unhide R) (unhide hu) rfl (by rw [mcells_len]; exact unhide mi) ?_)
  clear HS R mi hu ML c0 c1
  have MW : Hid (w.heap.size ≤ ((w.alloc (Obj.cells zeroM 34)).setCells w.heap.size 0 (mcells m)).heap.size) := hide (unhide TK).bel.size
  generalize (w.alloc (Obj.cells zeroM 34)).setCells w.heap.size 0 (mcells m) = W at *
  obtain ⟨m0, m61⟩ := (unhide TK).cells
  obtain ⟨c0, c1, cf⟩ := (unhide TK).gr.cells
  generalize hM : w.heap.size = M at *
  replace hM := hide hM
  go_wp2_with fail
  refine (unhide PW _).mono ?_
  rintro o w1 ⟨rfl, hw1⟩
  rw [hw1]
  clear hw1 w1
  rw [hpk] at m61
  have e1 := hide (mcells_stamp m t)
  have e2 := hide (fun hd => mcells_past ⟨m.id, t, m.past, m.peek⟩ d hd)
  generalize hS : tx m.id m.ev = S at *
  generalize hT : tx m.id t = X at *
  by_cases hd : d < 60
  · have hd2 : (d : Int) < 60 := by omega
    have hd3 : (0 : Int) ≤ (d : Int) := by omega
    have ed : IntKind.i64.wrap ((d : Int) + 1) = (d : Int) + 1 := by rw [IntKind.wrap_i64]; omega
    rcases hc with rfl | rfl | rfl
    all_goals
      go_wp2_with fail
      refine (unhide EV _ ((unhide T).below (by rw [unhide hM]; exact (unhide TK).bel))).mono ?_
      rintro o w2 ⟨rfl, b2⟩
      have TK2 := (unhide TK).keep (unhide MW) b2
      have m61b := cell_keep b2 m61
      have c0b := cell_keep b2 c0
      have c1b := cell_keep b2 c1
      have hB2 := TK2.bel
      obtain ⟨k0, kf⟩ := TK2.gr.at hm 0 (.string S) (by rw [← hS]; exact (mcells_at m).1)
      have G3 := TK2.gr.store hm 0 (.string X) (by omega) (unhide e1)
      have gl := TK2.gl
      replace G3 := hide G3
      replace TK2 := hide TK2
      replace hB2 := hide hB2
      rw [Nat.add_zero] at k0
      clear b2 m61 c0 c1 cf
      have gne : ¬ g = gb := hgg
      have gne2 : ¬ gb = g := fun e => hgg e.symm
      have B3 := hide ((unhide hB2).mono hB |>.trans (below_set1 w2 hBg2 (.string X) (i * 62)))
      go_wp2_with fail
      rw [Nat.add_zero] at G3
      generalize w2.setCell ⟨g, i * 62, none⟩ (.string X) = W3 at *
      clear k0 kf c0b c1b m61b
      obtain ⟨c0, c1, cf⟩ := (unhide G3).cells
      have hm1 := set_at (x := (⟨m.id, t, m.past, m.peek⟩ : Mem)) hm
      obtain ⟨k0, kf⟩ := (unhide G3).at hm1 (1 + d) (.bool (m.past d)) ((mcells_at ⟨m.id, t, m.past, m.peek⟩).2.2 d hd)
      have G4 := hide ((unhide G3).store hm1 (1 + d) (.bool true) (by omega) (unhide e2 hd))
      have B4 := hide ((unhide B3).trans (below_set1 W3 hBg2 (.bool true) (i * 62 + (1 + d))))
      rw [← Nat.add_assoc] at k0 G4 B4
      rw [List.set_set] at G4
      go_region_held3 (fun w' => w'.cell? ⟨gb, 0, none⟩ = some (.slice (some ⟨g, 0, none⟩) L.length cap) ∧ w'.cell? ⟨gb, 1, none⟩ = some (.int .i64 (d : Int)))
        (refine ⟨?_, ?_⟩ <;> (repeat first | assumption | refine cell_drew_keep ?_ | refine cell_set_keep (by assumption) ?_))
        (fail)
      all_goals
        clear c0 c1 cf k0 kf
        generalize W3.setCell ⟨g, i * 62 + 1 + d, none⟩ (.bool true) = W4 at *
        obtain ⟨c0, c1, cf⟩ := (unhide G4).cells
        have G5 := (unhide G4).count (by rw [List.length_set]; omega) (d + 1)
        have B5 := (unhide B4).trans (below_set1 W4 (unhide G4).base (.int .i64 ((d + 1 : Nat) : Int)) 1)
        have ec : ((d + 1 : Nat) : Int) = (d : Int) + 1 := by omega
        rw [ec] at G5 B5
        replace G5 := hide G5
        replace B5 := hide B5
        clear ec
        go_wp2_with fail
        go_ret
        exact ⟨rfl, chain (unhide B5) (by rw [unhide hM]; exact hB) (below_drew _), _, _, _, (unhide G5).keep (below_drew _), unhide NEXT hd, by rw [List.length_set]; omega, by rw [List.length_set]; exact hL⟩
  · have hd2 : ¬ (d : Int) < 60 := by omega
    rcases hc with rfl | rfl | rfl
    all_goals
      go_wp2_with fail
      refine (unhide EV _ ((unhide T).below (by rw [unhide hM]; exact (unhide TK).bel))).mono ?_
      rintro o w2 ⟨rfl, b2⟩
      have TK2 := (unhide TK).keep (unhide MW) b2
      have m61b := cell_keep b2 m61
      have c0b := cell_keep b2 c0
      have c1b := cell_keep b2 c1
      replace TK2 := hide TK2
      clear b2
      go_wp2_with fail
      go_ret
      refine ⟨rfl, ?_, _, L, d, (unhide TK2).gr, unhide I, by omega, hL⟩
      exact (unhide TK2).bel.mono hB

end Go.Proofs.YtoebmfhgaalcdaaDoor
