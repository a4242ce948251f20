/-
  Our own. Steps of sprigsref.Fails, and how it stands to reading.
-/
import Derived.Test.YtoebmfhgaalcdaaGreatDoorRefPlAll
import Derived.Test.YtoebmfhgaalcdaaGreatDoorWalkRead
import Derived.OwnWalk
namespace Go.Proofs.YtoebmfhgaalcdaaGreatDoor
variable {s : ByteArray} {d i : Nat} {L : List (Nat × Nat)}

theorem den_id_leaf (c : nx s i = 48 ∨ nx s i = 49) : den s ((105, d) :: L) i = den s L (i + 1) := by
  rw [den, if_pos rfl]
  have e : idJ s (8 - d) i = .inl (i + 1) := by cases 8 - d <;> rw [idJ, if_pos c]
  rw [e]
theorem den_id_bad (c : ¬ (nx s i = 48 ∨ nx s i = 49)) (c2 : nx s i ≠ 40 ∨ 8 ≤ d) : den s ((105, d) :: L) i = some i := by
  rw [den, if_pos rfl]
  have e : idJ s (8 - d) i = .inr i := by
    cases h : 8 - d with
    | zero => rw [idJ, if_neg c]
    | succ n => rw [idJ, if_neg c, if_neg (by omega)]
  rw [e]
theorem den_lit_ok (x : Nat) (hx : x ≠ 105 ∧ x ≠ 101 ∧ x ≠ 110) (c : nx s i = x) : den s ((x, d) :: L) i = den s L (i + 1) := by
  rw [den, if_neg hx.1, if_neg hx.2.1, if_neg hx.2.2, if_pos c]
theorem den_lit_bad (x : Nat) (hx : x ≠ 105 ∧ x ≠ 101 ∧ x ≠ 110) (c : nx s i ≠ x) : den s ((x, d) :: L) i = some i := by
  rw [den, if_neg hx.1, if_neg hx.2.1, if_neg hx.2.2, if_neg c]
theorem den_num_ok {n j : Nat} (f : numF s i = .ok n j) : den s ((110, d) :: L) i = den s L j := by
  rw [den, if_neg (by omega), if_neg (by omega), if_pos rfl, f]
theorem den_num_bad {j : Nat} (f : numF s i = .bad j) : den s ((110, d) :: L) i = some j := by
  rw [den, if_neg (by omega), if_neg (by omega), if_pos rfl, f]
theorem den_ev_ok {n j : Nat} (c : nx s i ≠ 40) (f : numF s i = .ok n j) : den s ((101, d) :: L) i = den s L j := by
  rw [den, if_neg (by omega), if_pos rfl]
  have e : evJ s (8 - d) i = .inl j := by cases 8 - d <;> rw [evJ, if_neg c, f]
  rw [e]
theorem den_ev_bad {j : Nat} (c : nx s i ≠ 40) (f : numF s i = .bad j) : den s ((101, d) :: L) i = some j := by
  rw [den, if_neg (by omega), if_pos rfl]
  have e : evJ s (8 - d) i = .inr j := by cases 8 - d <;> rw [evJ, if_neg c, f]
  rw [e]
theorem den_ev_deep (c : nx s i = 40) (h : 8 ≤ d) : den s ((101, d) :: L) i = some i := by
  rw [den, if_neg (by omega), if_pos rfl, show 8 - d = 0 by omega, evJ, if_pos c]

theorem den_id_open (c : nx s i = 40) (h : d < 8) : den s ((105, d) :: L) i = den s ((105, d + 1) :: (44, 0) :: (105, d + 1) :: (41, 0) :: L) (i + 1) := by
  have e : 8 - d = (8 - (d + 1)) + 1 := by omega
  rw [den, if_pos rfl, e, idJ, if_neg (by omega), if_pos c, den, if_pos rfl]
  cases f1 : idJ s (8 - (d + 1)) (i + 1) with
  | inr k => rfl
  | inl i2 =>
    simp only
    by_cases g1 : nx s i2 = 44
    · rw [if_pos g1, den_lit_ok 44 (by omega) g1, den, if_pos rfl]
      cases f2 : idJ s (8 - (d + 1)) (i2 + 1) with
      | inr k => rfl
      | inl i4 =>
        simp only
        by_cases g2 : nx s i4 = 41
        · rw [if_pos g2, den_lit_ok 41 (by omega) g2]
        · rw [if_neg g2, den_lit_bad 41 (by omega) g2]
    · rw [if_neg g1, den_lit_bad 44 (by omega) g1]

theorem den_ev_open (c : nx s i = 40) (h : d < 8) : den s ((101, d) :: L) i = den s ((110, 0) :: (44, 0) :: (101, d + 1) :: (44, 0) :: (101, d + 1) :: (41, 0) :: L) (i + 1) := by
  have e : 8 - d = (8 - (d + 1)) + 1 := by omega
  rw [den, if_neg (by omega), if_pos rfl, e, evJ, if_pos c]
  cases f : numF s (i + 1) using Nm.cs with
  | bad k => rw [den_num_bad f]
  | ok m i1 =>
    rw [den_num_ok f]
    simp only
    by_cases g0 : nx s i1 = 44
    · rw [if_pos g0, den_lit_ok 44 (by omega) g0, den, if_neg (by omega), if_pos rfl]
      cases f1 : evJ s (8 - (d + 1)) (i1 + 1) with
      | inr k => rfl
      | inl i2 =>
        simp only
        by_cases g1 : nx s i2 = 44
        · rw [if_pos g1, den_lit_ok 44 (by omega) g1, den, if_neg (by omega), if_pos rfl]
          cases f2 : evJ s (8 - (d + 1)) (i2 + 1) with
          | inr k => rfl
          | inl i4 =>
            simp only
            by_cases g2 : nx s i4 = 41
            · rw [if_pos g2, den_lit_ok 41 (by omega) g2]
            · rw [if_neg g2, den_lit_bad 41 (by omega) g2]
        · rw [if_neg g1, den_lit_bad 44 (by omega) g1]
    · rw [if_neg g0, den_lit_bad 44 (by omega) g0]

/-- At the end. -/
theorem den_end (x : Nat) (hx : 0 < x) (h : s.size ≤ i) : den s ((x, d) :: L) i = some i := by
  have e0 : nx s i = 0 := by
    unfold nx
    rw [List.getD_eq_getElem?_getD, List.getElem?_eq_none (by simpa using h)]; rfl
  have en : numF s i = .bad i := by unfold numF; rw [if_pos (by rw [e0]; rfl)]
  by_cases c1 : x = 105
  · subst c1; exact den_id_bad (by omega) (by omega)
  · by_cases c2 : x = 101
    · subst c2; exact den_ev_bad (by omega) en
    · by_cases c3 : x = 110
      · subst c3; exact den_num_bad en
      · exact den_lit_bad x ⟨c1, c2, c3⟩ (by omega)

/-- How reading stands to it. -/
theorem readR_fails (hs : s.size ≤ 20000) :
    (∃ j, failsR s = some j ∧ readR s = .bad 2 j) ∨
    ∃ id i1 r1 ev n r2, failsR s = none ∧ idR s 8 0 s.size = .ok id i1 r1 ∧ nx s i1 = 59 ∧ evR s 8 0 (i1 + 1) r1 = .ok (ev, n) s.size r2 ∧
      readR s = (if 1099511627776 < highest ev then .bad 7 s.size else if r2 < s.size then .bad 3 r2 else .ok id ev) := by
  have I := idJ_of s 8 0 s.size
  unfold failsR
  rw [den, if_pos rfl, show 8 - 0 = 8 from rfl]
  cases f : idR s 8 0 s.size using Rs.cs with
  | bad j => exact Or.inl ⟨j, by rw [I.2 j f], readR_bad0 hs f⟩
  | ok id i1 r1 =>
    rw [I.1 _ _ _ f]
    simp only
    by_cases g : nx s i1 = 59
    · rw [den_lit_ok 59 (by omega) g, den, if_neg (by omega), if_pos rfl, show 8 - 0 = 8 from rfl]
      have l1 := lt_of_nx s i1 (by omega)
      have E := evJ_of s 8 0 (i1 + 1) r1 (by omega)
      cases f2 : evR s 8 0 (i1 + 1) r1 using Rs.cs with
      | bad j => exact Or.inl ⟨j, by rw [E.2 j f2], readR_bad2 hs f g f2⟩
      | ok o i2 r2 =>
        obtain ⟨ev, n⟩ := o
        have L := evR_le s 8 0 (i1 + 1) r1 ev n i2 r2 (by omega) f2
        have J := E.1 _ _ _ _ f2
        by_cases l : i2 < s.size
        · refine Or.inl ⟨i2, ?_, readR_bad3 hs f g f2 l⟩
          rcases J with J | ⟨J, _⟩
          · rw [J]; simp only; rw [den, if_pos l]
          · rw [J]
        · have e2 : i2 = s.size := by omega
          subst e2
          have nd : isDig (nx s s.size) = false := by rw [nx_end]; rfl
          refine Or.inr ⟨id, i1, r1, ev, n, r2, ?_, rfl, g, f2, ?_⟩
          · rw [J.resolve_right (fun h => by rw [nd] at h; exact absurd h.2 (by decide))]
            simp only; rw [den, if_neg l]
          · by_cases m : 1099511627776 < highest ev
            · rw [if_pos m]; exact readR_bad4 hs f g f2 l m
            · rw [if_neg m]
              by_cases q : r2 < s.size
              · rw [if_pos q]; exact readR_bad5 hs f g f2 l m q
              · rw [if_neg q]; exact readR_ok hs f g f2 l m q
    · exact Or.inl ⟨i1, by rw [den_lit_bad 59 (by omega) g], readR_bad1 hs f g⟩

end Go.Proofs.YtoebmfhgaalcdaaGreatDoor

namespace Go.Proofs.YtoebmfhgaalcdaaGreatDoor
open Go.RowKit

def flatS : List (Nat × Nat) → List Value
  | [] => []
  | (x, d) :: L => .int .u8 (x : Nat) :: .int .i64 (d : Nat) :: flatS L
theorem flatS_len : ∀ L, (flatS L).length = L.length * 2
  | [] => rfl
  | (x, d) :: L => by simp only [flatS, List.length_cons, flatS_len L]; omega
theorem flatS_append : ∀ L M, flatS (L ++ M) = flatS L ++ flatS M
  | [], M => rfl
  | (x, d) :: L, M => by simp only [List.cons_append, flatS, flatS_append L M]
theorem flatS_one : ∀ L, ∀ u ∈ flatS L, u.oneCell' = true
  | [], u, h => by cases h
  | (x, d) :: L, u, h => by
    simp only [flatS, List.mem_cons] at h
    rcases h with rfl | rfl | h
    · rfl
    · rfl
    · exact flatS_one L u h

/-- A list of symbols lies in memory. -/
def Sy (w : World) (v : Value) (L : List (Nat × Nat)) : Prop :=
  ∃ g off cap, v = .slice (some ⟨g, off, none⟩) L.length cap ∧ L.length ≤ cap ∧ ∀ j u, (flatS L)[j]? = some u → w.cell? ⟨g, off + j, none⟩ = some u

theorem Sy.below {w w' : World} {v : Value} {L : List (Nat × Nat)} (h : Sy w v L) (hb : Below w.heap.size w w') : Sy w' v L := by
  obtain ⟨g, off, cap, e, hc, hh⟩ := h
  exact ⟨g, off, cap, e, hc, fun j u hj => cell_later hb (hh j u hj)⟩

theorem Tryz.info162 : (Tryz.prog.info? 162).map (fun i => (i.zero, i.size, i.bytes)) = some (some (.agg #[.int .u8 0, .int .i64 0]), 2, 16) := by kernel_rfl

set_option maxRecDepth 100000 in
set_option maxHeartbeats 1000000 in
theorem push_any (v1 v2 : Value) (L M : List (Nat × Nat)) (w : World) (h1 : Sy w v1 L) (h2 : Sy w v2 M) (hL : L.length ≤ 1000000) (hM : M.length ≤ 1000000) (hp : 0 < M.length) :
    Calls Tryz.prog 123 #[v1, v2] w fun e w' => ∃ v', e = .returned v' ∧ Sy w' v' (M ++ L) ∧ Below w.heap.size w w' := by
  obtain ⟨i0, hi, hz0, hz1, hz2⟩ := info_parts Tryz.info162
  obtain ⟨g1, o1, c1, rfl, k1, s1⟩ := h1
  obtain ⟨g2, o2, c2, rfl, k2, s2⟩ := h2
  have add : ∀ g o j, (⟨g, o, none⟩ : Addr).add j = ⟨g, o + j, none⟩ := fun g o j => Go.WideShapes.add_plain _ _ _
  have S1 := hide s1
  have S2 := hide s2
  clear s1 s2
  go_enter Tryz.func123, Tryz.ntmps123
  go_wp2_with (first
    | (at_builtin; refine wpList_append_own _ rfl _ _ 163 rfl w.heap.size 162 i0 (.agg #[.int .u8 0, .int .i64 0]) 2 16 Tryz.underlying163 hi hz0 hz1 hz2 rfl (by decide) (.slice none 0 0) 0 [] rfl (World.ownsRow_nil _ _ _ _) ⟨g2, o2, none⟩ M.length c2 (flatS M) rfl (flatS_len M) (fun j u hj => by rw [add]; exact unhide S2 j u hj) (flatS_one M) (by unfold maxLen; omega) (by omega) (Nat.le_refl _) ?_; intro v3 w3 hown3 hgrow3 hnil3; have hb3 := (Below.refl w.heap.size w).grown hgrow3 (Nat.le_refl _) (fun k hk => by cases hk); have T3 := hide hown3; have R3 := hide hgrow3; clear hown3 hgrow3 hnil3)
    | (at_builtin; refine wpList_append_own _ rfl _ _ 163 rfl w.heap.size 162 i0 (.agg #[.int .u8 0, .int .i64 0]) 2 16 Tryz.underlying163 hi hz0 hz1 hz2 rfl (by decide) _ _ _ rfl (unhide T3) ⟨g1, o1, none⟩ L.length c1 (flatS L) rfl (flatS_len L) (fun j u hj => by rw [add]; exact cell_later hb3 (unhide S1 j u hj)) (flatS_one L) (by unfold maxLen; omega) (by omega) hb3.size ?_; intro v4 w4 hown4 hgrow4 hnil4; have T4 := hide hown4; have R4 := hide hgrow4; clear hown4 hgrow4 hnil4))
  go_ret
  have o3 := (unhide T3).lt
  have hb4 : Below w.heap.size w w4 := hb3.grown (unhide R4) hb3.size (fun k hk => (o3 k hk).1)
  obtain ⟨f1, f2⟩ := unhide T4
  rcases f2 with ⟨_, f2⟩ | ⟨g, cap, cur, f2, f3, f4, f5, f6, f7, f8⟩
  · omega
  · refine ⟨v4, rfl, ⟨g, 0, cap, ?_, ?_, fun j u hj => ?_⟩, hb4⟩
    · rw [f2]; congr 1; simp
    · simp; omega
    · have f9 : cur[j]? = some u := by
        rw [flatS_append] at hj
        have e8 : ([] ++ flatS M ++ flatS L)[j]? = some u := hj
        rw [← f8] at e8
        have hlt : j < (0 + M.length + L.length) * 2 := by
          rcases Nat.lt_or_ge j ((0 + M.length + L.length) * 2) with h | h
          · exact h
          · rw [List.getElem?_take_eq_none h] at e8; cases e8
        rw [List.getElem?_take_of_lt hlt] at e8
        simpa using e8
      simp only [World.cell?, f4, Nat.zero_add]
      simpa using f9

end Go.Proofs.YtoebmfhgaalcdaaGreatDoor
