/-
  Our own. sprigsref.push: a list of symbols before another.
-/
import Derived.Test.YtoebmfhgaalcdaaGreatDoorRefFailQ
import Derived.OwnWalk
namespace Go.Proofs.YtoebmfhgaalcdaaGreatDoor
open Go.RowKit

def flatS : List (Nat × Nat) → List Value
  | [] => []
  | (x, d) :: L => .int .u8 (x : Nat) :: .int .i64 (d : Nat) :: flatS L
theorem flatS_len : ∀ L, (flatS L).length = L.length * 2
  | [] => rfl
  | (x, d) :: L => by simp only [flatS, List.length_cons, flatS_len L]; omega
theorem flatS_append : ∀ L M, flatS (L ++ M) = flatS L ++ flatS M
  | [], M => rfl
  | (x, d) :: L, M => by simp only [List.cons_append, flatS, flatS_append L M]
theorem flatS_one : ∀ L, ∀ u ∈ flatS L, u.oneCell' = true
  | [], u, h => by cases h
  | (x, d) :: L, u, h => by
    simp only [flatS, List.mem_cons] at h
    rcases h with rfl | rfl | h
    · rfl
    · rfl
    · exact flatS_one L u h

/-- A list of symbols lies in memory. -/
def Sy (w : World) (v : Value) (L : List (Nat × Nat)) : Prop :=
  ∃ g off cap, v = .slice (some ⟨g, off, none⟩) L.length cap ∧ L.length ≤ cap ∧ ∀ j u, (flatS L)[j]? = some u → w.cell? ⟨g, off + j, none⟩ = some u

theorem Sy.below {w w' : World} {v : Value} {L : List (Nat × Nat)} (h : Sy w v L) (hb : Below w.heap.size w w') : Sy w' v L := by
  obtain ⟨g, off, cap, e, hc, hh⟩ := h
  exact ⟨g, off, cap, e, hc, fun j u hj => cell_later hb (hh j u hj)⟩

theorem Tryz.info162 : (Tryz.prog.info? 162).map (fun i => (i.zero, i.size, i.bytes)) = some (some (.agg #[.int .u8 0, .int .i64 0]), 2, 16) := by kernel_rfl

set_option maxRecDepth 100000 in
set_option maxHeartbeats 1000000 in
theorem push_any (v1 v2 : Value) (L M : List (Nat × Nat)) (w : World) (h1 : Sy w v1 L) (h2 : Sy w v2 M) (hL : L.length ≤ 1000000) (hM : M.length ≤ 1000000) (hp : 0 < M.length) :
    Calls Tryz.prog 123 #[v1, v2] w fun e w' => ∃ v', e = .returned v' ∧ Sy w' v' (M ++ L) ∧ Below w.heap.size w w' := by
  obtain ⟨i0, hi, hz0, hz1, hz2⟩ := info_parts Tryz.info162
  obtain ⟨g1, o1, c1, rfl, k1, s1⟩ := h1
  obtain ⟨g2, o2, c2, rfl, k2, s2⟩ := h2
  have add : ∀ g o j, (⟨g, o, none⟩ : Addr).add j = ⟨g, o + j, none⟩ := fun g o j => Go.WideShapes.add_plain _ _ _
  have S1 := hide s1
  have S2 := hide s2
  clear s1 s2
  go_enter Tryz.func123, Tryz.ntmps123
  go_wp2_with (first
    | (at_builtin; refine wpList_append_own _ rfl _ _ 163 rfl w.heap.size 162 i0 (.agg #[.int .u8 0, .int .i64 0]) 2 16 Tryz.underlying163 hi hz0 hz1 hz2 rfl (by decide) (.slice none 0 0) 0 [] rfl (World.ownsRow_nil _ _ _ _) ⟨g2, o2, none⟩ M.length c2 (flatS M) rfl (flatS_len M) (fun j u hj => by rw [add]; exact unhide S2 j u hj) (flatS_one M) (by unfold maxLen; omega) (by omega) (Nat.le_refl _) ?_; intro v3 w3 hown3 hgrow3 hnil3; have hb3 := (Below.refl w.heap.size w).grown hgrow3 (Nat.le_refl _) (fun k hk => by cases hk); have T3 := hide hown3; have R3 := hide hgrow3; clear hown3 hgrow3 hnil3)
    | (at_builtin; refine wpList_append_own _ rfl _ _ 163 rfl w.heap.size 162 i0 (.agg #[.int .u8 0, .int .i64 0]) 2 16 Tryz.underlying163 hi hz0 hz1 hz2 rfl (by decide) _ _ _ rfl (unhide T3) ⟨g1, o1, none⟩ L.length c1 (flatS L) rfl (flatS_len L) (fun j u hj => by rw [add]; exact cell_later hb3 (unhide S1 j u hj)) (flatS_one L) (by unfold maxLen; omega) (by omega) hb3.size ?_; intro v4 w4 hown4 hgrow4 hnil4; have T4 := hide hown4; have R4 := hide hgrow4; clear hown4 hgrow4 hnil4))
  go_ret
  have o3 := (unhide T3).lt
  have hb4 : Below w.heap.size w w4 := hb3.grown (unhide R4) hb3.size (fun k hk => (o3 k hk).1)
  obtain ⟨f1, f2⟩ := unhide T4
  rcases f2 with ⟨_, f2⟩ | ⟨g, cap, cur, f2, f3, f4, f5, f6, f7, f8⟩
  · omega
  · refine ⟨v4, rfl, ⟨g, 0, cap, ?_, ?_, fun j u hj => ?_⟩, hb4⟩
    · rw [f2]; congr 1; simp
    · simp; omega
    · have f9 : cur[j]? = some u := by
        rw [flatS_append] at hj
        have e8 : ([] ++ flatS M ++ flatS L)[j]? = some u := hj
        rw [← f8] at e8
        have hlt : j < (0 + M.length + L.length) * 2 := by
          rcases Nat.lt_or_ge j ((0 + M.length + L.length) * 2) with h | h
          · exact h
          · rw [List.getElem?_take_eq_none h] at e8; cases e8
        rw [List.getElem?_take_of_lt hlt] at e8
        simpa using e8
      simp only [World.cell?, f4, Nat.zero_add]
      simpa using f9

end Go.Proofs.YtoebmfhgaalcdaaGreatDoor
