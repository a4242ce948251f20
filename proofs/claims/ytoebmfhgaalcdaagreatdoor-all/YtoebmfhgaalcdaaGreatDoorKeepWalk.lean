/-
  Our own. What the calls of package sprigskeep do that make texts.
-/
import Derived.Test.YtoebmfhgaalcdaaGreatDoorKeepAll
import Derived.Deep.RegionWith
namespace Go.Proofs.YtoebmfhgaalcdaaGreatDoor
open Go.RowKit

set_option maxHeartbeats 400000 in
theorem pick_any (c : Int) (n : Nat) (w : World) (hc1 : -9223372036854775808 ≤ c) (hc2 : c ≤ 9223372036854775807) (hn : 0 < n) (hn2 : n ≤ 1000000000) :
    Calls Tryz.prog 9 #[.int .i64 c, .int .i64 n] w fun e w' => e = .returned (.int .i64 (pickP c n : Nat)) ∧ w' = w := by
  have hz : ¬ (n : Int) = 0 := by omega
  by_cases h : c < 0
  · have e : ((pickP c n : Nat) : Int) = -((c + 1).tmod (n : Int)) := by
      unfold pickP; rw [if_pos h, ← Int.neg_tmod, Int.tmod_eq_emod_of_nonneg (by omega)]
      have h1 := Int.emod_nonneg (-(c + 1)) (show (n : Int) ≠ 0 by omega)
      omega
    rw [e]; clear e
    go_enter Tryz.func9, Tryz.ntmps9
    go_wp2_with fail
    go_ret
    exact ⟨rfl, rfl⟩
  · have e : ((pickP c n : Nat) : Int) = c % (n : Int) := by
      unfold pickP; rw [if_neg h]
      have h1 := Int.emod_nonneg c (show (n : Int) ≠ 0 by omega)
      omega
    rw [e]; clear e
    go_enter Tryz.func9, Tryz.ntmps9
    go_wp2_with fail
    go_ret
    exact ⟨rfl, rfl⟩

/-- A slice of integers that lies below block B. -/
structure Sl (B : Nat) (w : World) (v : Value) (l : List Int) : Prop where
  len : l.length ≤ 9223372036854775807
  at_ : ∃ p cap, v = .slice p l.length cap ∧ (0 < l.length → ∃ bl off, bl < B ∧ p = some ⟨bl, off, none⟩ ∧ ∀ j, j < l.length → w.cell? ⟨bl, off + j, none⟩ = some (.int .i64 (l.getD j 0)))
  in_ : ∀ j, -9223372036854775808 ≤ l.getD j 0 ∧ l.getD j 0 ≤ 9223372036854775807

theorem Sl.keep {B : Nat} {w w' : World} {v : Value} {l : List Int} (h : Sl B w v l) (hk : ∀ k, k < B → w'.heap[k]? = w.heap[k]?) : Sl B w' v l := by
  obtain ⟨hl, ⟨p, cap, e, hh⟩, hi⟩ := h
  refine ⟨hl, ⟨p, cap, e, fun h0 => ?_⟩, hi⟩
  obtain ⟨bl, off, hb, hp, hc⟩ := hh h0
  exact ⟨bl, off, hb, hp, fun j hj => (cell_of_block (hk bl hb)).trans (hc j hj)⟩

theorem Sl.apart {B b : Nat} {w w' : World} {v : Value} {l : List Int} (h : Sl B w v l) (hb : B ≤ b) (hw : B ≤ w.heap.size) (ha : Apart b w w') : Sl B w' v l :=
  h.keep fun k hk => ha.block k (by omega) (by omega)

/-- The raw numbers' box. -/
def Rw (b : Nat) (v : Value) (i : Nat) (w : World) : Prop := w.heap[b]? = some (.cells #[v, .int .i64 i] 55)

theorem Rw.cells {b : Nat} {v : Value} {i : Nat} {w : World} (h : Rw b v i w) :
    w.cell? ⟨b, 0, none⟩ = some v ∧ w.cell? ⟨b, 1, none⟩ = some (.int .i64 i) ∧ (∀ o, w.frozen? ⟨b, o, none⟩ = false) := by
  unfold Rw at h
  refine ⟨?_, ?_, ?_⟩
  · simp [World.cell?, h]
  · simp [World.cell?, h]
  · intro o; simp [World.frozen?, h]
theorem Rw.setAt {b : Nat} {v : Value} {i : Nat} {w : World} (h : Rw b v i w) (j : Nat) : Rw b v j (w.setCell ⟨b, 1, none⟩ (.int .i64 j)) := by
  unfold Rw at *
  simp [World.setCell, Array.getElem?_modify, h]
theorem Rw.drewN {b : Nat} {v : Value} {i : Nat} {w : World} (h : Rw b v i w) (n : Nat) : Rw b v i (w.drewN n) := h

set_option maxHeartbeats 800000 in
theorem rawnext_any (B b : Nat) (v : Value) (l : List Int) (i n : Nat) (w : World) (hb : B ≤ b) (hs : Sl B w v l) (h : Rw b v i w) (hi : i ≤ l.length) (hn : 0 < n) (hn2 : n ≤ 1000000000) :
    Calls Tryz.prog 44 #[.pointer (some ⟨b, 0, none⟩), .int .i64 n] w fun e w' => e = .returned (.int .i64 (rawP l i n : Nat)) ∧ Rw b v (rawI l i) w' ∧ Apart b w w' := by
  obtain ⟨c0, c1, cf⟩ := h.cells
  obtain ⟨hl, ⟨p, cap, rfl, hh⟩, hin⟩ := hs
  by_cases hlt : i < l.length
  · obtain ⟨bl, off, hbl, rfl, hc⟩ := hh (by omega)
    have ce := hc i hlt
    have e1 : rawP l i n = pickP (l.getD i 0) n := by unfold rawP; rw [if_pos hlt]
    have e2 : rawI l i = i + 1 := by unfold rawI; rw [if_pos hlt]
    rw [e1, e2]; clear e1 e2
    obtain ⟨b1, b2⟩ := hin i
    generalize l.getD i 0 = x at *
    have ne : ¬ bl = b := by omega
    have ne2 : ¬ b = bl := by omega
    have hge : ¬ ((l.length : Int) ≤ (i : Int)) := by omega
    have h2 := h.setAt (i + 1)
    have H2 := hide h2
    clear h h2 hh hc hin hi
    go_enter Tryz.func44, Tryz.ntmps44
    go_wp2_with fail
    go_quiet (fail)
    go_wp2_with fail
    go_quiet ((go_at_call 9; exact Calls.quiet_of_same (pick_any _ n _ b1 b2 hn hn2)))
    go_wp2_with fail
    go_ret
    exact ⟨rfl, unhide H2, ((Apart.drewN b w _).setCell rfl _).trans (Apart.drewN _ _ _)⟩
  · have e1 : rawP l i n = 0 := by unfold rawP; rw [if_neg hlt]
    have e2 : rawI l i = i := by unfold rawI; rw [if_neg hlt]
    rw [e1, e2]; clear e1 e2
    have hge : ((l.length : Int) ≤ (i : Int)) := by omega
    have HH := hide h
    clear h hh hin
    go_enter Tryz.func44, Tryz.ntmps44
    go_wp2_with fail
    go_quiet (fail)
    go_wp2_with fail
    go_ret
    exact ⟨rfl, (unhide HH).drewN _, Apart.drewN _ _ _⟩

end Go.Proofs.YtoebmfhgaalcdaaGreatDoor
