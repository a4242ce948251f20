/-
  Our own. sprigslaw.plays at Check alone; sprigslaw.Checks.
-/
import Derived.Test.YtoebmfhgaalcdaaGreatDoorLawStep
import Derived.Deep.LoopGhost
namespace Go.Proofs.YtoebmfhgaalcdaaGreatDoor
open Go.RowKit

/-- A script's steps lie below block B. -/
structure OpsAt (B : Nat) (w : World) (v : Value) (n : Nat) : Prop where
  len : n ≤ 9223372036854775807
  at_ : ∃ p cap, v = .slice p n cap ∧ (0 < n → ∃ g off, g < B ∧ p = some ⟨g, off, none⟩ ∧ ∀ j, j < n → ∃ (k a b : Int) (s t : ByteArray),
    w.cell? ⟨g, off + j * 5, none⟩ = some (.int .i64 k) ∧ w.cell? ⟨g, off + j * 5 + 1, none⟩ = some (.int .i64 a) ∧ w.cell? ⟨g, off + j * 5 + 2, none⟩ = some (.int .i64 b) ∧
    w.cell? ⟨g, off + j * 5 + 3, none⟩ = some (.string s) ∧ w.cell? ⟨g, off + j * 5 + 4, none⟩ = some (.string t) ∧ s.size ≤ maxLen)

def firstText : ByteArray := { data := #[49, 59, 40, 49, 44, 48, 44, 50, 41] }

set_option maxRecDepth 100000 in
set_option maxHeartbeats 4000000 in
theorem plays_check (F : FailsSaid) (v : Value) (n : Nat) (w : World) (h : OpsAt w.heap.size w v n) :
    Calls Tryz.prog 7 #[v, .int .i64 1] w fun e w' => e = .returned (.bool true) ∧ Below w.heap.size w w' := by
  obtain ⟨hn, p, cap, rfl, hops⟩ := h
  have E0 : Ew w.heap.size (w.alloc (.cells #[.slice none 0 0] 49)) := heap_new w _
  have B0 : Below w.heap.size w (w.alloc (.cells #[.slice none 0 0] 49)) := (Below.refl _ _).alloc (Nat.le_refl _) _
  have S0 := hide (step_check F w.heap.size 0 0 { data := #[49, 59, 40, 49, 44, 48, 44, 50, 41] } { data := #[] } _ E0 (by decide))
  have HO := hide hops
  clear hops
  go_enter Tryz.func7, Tryz.ntmps7
  go_wp2_with fail
  refine (unhide S0).mono ?_
  rintro e w1 ⟨rfl, b1⟩
  have E1 := E0.below b1
  have B1 := B0.trans (b1.mono B0.size)
  clear E0 B0 b1 S0
  go_wp2_with fail
  go_loopg [6, 10] n (fun k ok x wr => ∃ j : Nat, j + k = n ∧ ok = .bool true ∧ x = .int .i64 (j : Nat) ∧ Ew w.heap.size wr ∧ Below w.heap.size w wr)
  case atStart => exact ⟨0, by omega, rfl, rfl, E1, B1⟩
  case round =>
    obtain ⟨j, hj, rfl, rfl, he, hb⟩ := hrel
    clear E1 B1
    have HJ := hide hj
    by_cases hlt : j < n
    · obtain ⟨g, off, hg, rfl, hc⟩ := (unhide HO) (by omega)
      obtain ⟨k, a, b, s, t, c0, c1, c2, c3, c4, hm⟩ := hc j hlt
      have d0 := (hb.cell (p := ⟨g, off + j * 5, none⟩) hg).trans c0
      have d1 := (hb.cell (p := ⟨g, off + j * 5 + 1, none⟩) hg).trans c1
      have d2 := (hb.cell (p := ⟨g, off + j * 5 + 2, none⟩) hg).trans c2
      have d3 := (hb.cell (p := ⟨g, off + j * 5 + 3, none⟩) hg).trans c3
      have d4 := (hb.cell (p := ⟨g, off + j * 5 + 4, none⟩) hg).trans c4
      have hlt2 : (j : Int) < (n : Int) := by omega
      clear hc c0 c1 c2 c3 c4 hj
      by_cases hk : (1 : Int) < k
      · go_wp2_with fail
        go_roundg (gk - 1)
        case measure => have := unhide HJ; omega
        case rel =>
          have := unhide HJ
          exact ⟨j + 1, by omega, rfl, by go_num, he, hb⟩
      · by_cases hk1 : k = 1
        · subst hk1
          have ST := hide (step_check F w.heap.size a b s t wr he hm)
          go_wp2_with fail
          refine (unhide ST).mono ?_
          rintro e w3 ⟨rfl, b3⟩
          go_wp2_with fail
          go_roundg (gk - 1)
          case measure => have := unhide HJ; omega
          case rel =>
            have := unhide HJ
            exact ⟨j + 1, by omega, rfl, by go_num, he.below b3, hb.trans (b3.mono hb.size)⟩
        · have ST := hide (step_none w.heap.size k a b s t wr he (by omega))
          have hk2 : k < 1 := by omega
          clear hk1
          go_wp2_with fail
          refine (unhide ST).mono ?_
          rintro e w3 ⟨rfl, b3⟩
          go_wp2_with fail
          go_roundg (gk - 1)
          case measure => have := unhide HJ; omega
          case rel =>
            have := unhide HJ
            exact ⟨j + 1, by omega, rfl, by go_num, he.below b3, hb.trans (b3.mono hb.size)⟩
    · have hlt2 : ¬ (j : Int) < (n : Int) := by omega
      clear hj
      go_wp2_with fail
      go_ret
      exact ⟨rfl, hb⟩

set_option maxHeartbeats 400000 in
/-- Checks, of any script. -/
theorem checks_any (F : FailsSaid) (v : Value) (n : Nat) (w : World) (h : OpsAt w.heap.size w v n) :
    Calls Tryz.prog 3 #[v] w fun e w' => e = .returned (.bool true) ∧ Below w.heap.size w w' := by
  have P := hide (plays_check F v n w h)
  obtain ⟨hn, p, cap, rfl, hops⟩ := h
  clear hops F
  go_enter Tryz.func3, Tryz.ntmps3
  go_wp2_with fail
  refine (unhide P).mono ?_
  rintro e w1 ⟨rfl, b1⟩
  go_wp2_with fail
  go_ret
  exact ⟨rfl, b1⟩

end Go.Proofs.YtoebmfhgaalcdaaGreatDoor
