/-
  Our own. (*sprigslaw.World).of and step, where nothing has come out and the kind is at most 1.
-/
import Derived.Test.YtoebmfhgaalcdaaGreatDoorRefRead
namespace Go.Proofs.YtoebmfhgaalcdaaGreatDoor
open Go.RowKit

/-- The world of a script, empty. -/
def Ew (b : Nat) (w : World) : Prop := w.heap[b]? = some (.cells #[.slice none 0 0] 49)

theorem Ew.cell {b : Nat} {w : World} (h : Ew b w) : w.cell? ⟨b, 0, none⟩ = some (.slice none 0 0) := by
  unfold Ew at h; simp [World.cell?, h]

theorem Ew.below {b : Nat} {w w' : World} (h : Ew b w) (hb : Below w.heap.size w w') : Ew b w' := (hb.block b (lt_of_heap h)).trans h

set_option maxHeartbeats 400000 in
theorem of_empty (b : Nat) (a : Int) (s : ByteArray) (w : World) (h : Ew b w) :
    Calls Tryz.prog 37 #[.pointer (some ⟨b, 0, none⟩), .int .i64 a, .string s] w fun e w' => e = .returned (.string s) ∧ w' = w := by
  have c := h.cell
  clear h
  by_cases g : (0 : Int) < a
  · go_enter Tryz.func37, Tryz.ntmps37
    go_wp2_with fail
    go_ret
    exact ⟨rfl, rfl⟩
  · go_enter Tryz.func37, Tryz.ntmps37
    go_wp2_with fail
    go_ret
    exact ⟨rfl, rfl⟩

set_option maxRecDepth 100000 in
set_option maxHeartbeats 1000000 in
theorem step_check (F : FailsSaid) (b : Nat) (a bb : Int) (s t : ByteArray) (w : World) (h : Ew b w) (hm : s.size ≤ maxLen) :
    Calls Tryz.prog 20 #[.pointer (some ⟨b, 0, none⟩), .agg #[.int .i64 1, .int .i64 a, .int .i64 bb, .string s, .string t]] w fun e w' => e = .returned (.bool true) ∧ Below w.heap.size w w' := by
  have hb1 : Below w.heap.size w (w.alloc (.cells #[.int .i64 1, .int .i64 a, .int .i64 bb, .string s, .string t] 52)) := (Below.refl _ _).alloc (Nat.le_refl _) _
  have h1 := h.below hb1
  have O1 := hide (of_empty b a s _ h1)
  have O2 := hide (of_empty b bb t _ h1)
  have C := hide (fun w1 => check_any s w1 hm)
  have R := hide (fun w1 => rread_any F s w1 hm)
  clear h h1 F
  go_enter Tryz.func20, Tryz.ntmps20
  go_wp2_with fail
  refine (unhide O1).mono ?_
  rintro e w1 ⟨rfl, rfl⟩
  go_wp2_with fail
  refine (unhide O2).mono ?_
  rintro e w1 ⟨rfl, rfl⟩
  go_wp2_with fail
  refine (unhide C _).mono ?_
  rintro e w2 ⟨rfl, b2⟩
  cases f : readR s using Rd1.cs with
  | bad errno place =>
    have ec : chk s = (errno, place) := by unfold chk; rw [f]
    rw [ec]
    have R := unhide R w2
    rw [f] at R
    have R := hide R
    clear f ec
    go_wp2_with fail
    refine (unhide R).mono ?_
    rintro e w3 ⟨rfl, b3⟩
    go_wp2_with fail
    go_ret
    exact ⟨rfl, (hb1.trans (b2.mono hb1.size)).trans (b3.mono (Nat.le_trans hb1.size b2.size))⟩
  | ok id ev =>
    have ec : chk s = (0, 0) := by unfold chk; rw [f]
    rw [ec]
    have R := unhide R w2
    rw [f] at R
    have R := hide R
    clear f ec
    go_wp2_with fail
    refine (unhide R).mono ?_
    rintro e w3 ⟨k, rfl, _, _, b3⟩
    go_wp2_with fail
    go_ret
    exact ⟨rfl, (hb1.trans (b2.mono hb1.size)).trans (b3.mono (Nat.le_trans hb1.size b2.size))⟩

set_option maxRecDepth 100000 in
set_option maxHeartbeats 1000000 in
theorem step_none (b : Nat) (k a bb : Int) (s t : ByteArray) (w : World) (h : Ew b w) (hk : k < 1) :
    Calls Tryz.prog 20 #[.pointer (some ⟨b, 0, none⟩), .agg #[.int .i64 k, .int .i64 a, .int .i64 bb, .string s, .string t]] w fun e w' => e = .returned (.bool true) ∧ Below w.heap.size w w' := by
  have hb1 : Below w.heap.size w (w.alloc (.cells #[.int .i64 k, .int .i64 a, .int .i64 bb, .string s, .string t] 52)) := (Below.refl _ _).alloc (Nat.le_refl _) _
  have h1 := h.below hb1
  have O1 := hide (of_empty b a s _ h1)
  have O2 := hide (of_empty b bb t _ h1)
  have k1 : (k == 1) = false := beq_eq_false_iff_ne.2 (by omega)
  have k2 : (k == 2) = false := beq_eq_false_iff_ne.2 (by omega)
  have k3 : (k == 3) = false := beq_eq_false_iff_ne.2 (by omega)
  have k4 : (k == 4) = false := beq_eq_false_iff_ne.2 (by omega)
  have k5 : (k == 5) = false := beq_eq_false_iff_ne.2 (by omega)
  have k6 : (k == 6) = false := beq_eq_false_iff_ne.2 (by omega)
  have k7 : (k == 7) = false := beq_eq_false_iff_ne.2 (by omega)
  have k8 : (k == 8) = false := beq_eq_false_iff_ne.2 (by omega)
  have k9 : (k == 9) = false := beq_eq_false_iff_ne.2 (by omega)
  clear h h1
  go_enter Tryz.func20, Tryz.ntmps20
  go_wp2_with fail
  refine (unhide O1).mono ?_
  rintro e w1 ⟨rfl, rfl⟩
  go_wp2_with fail
  refine (unhide O2).mono ?_
  rintro e w1 ⟨rfl, rfl⟩
  go_wp2_with fail
  go_ret
  exact ⟨rfl, hb1⟩

end Go.Proofs.YtoebmfhgaalcdaaGreatDoor
