/-
  Our own. The reader's small methods: what each call does.
-/
import Derived.Test.YtoebmfhgaalcdaaGreatDoorBase
namespace Go.Proofs.YtoebmfhgaalcdaaGreatDoor
open Go.RowKit

set_option maxHeartbeats 400000 in
theorem next_end (b : Nat) (s : ByteArray) (r : Nat) (w : World) (h : Rd b s s.size r w) :
    Calls Tryz.prog 132 #[.pointer (some ⟨b, 0, none⟩)] w fun e w' => e = .returned (.int .u8 0) ∧ ∃ n, w' = w.drewN n := by
  obtain ⟨c0, c1, c2, cf⟩ := h.cells
  clear h
  go_enter Tryz.func132, Tryz.ntmps132
  go_wp2_with fail
  go_quiet (fail)
  go_wp2_with fail
  go_ret
  exact ⟨rfl, _, rfl⟩

set_option maxHeartbeats 400000 in
theorem next_in (b : Nat) (s : ByteArray) (i r : Nat) (w : World) (h : Rd b s i r w) (hi : i < s.size) :
    Calls Tryz.prog 132 #[.pointer (some ⟨b, 0, none⟩)] w fun e w' => e = .returned (.int .u8 (nx s i)) ∧ ∃ n, w' = w.drewN n := by
  obtain ⟨c0, c1, c2, cf⟩ := h.cells
  clear h
  have hne : ((i : Int) == (s.size : Int)) = false := beq_eq_false_iff_ne.2 (by omega)
  go_enter Tryz.func132, Tryz.ntmps132
  go_wp2_with fail
  go_quiet (fail)
  go_wp2_with fail
  go_quiet (fail)
  go_wp2_with fail
  go_ret
  refine ⟨?_, _, World.drewN_drewN _ _ _⟩
  rw [nx_in s i hi]; rfl

/-- The byte that comes. -/
theorem next_any (b : Nat) (s : ByteArray) (i r : Nat) (w : World) (h : Rd b s i r w) (hi : i ≤ s.size) :
    Calls Tryz.prog 132 #[.pointer (some ⟨b, 0, none⟩)] w fun e w' => e = .returned (.int .u8 (nx s i)) ∧ ∃ n, w' = w.drewN n := by
  by_cases g : i = s.size
  · subst g; rw [nx_end]; exact next_end b s r w h
  · exact next_in b s i r w h (by omega)

/-- The byte that comes: the world behind the call as a variable. -/
theorem next_k (b : Nat) (s : ByteArray) (i r : Nat) (w : World) (h : Rd b s i r w) (hi : i ≤ s.size) :
    Calls Tryz.prog 132 #[.pointer (some ⟨b, 0, none⟩)] w fun e w' => e = .returned (.int .u8 (nx s i)) ∧ Rd b s i r w' ∧ Apart b w w' := by
  refine (next_any b s i r w h hi).mono ?_
  rintro e w' ⟨he, n, rfl⟩
  exact ⟨he, h.drewN n, Apart.drewN b w n⟩

set_option maxHeartbeats 400000 in
theorem throw_any (errno place : Nat) (w : World) :
    Calls Tryz.prog 71 #[.int .i64 errno, .int .i64 place] w fun e w' => e = .panicked (thrown errno place) ∧ w' = w := by
  go_enter Tryz.func71, Tryz.ntmps71
  go_wp2
  exact ⟨rfl, rfl, rfl⟩

set_option maxHeartbeats 400000 in
theorem giveUp_any (b : Nat) (s : ByteArray) (i r : Nat) (w : World) (h : Rd b s i r w) :
    Calls Tryz.prog 100 #[.pointer (some ⟨b, 0, none⟩)] w fun e w' => e = .panicked (thrown 2 i) ∧ w' = w := by
  obtain ⟨c0, c1, c2, cf⟩ := h.cells
  clear h
  go_enter Tryz.func100, Tryz.ntmps100
  go_wp2_with (go_at_call 71; refine (throw_any 2 i _).mono ?_; rintro e w' ⟨rfl, rfl⟩)
  exact ⟨rfl, rfl, rfl⟩

set_option maxHeartbeats 400000 in
theorem pass_ok (b : Nat) (s : ByteArray) (i r c : Nat) (w : World) (h : Rd b s i r w) (hs : s.size ≤ 20000) (hi : i < s.size) (hc : nx s i = c) :
    Calls Tryz.prog 98 #[.pointer (some ⟨b, 0, none⟩), .int .u8 c] w fun e w' => e = .returned (.tuple #[]) ∧ Rd b s (i + 1) r w' ∧ Apart b w w' := by
  subst hc
  obtain ⟨c0, c1, c2, cf⟩ := h.cells
  go_enter Tryz.func98, Tryz.ntmps98
  go_wp2_with fail
  refine (next_any b s i r _ h (by omega)).mono ?_
  rintro e w' ⟨rfl, n, rfl⟩
  have h2 := h.drewN n
  go_wp2_with fail
  go_end0
  exact ⟨rfl, h2.setAt (i + 1), (Apart.drewN b w n).setCell rfl _⟩

set_option maxHeartbeats 400000 in
theorem pass_bad (b : Nat) (s : ByteArray) (i r c : Nat) (w : World) (h : Rd b s i r w) (hi : i ≤ s.size) (hc : nx s i ≠ c) :
    Calls Tryz.prog 98 #[.pointer (some ⟨b, 0, none⟩), .int .u8 c] w fun e w' => e = .panicked (thrown 2 i) ∧ Apart b w w' := by
  have hne : ((nx s i : Int) != (c : Int)) = true := by rw [bne_iff_ne]; omega
  go_enter Tryz.func98, Tryz.ntmps98
  go_wp2_with fail
  refine (next_any b s i r _ h hi).mono ?_
  rintro e w' ⟨rfl, n, rfl⟩
  go_wp2_with fail
  refine (giveUp_any b s i r _ (h.drewN n)).mono ?_
  rintro e w' ⟨rfl, rfl⟩
  exact ⟨rfl, rfl, Apart.drewN b w n⟩

set_option maxHeartbeats 400000 in
theorem open_ok (b : Nat) (s : ByteArray) (i r k : Nat) (w : World) (h : Rd b s i r w) (hs : s.size ≤ 20000) (hi : i < s.size) (hc : nx s i = 40) (hk : 0 < k) :
    Calls Tryz.prog 133 #[.pointer (some ⟨b, 0, none⟩), .int .i64 k] w fun e w' => e = .returned (.int .i64 i) ∧ Rd b s (i + 1) r w' ∧ Apart b w w' := by
  obtain ⟨c0, c1, c2, cf⟩ := h.cells
  have hne : ((k : Int) == 0) = false := beq_eq_false_iff_ne.2 (by omega)
  go_enter Tryz.func133, Tryz.ntmps133
  go_wp2_with fail
  refine (pass_ok b s i r 40 _ h hs hi hc).mono ?_
  rintro e w' ⟨rfl, h2, h3⟩
  go_wp2_with fail
  go_ret
  exact ⟨rfl, h2, h3⟩

set_option maxHeartbeats 400000 in
theorem open_none (b : Nat) (s : ByteArray) (i r : Nat) (w : World) (h : Rd b s i r w) :
    Calls Tryz.prog 133 #[.pointer (some ⟨b, 0, none⟩), .int .i64 0] w fun e w' => e = .panicked (thrown 2 i) ∧ Apart b w w' := by
  go_enter Tryz.func133, Tryz.ntmps133
  go_wp2_with fail
  refine (giveUp_any b s i r _ h).mono ?_
  rintro e w' ⟨rfl, rfl⟩
  exact ⟨rfl, rfl, Apart.refl _ _⟩

set_option maxHeartbeats 400000 in
theorem open_bad (b : Nat) (s : ByteArray) (i r k : Nat) (w : World) (h : Rd b s i r w) (hi : i ≤ s.size) (hc : nx s i ≠ 40) (hk : 0 < k) :
    Calls Tryz.prog 133 #[.pointer (some ⟨b, 0, none⟩), .int .i64 k] w fun e w' => e = .panicked (thrown 2 i) ∧ Apart b w w' := by
  obtain ⟨c0, c1, c2, cf⟩ := h.cells
  have hne : ((k : Int) == 0) = false := beq_eq_false_iff_ne.2 (by omega)
  go_enter Tryz.func133, Tryz.ntmps133
  go_wp2_with fail
  refine (pass_bad b s i r 40 _ h hi hc).mono ?_
  rintro e w' ⟨rfl, h3⟩
  exact ⟨rfl, rfl, h3⟩

set_option maxHeartbeats 400000 in
theorem rough_any (b : Nat) (s : ByteArray) (i r p : Nat) (w : World) (h0 : Rd b s i r w) :
    Calls Tryz.prog 134 #[.pointer (some ⟨b, 0, none⟩), .int .i64 p] w fun e w' => e = .returned (.tuple #[]) ∧ Rd b s i (min r p) w' ∧ Apart b w w' := by
  obtain ⟨c0, c1, c2, cf⟩ := h0.cells
  go_enter Tryz.func134, Tryz.ntmps134
  go_wp2_with fail
  · have e : min r p = p := by omega
    rw [e]
    go_end0
    exact ⟨rfl, h0.setRough p, (Apart.refl b w).setCell rfl _⟩
  · have e : min r p = r := by omega
    rw [e]
    go_end0
    exact ⟨rfl, h0.setRough r, (Apart.refl b w).setCell rfl _⟩

set_option maxHeartbeats 400000 in
theorem isDigit_any (c : Nat) (w : World) :
    Calls Tryz.prog 142 #[.int .u8 c] w fun e w' => e = .returned (.bool (isDig c)) ∧ w' = w := by
  by_cases h1 : (48 : Int) ≤ (c : Int)
  · by_cases h2 : (c : Int) ≤ 57
    · go_enter Tryz.func142, Tryz.ntmps142
      go_wp2_with fail
      go_ret
      have : isDig c = true := by unfold isDig; simp; omega
      rw [this]
      exact ⟨rfl, rfl⟩
    · go_enter Tryz.func142, Tryz.ntmps142
      go_wp2_with fail
      go_ret
      have : isDig c = false := by unfold isDig; simp; omega
      rw [this]
      exact ⟨rfl, rfl⟩
  · go_enter Tryz.func142, Tryz.ntmps142
    go_wp2_with fail
    go_ret
    have : isDig c = false := by unfold isDig; simp; omega
    rw [this]
    exact ⟨rfl, rfl⟩

end Go.Proofs.YtoebmfhgaalcdaaGreatDoor
