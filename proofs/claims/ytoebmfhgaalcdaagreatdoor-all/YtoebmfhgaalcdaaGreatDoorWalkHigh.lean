/-
  Our own. tree.Highest.
-/
import Derived.Test.YtoebmfhgaalcdaaGreatDoorTrees
namespace Go.Proofs.YtoebmfhgaalcdaaGreatDoor
open Go.RowKit

set_option maxHeartbeats 800000 in
theorem high_leaf (k : Nat) (a : Int) (w : World) (hk : w.heap[k]? = some (.cells #[.int .i64 a, .pointer none, .pointer none] 139)) :
    Calls Tryz.prog 75 #[.pointer (some ⟨k, 0, none⟩)] w fun e w' => e = .returned (.int .i64 a) ∧ w' = w := by
  obtain ⟨k0, k1, _⟩ := cells3 hk
  clear hk
  go_enter Tryz.func75, Tryz.ntmps75
  go_wp2_with (go_at_call 103; refine (isLeafI_yes k _ k1).mono ?_; rintro e w' ⟨rfl, rfl⟩)
  go_ret
  exact ⟨rfl, rfl⟩

set_option maxHeartbeats 800000 in
theorem high_any (t : Tr Nat) : ∀ (w : World) (v : Value), TI w v t →
    Calls Tryz.prog 75 #[v] w fun e w' => e = .returned (.int .i64 (highest t : Nat)) ∧ ∃ n, w' = w.drewN n := by
  induction t using Tr.ind with
  | leaf a =>
    intro w v h
    obtain ⟨k, rfl, hk⟩ := h
    refine (high_leaf k a w hk).mono ?_
    rintro e w' ⟨rfl, rfl⟩
    exact ⟨rfl, 0, rfl⟩
  | pair l r ihl ihr =>
    intro w v h
    obtain ⟨k, vl, vr, rfl, hk, hl, hr⟩ := h
    obtain ⟨k0, k1, k2⟩ := cells3 hk
    obtain ⟨m, rfl⟩ := hl.root
    obtain ⟨j, rfl⟩ := hr.root
    clear hk
    have HL : Hid (TI w (.pointer (some ⟨m, 0, none⟩)) l) := hl
    have HR : Hid (TI w (.pointer (some ⟨j, 0, none⟩)) r) := hr
    have IL : Hid (∀ (w : World) (v : Value), TI w v l → Calls Tryz.prog 75 #[v] w fun e w' => e = .returned (.int .i64 (highest l : Nat)) ∧ ∃ n, w' = w.drewN n) := ihl
    have IR : Hid (∀ (w : World) (v : Value), TI w v r → Calls Tryz.prog 75 #[v] w fun e w' => e = .returned (.int .i64 (highest r : Nat)) ∧ ∃ n, w' = w.drewN n) := ihr
    clear hl hr ihl ihr
    show Calls Tryz.prog 75 #[.pointer (some ⟨k, 0, none⟩)] w _
    by_cases hc : highest l < highest r
    · have e : highest (.pair l r) = highest r := by show max _ _ = _; omega
      rw [e]
      go_enter Tryz.func75, Tryz.ntmps75
      go_wp2_with (go_at_call 103; refine (isLeafI_no k m _ k1).mono ?_; rintro e w' ⟨rfl, rfl⟩)
      go_quiet (first
        | (go_at_call_of 75 (Value.pointer (some (Addr.mk m 0 none))); exact Calls.quiet_of (IL.out _ _ (HL.out.drewN _)))
        | (go_at_call_of 75 (Value.pointer (some (Addr.mk j 0 none))); exact Calls.quiet_of (IR.out _ _ (HR.out.drewN _))))
      go_wp2_with fail
      go_ret
      exact ⟨rfl, nq, rfl⟩
    · have e : highest (.pair l r) = highest l := by show max _ _ = _; omega
      rw [e]
      go_enter Tryz.func75, Tryz.ntmps75
      go_wp2_with (go_at_call 103; refine (isLeafI_no k m _ k1).mono ?_; rintro e w' ⟨rfl, rfl⟩)
      go_quiet (first
        | (go_at_call_of 75 (Value.pointer (some (Addr.mk m 0 none))); exact Calls.quiet_of (IL.out _ _ (HL.out.drewN _)))
        | (go_at_call_of 75 (Value.pointer (some (Addr.mk j 0 none))); exact Calls.quiet_of (IR.out _ _ (HR.out.drewN _))))
      go_wp2_with fail
      go_ret
      exact ⟨rfl, nq, rfl⟩

end Go.Proofs.YtoebmfhgaalcdaaGreatDoor
