/-
  Our own. sprigskeep.digits.
-/
import Derived.Test.YtoebmfhgaalcdaaDoorKeepWalk
import Derived.Test.YtoebmfhgaalcdaaDoorKeepAll
namespace Go.Proofs.YtoebmfhgaalcdaaDoor
open Go.RowKit

set_option maxRecDepth 100000 in
set_option maxHeartbeats 800000 in
theorem digits_low (n : Nat) (w : World) (h : n < 10) :
    Calls Tryd.prog 19 #[.int .i64 n] w fun e w' => e = .returned (.string ⟨(digs n).toArray⟩) ∧ Below w.heap.size w w' := by
  have e : digs n = [UInt8.ofNat (48 + n)] := digs_one n h
  have e2 : (48 + (n : Int)).toNat = 48 + n := by omega
  have E : Hid ((⟨(digs n).toArray⟩ : ByteArray) = ⟨#[UInt8.ofNat (48 + (n : Int)).toNat]⟩) := by
    show _ = _
    rw [e, e2]
  clear e e2
  generalize (⟨(digs n).toArray⟩ : ByteArray) = D at *
  have hcv := fun W hW => str_one w.heap.size (48 + (n : Int)) W hW
  go_enter Tryd.func19, Tryd.ntmps19
  go_wp2_with fail
  go_ret
  rw [E.out]
  exact ⟨rfl, (Below.refl _ _).alloc (Nat.le_refl _) _⟩

set_option maxRecDepth 100000 in
set_option maxHeartbeats 1600000 in
theorem digits_high (n : Nat) (w : World) (h : ¬ n < 10) (hn : n ≤ 4611686018427387904)
    (ih : Hid (∀ w : World, Calls Tryd.prog 19 #[.int .i64 (n / 10 : Nat)] w fun e w' => e = .returned (.string ⟨(digs (n / 10)).toArray⟩) ∧ Below w.heap.size w w')) :
    Calls Tryd.prog 19 #[.int .i64 n] w fun e w' => e = .returned (.string ⟨(digs n).toArray⟩) ∧ Below w.heap.size w w' := by
  have e : digs n = digs (n / 10) ++ [UInt8.ofNat (48 + n % 10)] := digs_more n h
  have e2 : (48 + (n : Int) % 10).toNat = 48 + n % 10 := by omega
  have E : Hid ((⟨(digs n).toArray⟩ : ByteArray) = ⟨(digs (n / 10)).toArray⟩ ++ ⟨#[UInt8.ofNat (IntKind.u8.wrap (IntKind.i64.wrap (48 + (n : Int).tmod 10))).toNat]⟩) := by
    show _ = _
    rw [rem_ten, e, e2]
    apply ByteArray.ext
    simp [ByteArray.data_append]
  clear e e2
  have A := hide (quo_ten n hn)
  have hD : (⟨(digs (n / 10)).toArray⟩ : ByteArray).size ≤ 19 := by
    have := digs_len 18 (n / 10) (by omega)
    simpa [ByteArray.size] using this
  generalize (⟨(digs n).toArray⟩ : ByteArray) = D at *
  generalize (⟨(digs (n / 10)).toArray⟩ : ByteArray) = D' at *
  have hcv := fun N W hW => str_one N (IntKind.u8.wrap (IntKind.i64.wrap (48 + (n : Int).tmod 10))) W hW
  go_enter Tryd.func19, Tryd.ntmps19
  go_wp2_with fail
  go_region_with (go_at_call 19; rw [unhide A]; refine (ih.out _).mono ?_; rintro e w1 ⟨rfl, b1⟩; obtain ⟨hc, hf⟩ := bcell b1; clear hf)
  all_goals clear hc
  all_goals rw [rem_ten] at E
  all_goals go_wp2_with fail
  all_goals go_ret
  all_goals rw [E.out]
  all_goals refine ⟨rfl, ?_⟩
  all_goals first
    | exact ((((Below.refl _ _).alloc (Nat.le_refl _) _).drew).trans (b1.mono (by simp)))
    | exact ((Below.refl _ _).drew.trans b1).alloc b1.size _

theorem digits_any (n : Nat) : n ≤ 4611686018427387904 → ∀ w : World,
    Calls Tryd.prog 19 #[.int .i64 n] w fun e w' => e = .returned (.string ⟨(digs n).toArray⟩) ∧ Below w.heap.size w w' := by
  induction n using Nat.strongRecOn with
  | _ n ih =>
    intro hn w
    by_cases h : n < 10
    · exact digits_low n w h
    · exact digits_high n w h hn (hide (ih (n / 10) (by omega) (by omega)))

end Go.Proofs.YtoebmfhgaalcdaaDoor
