/-
  Our own. sprigskeep.digits.
-/
import Derived.Test.YtoebmfhgaalcdaaDoorKeepWalk
namespace Go.Proofs.YtoebmfhgaalcdaaDoor
open Go.RowKit

theorem str_one (N : Nat) (x : Int) (W : World) (h : W.cell? ⟨N, 0, none⟩ = some (.int .u8 x)) : (convert 79 9 (.slice (some ⟨N, 0, none⟩) 1 1)).run Tryd.prog W = .ok (.string ⟨#[UInt8.ofNat x.toNat]⟩) W := by
  have := run_convert_bytes_arg (P := Tryd.prog) W 79 5 Tryd.underlying79 Tryd.underlying5 N 0 1 1 [x] rfl (fun i hi => by
    have e : i = 0 := by omega
    subst e; simpa using h) 9 Tryd.underlying9
  rw [this]
  simp [strOfNums]

set_option maxRecDepth 100000 in
set_option maxHeartbeats 800000 in
theorem digits_low (n : Nat) (w : World) (h : n < 10) :
    Calls Tryd.prog 19 #[.int .i64 n] w fun e w' => e = .returned (.string ⟨(digs n).toArray⟩) ∧ Below w.heap.size w w' := by
  have e : digs n = [UInt8.ofNat (48 + n)] := digs_one n h
  have e2 : (48 + (n : Int)).toNat = 48 + n := by omega
  have E : Hid ((⟨(digs n).toArray⟩ : ByteArray) = ⟨#[UInt8.ofNat (48 + (n : Int)).toNat]⟩) := by
    show _ = _
    rw [e, e2]
  clear e e2
  generalize (⟨(digs n).toArray⟩ : ByteArray) = D at *
  have hcv := fun W hW => str_one w.heap.size (48 + (n : Int)) W hW
  go_enter Tryd.func19, Tryd.ntmps19
  go_wp2_with fail
  go_ret
  rw [E.out]
  exact ⟨rfl, (Below.refl _ _).alloc (Nat.le_refl _) _⟩

theorem digs_len : ∀ (k n : Nat), n < 10 ^ (k + 1) → (digs n).length ≤ k + 1
  | 0, n, h => by rw [digs_one n (by simpa using h)]; simp
  | k + 1, n, h => by
    by_cases g : n < 10
    · rw [digs_one n g]; simp
    · rw [digs_more n g]
      have := digs_len k (n / 10) (by rw [Nat.pow_succ] at h; omega)
      simp; omega

theorem bcell {W w1 : World} (hb : Below W.heap.size W w1) : (∀ b o, b < W.heap.size → w1.cell? ⟨b, o, none⟩ = W.cell? ⟨b, o, none⟩) ∧ (∀ b o, b < W.heap.size → w1.frozen? ⟨b, o, none⟩ = W.frozen? ⟨b, o, none⟩) :=
  ⟨fun b o h => hb.cell (p := ⟨b, o, none⟩) h, fun b o h => hb.frozen (p := ⟨b, o, none⟩) h⟩

theorem quo_ten (n : Nat) (hn : n ≤ 4611686018427387904) : IntKind.i64.wrap ((n : Int) / 10) = ((n / 10 : Nat) : Int) := by
  rw [IntKind.wrap_i64]; omega
theorem rem_ten (n : Nat) : IntKind.u8.wrap (IntKind.i64.wrap (48 + (n : Int).tmod 10)) = 48 + (n : Int) % 10 := by
  rw [IntKind.wrap_u8, IntKind.wrap_i64, Int.tmod_eq_emod_of_nonneg (by omega)]; omega

set_option maxRecDepth 100000 in
set_option maxHeartbeats 1600000 in
theorem digits_high (n : Nat) (w : World) (h : ¬ n < 10) (hn : n ≤ 4611686018427387904)
    (ih : Hid (∀ w : World, Calls Tryd.prog 19 #[.int .i64 (n / 10 : Nat)] w fun e w' => e = .returned (.string ⟨(digs (n / 10)).toArray⟩) ∧ Below w.heap.size w w')) :
    Calls Tryd.prog 19 #[.int .i64 n] w fun e w' => e = .returned (.string ⟨(digs n).toArray⟩) ∧ Below w.heap.size w w' := by
  have e : digs n = digs (n / 10) ++ [UInt8.ofNat (48 + n % 10)] := digs_more n h
  have e2 : (48 + (n : Int) % 10).toNat = 48 + n % 10 := by omega
  have E : Hid ((⟨(digs n).toArray⟩ : ByteArray) = ⟨(digs (n / 10)).toArray⟩ ++ ⟨#[UInt8.ofNat (IntKind.u8.wrap (IntKind.i64.wrap (48 + (n : Int).tmod 10))).toNat]⟩) := by
    show _ = _
    rw [rem_ten, e, e2]
    apply ByteArray.ext
    simp [ByteArray.data_append]
  clear e e2
  have A := hide (quo_ten n hn)
  have hD : (⟨(digs (n / 10)).toArray⟩ : ByteArray).size ≤ 19 := by
    have := digs_len 18 (n / 10) (by omega)
    simpa [ByteArray.size] using this
  generalize (⟨(digs n).toArray⟩ : ByteArray) = D at *
  generalize (⟨(digs (n / 10)).toArray⟩ : ByteArray) = D' at *
  have hcv := fun N W hW => str_one N (IntKind.u8.wrap (IntKind.i64.wrap (48 + (n : Int).tmod 10))) W hW
  go_enter Tryd.func19, Tryd.ntmps19
  go_wp2_with fail
  go_region_with (go_at_call 19; rw [unhide A]; refine (ih.out _).mono ?_; rintro e w1 ⟨rfl, b1⟩; obtain ⟨hc, hf⟩ := bcell b1; clear hf)
  all_goals clear hc
  all_goals rw [rem_ten] at E
  all_goals go_wp2_with fail
  all_goals go_ret
  all_goals rw [E.out]
  all_goals refine ⟨rfl, ?_⟩
  all_goals first
    | exact ((((Below.refl _ _).alloc (Nat.le_refl _) _).drew).trans (b1.mono (by simp)))
    | exact ((Below.refl _ _).drew.trans b1).alloc b1.size _

theorem digits_any (n : Nat) : n ≤ 4611686018427387904 → ∀ w : World,
    Calls Tryd.prog 19 #[.int .i64 n] w fun e w' => e = .returned (.string ⟨(digs n).toArray⟩) ∧ Below w.heap.size w w' := by
  induction n using Nat.strongRecOn with
  | _ n ih =>
    intro hn w
    by_cases h : n < 10
    · exact digits_low n w h
    · exact digits_high n w h hn (hide (ih (n / 10) (by omega) (by omega)))

end Go.Proofs.YtoebmfhgaalcdaaDoor
