/-
  Our own. The reader's num: what a call does.
-/
import Derived.Test.YtoebmfhgaalcdaaDoorWalk1
import Derived.Test.YtoebmfhgaalcdaaDoorPlain
import Derived.Deep.LoopGhost
namespace Go.Proofs.YtoebmfhgaalcdaaDoor
open Go.RowKit

/-- What a call of num leaves. -/
def NumEnd (b : Nat) (s : ByteArray) (r : Nat) (w : World) (o : Nm) (e : Ending) (w' : World) : Prop :=
  match o with
  | ⟨.inl (n, j)⟩ => e = .returned (.int .i64 n) ∧ Rd b s j r w' ∧ Apart b w w'
  | ⟨.inr j⟩ => e = .panicked (thrown 2 j) ∧ Apart b w w'

set_option maxHeartbeats 400000 in
theorem num_none (b : Nat) (s : ByteArray) (i r : Nat) (w : World) (h : Rd b s i r w) (hi : i ≤ s.size) (hd : isDig (nx s i) = false) :
    Calls Tryd.prog 101 #[.pointer (some ⟨b, 0, none⟩)] w fun e w' => e = .panicked (thrown 2 i) ∧ Apart b w w' := by
  go_enter Tryd.func101, Tryd.ntmps101
  go_wp2_with fail
  refine (next_k b s i r _ h hi).mono ?_
  rintro e w1 ⟨rfl, h1, a1⟩
  go_wp2_with fail
  refine (isDigit_any _ _).mono ?_
  rintro e w' ⟨rfl, rfl⟩
  go_wp2_with fail
  refine (giveUp_any b s i r _ h1).mono ?_
  rintro e w' ⟨rfl, rfl⟩
  exact ⟨rfl, rfl, a1⟩

set_option maxHeartbeats 400000 in
theorem num_nought (b : Nat) (s : ByteArray) (i r : Nat) (w : World) (h : Rd b s i r w) (hs : s.size ≤ 20000) (hi : i < s.size) (hd : nx s i = 48) :
    Calls Tryd.prog 101 #[.pointer (some ⟨b, 0, none⟩)] w fun e w' => e = .returned (.int .i64 0) ∧ Rd b s (i + 1) r w' ∧ Apart b w w' := by
  have hg : isDig (nx s i) = true := by rw [hd]; rfl
  have he : ((nx s i : Int) == 48) = true := beq_iff_eq.2 (by omega)
  have HD : Hid (nx s i = 48) := hd
  clear hd
  go_enter Tryd.func101, Tryd.ntmps101
  go_wp2_with fail
  refine (next_k b s i r _ h (by omega)).mono ?_
  rintro e w1 ⟨rfl, h1, a1⟩
  go_wp2_with fail
  refine (isDigit_any _ _).mono ?_
  rintro e w' ⟨rfl, rfl⟩
  go_wp2_with fail
  refine (next_k b s i r _ h1 (by omega)).mono ?_
  rintro e w2 ⟨rfl, h2, a2⟩
  go_wp2_with fail
  refine (pass_ok b s i r 48 _ h2 hs hi HD.out).mono ?_
  rintro e w3 ⟨rfl, h3, a3⟩
  go_wp2_with fail
  go_ret
  exact ⟨rfl, h3, (a1.trans a2).trans a3⟩

set_option maxHeartbeats 400000 in
theorem num_some (b : Nat) (s : ByteArray) (i r : Nat) (w : World) (h : Rd b s i r w) (hs : s.size ≤ 20000) (hi : i < s.size) (hd : nx s i ≠ 48) (hg : isDig (nx s i) = true) :
    Calls Tryd.prog 101 #[.pointer (some ⟨b, 0, none⟩)] w fun e w' => NumEnd b s r w (numGo s (s.size + 1 - i) i 0) e w' := by
  have he : ((nx s i : Int) == 48) = false := beq_eq_false_iff_ne.2 (by omega)
  go_enter Tryd.func101, Tryd.ntmps101
  go_wp2_with fail
  refine (next_k b s i r _ h (by omega)).mono ?_
  rintro e w1 ⟨rfl, h1, a1⟩
  go_wp2_with fail
  refine (isDigit_any _ _).mono ?_
  rintro e w' ⟨rfl, rfl⟩
  go_wp2_with fail
  refine (next_k b s i r _ h1 (by omega)).mono ?_
  rintro e w2 ⟨rfl, h2, a2⟩
  go_wp2_with fail
  have a12 := a1.trans a2
  clear hd hg he h h1 a1 a2
  go_loopg [3] (s.size + 1 - i) (fun k v wr => ∃ j n : Nat, k = s.size + 1 - j ∧ j ≤ s.size ∧ n ≤ 1099511627776 ∧ v = .int .i64 n ∧ Rd b s j r wr ∧ Apart b w wr ∧ numGo s (s.size + 1 - i) i 0 = numGo s (s.size + 1 - j) j n)
  case atStart => exact ⟨i, 0, rfl, by omega, by omega, rfl, h2, a12, rfl⟩
  case round =>
    obtain ⟨j, n, hk, hj, hn, rfl, hr, ha, hgo⟩ := hrel
    have HG : Hid (numGo s (s.size + 1 - i) i 0 = numGo s (s.size + 1 - j) j n) := hgo
    have HK : Hid (gk = s.size + 1 - j) := hk
    clear hgo hk h2 a12
    cases hg : isDig (nx s j)
    · go_wp2_with fail
      refine (next_k b s j r _ hr hj).mono ?_
      rintro e w3 ⟨rfl, h3, a3⟩
      go_wp2_with fail
      refine (isDigit_any _ _).mono ?_
      rintro e w' ⟨rfl, rfl⟩
      go_wp2_with fail
      go_ret
      rw [HG.out, numGo_end s j n hj hg]
      exact ⟨rfl, h3, ha.trans a3⟩
    · obtain ⟨d1, d2⟩ := (isDig_iff _).1 hg
      have hlt : j < s.size := lt_of_nx s j (by omega)
      have d3 : (48 : Int) ≤ (nx s j : Int) := by omega
      have d4 : (nx s j : Int) ≤ 57 := by omega
      go_wp2_with fail
      refine (next_k b s j r _ hr hj).mono ?_
      rintro e w3 ⟨rfl, h3, a3⟩
      go_wp2_with fail
      refine (isDigit_any _ _).mono ?_
      rintro e w' ⟨rfl, rfl⟩
      go_wp2_with fail
      refine (next_k b s j r _ h3 hj).mono ?_
      rintro e w4 ⟨rfl, h4, a4⟩
      by_cases hov : 1099511627776 < 10 * n + (nx s j - 48)
      · go_wp2_with fail
        refine (giveUp_any b s j r _ h4).mono ?_
        rintro e w5 ⟨rfl, rfl⟩
        refine ⟨rfl, ?_⟩
        rw [HG.out, numGo_bad s j n hlt hg hov]
        exact ⟨rfl, (ha.trans a3).trans a4⟩
      · obtain ⟨c0, c1, c2, cf⟩ := h4.cells
        go_wp2_with fail
        go_roundg (s.size + 1 - (j + 1))
        case measure => rw [HK.out]; omega
        case rel =>
          refine ⟨j + 1, 10 * n + (nx s j - 48), rfl, by omega, by omega, ?_, h4.setAt (j + 1), ((ha.trans a3).trans a4).setCell rfl _, ?_⟩
          · have e : ((10 * n + (nx s j - 48) : Nat) : Int) = 10 * (n : Int) + ((nx s j : Int) - 48) := by omega
            rw [e]
          · rw [HG.out, numGo_step s j n hlt hg hov]

theorem num_any (b : Nat) (s : ByteArray) (i r : Nat) (w : World) (h : Rd b s i r w) (hs : s.size ≤ 20000) (hi : i ≤ s.size) :
    Calls Tryd.prog 101 #[.pointer (some ⟨b, 0, none⟩)] w fun e w' => NumEnd b s r w (numR s i) e w' := by
  unfold numR
  cases hg : isDig (nx s i)
  · exact num_none b s i r w h hi hg
  · have hlt : i < s.size := lt_of_nx s i (by have := (isDig_iff _).1 hg; omega)
    simp only [Bool.true_eq_false, if_false]
    by_cases hd : nx s i = 48
    · rw [if_pos hd]; exact num_nought b s i r w h hs hlt hd
    · rw [if_neg hd]; exact num_some b s i r w h hs hlt hd hg

end Go.Proofs.YtoebmfhgaalcdaaDoor
