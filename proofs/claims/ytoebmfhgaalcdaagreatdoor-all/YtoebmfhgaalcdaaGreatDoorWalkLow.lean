/-
  Our own. tree.Lowest, Pairs; piece.None, isNone, shareOf, Share, Cut.
-/
import Derived.Test.YtoebmfhgaalcdaaGreatDoorWalkHalf
namespace Go.Proofs.YtoebmfhgaalcdaaGreatDoor
open Go.RowKit

set_option maxHeartbeats 800000 in
theorem low_leaf (k : Nat) (a : Int) (w : World) (hk : w.heap[k]? = some (.cells #[.int .i64 a, .pointer none, .pointer none] 139)) :
    Calls Tryz.prog 101 #[.pointer (some ⟨k, 0, none⟩)] w fun e w' => e = .returned (.int .i64 a) ∧ w' = w := by
  obtain ⟨k0, k1, _⟩ := cells3 hk
  clear hk
  go_enter Tryz.func101, Tryz.ntmps101
  go_wp2_with (go_at_call 103; refine (isLeafI_yes k _ k1).mono ?_; rintro e w' ⟨rfl, rfl⟩)
  go_ret
  exact ⟨rfl, rfl⟩

set_option maxHeartbeats 800000 in
theorem low_any (t : Tr Nat) : ∀ (w : World) (v : Value), TI w v t →
    Calls Tryz.prog 101 #[v] w fun e w' => e = .returned (.int .i64 (lowest t : Nat)) ∧ ∃ n, w' = w.drewN n := by
  induction t using Tr.ind with
  | leaf a =>
    intro w v h
    obtain ⟨k, rfl, hk⟩ := h
    refine (low_leaf k a w hk).mono ?_
    rintro e w' ⟨rfl, rfl⟩
    exact ⟨rfl, 0, rfl⟩
  | pair l r ihl ihr =>
    intro w v h
    obtain ⟨k, vl, vr, rfl, hk, hl, hr⟩ := h
    obtain ⟨k0, k1, k2⟩ := cells3 hk
    obtain ⟨m, rfl⟩ := hl.root
    obtain ⟨j, rfl⟩ := hr.root
    clear hk
    have HL : Hid (TI w (.pointer (some ⟨m, 0, none⟩)) l) := hl
    have HR : Hid (TI w (.pointer (some ⟨j, 0, none⟩)) r) := hr
    have IL : Hid (∀ (w : World) (v : Value), TI w v l → Calls Tryz.prog 101 #[v] w fun e w' => e = .returned (.int .i64 (lowest l : Nat)) ∧ ∃ n, w' = w.drewN n) := ihl
    have IR : Hid (∀ (w : World) (v : Value), TI w v r → Calls Tryz.prog 101 #[v] w fun e w' => e = .returned (.int .i64 (lowest r : Nat)) ∧ ∃ n, w' = w.drewN n) := ihr
    clear hl hr ihl ihr
    show Calls Tryz.prog 101 #[.pointer (some ⟨k, 0, none⟩)] w _
    by_cases hc : lowest r < lowest l
    · have e : lowest (.pair l r) = lowest r := by show min _ _ = _; omega
      rw [e]
      go_enter Tryz.func101, Tryz.ntmps101
      go_wp2_with (go_at_call 103; refine (isLeafI_no k m _ k1).mono ?_; rintro e w' ⟨rfl, rfl⟩)
      go_quiet (first
        | (go_at_call_of 101 (Value.pointer (some (Addr.mk m 0 none))); exact Calls.quiet_of (IL.out _ _ (HL.out.drewN _)))
        | (go_at_call_of 101 (Value.pointer (some (Addr.mk j 0 none))); exact Calls.quiet_of (IR.out _ _ (HR.out.drewN _))))
      go_wp2_with fail
      go_ret
      exact ⟨rfl, nq, rfl⟩
    · have e : lowest (.pair l r) = lowest l := by show min _ _ = _; omega
      rw [e]
      go_enter Tryz.func101, Tryz.ntmps101
      go_wp2_with (go_at_call 103; refine (isLeafI_no k m _ k1).mono ?_; rintro e w' ⟨rfl, rfl⟩)
      go_quiet (first
        | (go_at_call_of 101 (Value.pointer (some (Addr.mk m 0 none))); exact Calls.quiet_of (IL.out _ _ (HL.out.drewN _)))
        | (go_at_call_of 101 (Value.pointer (some (Addr.mk j 0 none))); exact Calls.quiet_of (IR.out _ _ (HR.out.drewN _))))
      go_wp2_with fail
      go_ret
      exact ⟨rfl, nq, rfl⟩

theorem pairs_pow {α : Type} (t : Tr α) : ∀ h, deepT t ≤ h → pairsT t + 1 ≤ 2 ^ h := by
  induction t using Tr.ind with
  | leaf a => intro h _; have : 1 ≤ 2 ^ h := Nat.one_le_two_pow; show 0 + 1 ≤ _; omega
  | pair l r ihl ihr =>
    intro h hd
    have hd : max (deepT l) (deepT r) + 1 ≤ h := hd
    cases h with
    | zero => omega
    | succ h =>
      have := ihl h (by omega)
      have := ihr h (by omega)
      show 1 + pairsT l + pairsT r + 1 ≤ _
      rw [Nat.pow_succ]; omega

set_option maxHeartbeats 800000 in
theorem pairs_any (t : Tr Nat) : deepT t ≤ 8 → ∀ (w : World) (v : Value), TI w v t →
    Calls Tryz.prog 147 #[v] w fun e w' => e = .returned (.int .i64 (pairsT t : Nat)) ∧ ∃ n, w' = w.drewN n := by
  induction t using Tr.ind with
  | leaf a =>
    intro _ w v h
    obtain ⟨k, rfl, hk⟩ := h
    obtain ⟨k0, k1, _⟩ := cells3 hk
    clear hk
    show Calls _ _ _ _ fun e w' => e = .returned (.int .i64 ((0 : Nat) : Int)) ∧ _
    go_enter Tryz.func147, Tryz.ntmps147
    go_wp2_with (go_at_call 103; refine (isLeafI_yes k _ k1).mono ?_; rintro e w' ⟨rfl, rfl⟩)
    go_ret
    exact ⟨rfl, 0, rfl⟩
  | pair l r ihl ihr =>
    intro hd w v h
    have hd0 : max (deepT l) (deepT r) + 1 ≤ 8 := hd
    have b1 := pairs_pow l 7 (by omega)
    have b2 := pairs_pow r 7 (by omega)
    replace ihl := ihl (by omega)
    replace ihr := ihr (by omega)
    clear hd hd0
    obtain ⟨k, vl, vr, rfl, hk, hl, hr⟩ := h
    obtain ⟨k0, k1, k2⟩ := cells3 hk
    obtain ⟨m, rfl⟩ := hl.root
    obtain ⟨j, rfl⟩ := hr.root
    clear hk
    show Calls _ _ _ _ fun e w' => e = .returned (.int .i64 ((1 + pairsT l + pairsT r : Nat) : Int)) ∧ _
    have HL : Hid (TI w (.pointer (some ⟨m, 0, none⟩)) l) := hl
    have HR : Hid (TI w (.pointer (some ⟨j, 0, none⟩)) r) := hr
    have IL := hide ihl
    have IR := hide ihr
    clear hl hr ihl ihr
    generalize pairsT l = x at *
    generalize pairsT r = y at *
    have e1 : IntKind.i64.wrap (1 + (x : Int)) = 1 + (x : Int) := by rw [IntKind.wrap_i64]; omega
    have e2 : IntKind.i64.wrap (1 + (x : Int) + (y : Int)) = ((1 + x + y : Nat) : Int) := by rw [IntKind.wrap_i64]; omega
    go_enter Tryz.func147, Tryz.ntmps147
    go_wp2_with (go_at_call 103; refine (isLeafI_no k m _ k1).mono ?_; rintro e w' ⟨rfl, rfl⟩)
    go_quiet (first
      | (go_at_call_of 147 (Value.pointer (some (Addr.mk m 0 none))); exact Calls.quiet_of (IL.out _ _ (HL.out.drewN _)))
      | (go_at_call_of 147 (Value.pointer (some (Addr.mk j 0 none))); exact Calls.quiet_of (IR.out _ _ (HR.out.drewN _))))
    go_wp2_with fail
    go_ret
    exact ⟨by first | rfl | (simp [e1, e2]) | omega, nq, rfl⟩

set_option maxHeartbeats 400000 in
theorem none_any (w : World) : Calls Tryz.prog 27 #[] w fun e w' => e = .returned (.pointer (some ⟨w.heap.size, 0, none⟩)) ∧ w' = w.alloc (.cells #[.bool false, .pointer none, .pointer none] 92) := by
  go_enter Tryz.func27, Tryz.ntmps27
  go_wp2_with (go_at_call 53; refine (leafB_any _ _).mono ?_; rintro e w' ⟨rfl, rfl⟩)
  go_ret
  exact ⟨rfl, rfl⟩

set_option maxHeartbeats 400000 in
theorem none_of (w : World) : Calls Tryz.prog 27 #[] w fun e w' => ∃ k, e = .returned (.pointer (some ⟨k, 0, none⟩)) ∧ TB w' (.pointer (some ⟨k, 0, none⟩)) (.leaf false) ∧ Below w.heap.size w w' := by
  have L : TB (w.alloc (.cells #[.bool false, .pointer none, .pointer none] 92)) (.pointer (some ⟨w.heap.size, 0, none⟩)) (.leaf false) := leaf_laid w false
  replace L := hide L
  go_enter Tryz.func27, Tryz.ntmps27
  go_wp2_with (go_at_call 53; refine (leafB_any _ _).mono ?_; rintro e w' ⟨rfl, rfl⟩)
  go_ret
  exact ⟨_, rfl, unhide L, below_alloc _ _⟩

theorem pairB_of {s t : Tr Bool} {w : World} {v u : Value} (h : TB w v s) (g : TB w u t) :
    Calls Tryz.prog 49 #[v, u] w fun e w' => ∃ k, e = .returned (.pointer (some ⟨k, 0, none⟩)) ∧ TB w' (.pointer (some ⟨k, 0, none⟩)) (.pair s t) ∧ Below w.heap.size w w' := by
  have P : TB (w.alloc (.cells #[.bool false, v, u] 92)) (.pointer (some ⟨w.heap.size, 0, none⟩)) (.pair s t) := pair_laid h g
  obtain ⟨k, rfl⟩ := TA.root h
  obtain ⟨j, rfl⟩ := TA.root g
  refine (pairB_any _ _ _).mono ?_
  rintro e w' ⟨rfl, rfl⟩
  exact ⟨_, rfl, P, below_alloc _ _⟩

set_option maxHeartbeats 400000 in
theorem isNone_of {t : Tr Bool} {w : World} {v : Value} (h : TB w v t) : Calls Tryz.prog 50 #[v] w fun e w' => e = .returned (.bool (isNoneP t)) ∧ w' = w := by
  have A := hide (isLeafB_of h)
  cases t using Tr.cs with
  | leaf a =>
    obtain ⟨k, rfl, hk⟩ := h
    obtain ⟨k0, k1, _⟩ := cells3 hk
    clear hk
    cases a
    all_goals
      go_enter Tryz.func50, Tryz.ntmps50
      go_wp2_with (go_at_call 48; refine (unhide A).mono ?_; rintro e w' ⟨rfl, rfl⟩)
      go_ret
      exact ⟨rfl, rfl⟩
  | pair l r =>
    obtain ⟨k, rfl⟩ := TA.root h
    clear h
    go_enter Tryz.func50, Tryz.ntmps50
    go_wp2_with (go_at_call 48; refine (unhide A).mono ?_; rintro e w' ⟨rfl, rfl⟩)
    go_ret
    exact ⟨rfl, rfl⟩

theorem share_row (t : Tr Bool) : ∀ n, shareP t n ≤ n := by
  induction t using Tr.ind with
  | leaf a => intro n; cases a <;> simp [shareP]
  | pair l r ihl ihr => intro n; have := ihl (n / 2); have := ihr (n / 2); show shareP l (n / 2) + shareP r (n / 2) ≤ n; omega

set_option maxHeartbeats 800000 in
theorem shareOf_any (t : Tr Bool) : ∀ (n : Nat), n ≤ 256 → ∀ (w : World) (v : Value), TB w v t →
    Calls Tryz.prog 47 #[v, .int .i64 (n : Int)] w fun e w' => e = .returned (.int .i64 (shareP t n : Nat)) ∧ ∃ k, w' = w.drewN k := by
  induction t using Tr.ind with
  | leaf a =>
    intro n hn w v h
    have A := hide (isLeafB_of h)
    obtain ⟨k, rfl, hk⟩ := h
    obtain ⟨k0, k1, _⟩ := cells3 hk
    clear hk
    cases a
    · show Calls _ _ _ _ fun e w' => e = .returned (.int .i64 ((0 : Nat) : Int)) ∧ _
      go_enter Tryz.func47, Tryz.ntmps47
      go_wp2_with (go_at_call 48; refine (unhide A).mono ?_; rintro e w' ⟨rfl, rfl⟩)
      go_ret
      exact ⟨rfl, 0, rfl⟩
    · show Calls _ _ _ _ fun e w' => e = .returned (.int .i64 (n : Int)) ∧ _
      go_enter Tryz.func47, Tryz.ntmps47
      go_wp2_with (go_at_call 48; refine (unhide A).mono ?_; rintro e w' ⟨rfl, rfl⟩)
      go_ret
      exact ⟨rfl, 0, rfl⟩
  | pair l r ihl ihr =>
    intro n hn w v h
    have A := hide (isLeafB_of h)
    have b1 := share_row l (n / 2)
    have b2 := share_row r (n / 2)
    replace ihl := ihl (n / 2) (by omega)
    replace ihr := ihr (n / 2) (by omega)
    obtain ⟨k, vl, vr, rfl, hk, hl, hr⟩ := h
    obtain ⟨k0, k1, k2⟩ := cells3 hk
    obtain ⟨m, rfl⟩ := hl.root
    obtain ⟨j, rfl⟩ := hr.root
    clear hk
    show Calls _ _ _ _ fun e w' => e = .returned (.int .i64 ((shareP l (n / 2) + shareP r (n / 2) : Nat) : Int)) ∧ _
    have HL : Hid (TB w (.pointer (some ⟨m, 0, none⟩)) l) := hl
    have HR : Hid (TB w (.pointer (some ⟨j, 0, none⟩)) r) := hr
    have eq : IntKind.i64.wrap ((n : Int).tdiv 2) = ((n / 2 : Nat) : Int) := by rw [IntKind.wrap_i64, Int.tdiv_eq_ediv_of_nonneg (by omega)]; omega
    have eq2 : IntKind.i64.wrap ((n : Int) / 2) = ((n / 2 : Nat) : Int) := by rw [IntKind.wrap_i64]; omega
    have IL := hide ihl
    have IR := hide ihr
    clear hl hr ihl ihr
    generalize shareP l (n / 2) = x at *
    generalize shareP r (n / 2) = y at *
    have e2 : IntKind.i64.wrap ((x : Int) + (y : Int)) = ((x + y : Nat) : Int) := by rw [IntKind.wrap_i64]; omega
    go_enter Tryz.func47, Tryz.ntmps47
    go_wp2_with (go_at_call 48; refine (unhide A).mono ?_; rintro e w' ⟨rfl, rfl⟩)
    go_quiet (first
      | (go_at_call_of 47 (Value.pointer (some (Addr.mk m 0 none))); exact Calls.quiet_of (IL.out _ _ (HL.out.drewN _)))
      | (go_at_call_of 47 (Value.pointer (some (Addr.mk j 0 none))); exact Calls.quiet_of (IR.out _ _ (HR.out.drewN _))))
    go_wp2_with fail
    go_ret
    exact ⟨by first | rfl | (simp [e2]) | omega, nq, rfl⟩

set_option maxHeartbeats 400000 in
theorem pShare_any (t : Tr Bool) (w : World) (v : Value) (h : TB w v t) :
    Calls Tryz.prog 24 #[v] w fun e w' => e = .returned (.int .i64 (shareP t 256 : Nat)) ∧ ∃ k, w' = w.drewN k := by
  have S := hide (shareOf_any t 256 (by omega) w v h)
  obtain ⟨k, rfl⟩ := TA.root h
  clear h
  generalize shareP t 256 = x at *
  go_enter Tryz.func24, Tryz.ntmps24
  go_wp2_with (go_at_call 47; refine (unhide S).mono ?_; rintro e w' ⟨rfl, n, rfl⟩)
  go_ret
  exact ⟨rfl, n, rfl⟩

/-- What Cut leaves. -/
def CutEnd (w : World) (t : Tr Bool) (e : Ending) (w' : World) : Prop := ∃ a b, e = .returned (.tuple #[.pointer (some ⟨a, 0, none⟩), .pointer (some ⟨b, 0, none⟩)]) ∧ TB w' (.pointer (some ⟨a, 0, none⟩)) (cutP t).1 ∧ TB w' (.pointer (some ⟨b, 0, none⟩)) (cutP t).2 ∧ Below w.heap.size w w'

theorem cut_two {w : World} {m j : Nat} {l r : Tr Bool} (hl : TB w (.pointer (some ⟨m, 0, none⟩)) l) (hr : TB w (.pointer (some ⟨j, 0, none⟩)) r) :
    TB ((((w.alloc (.cells #[.bool false, .pointer none, .pointer none] 92)).alloc (.cells #[.bool false, .pointer (some ⟨m, 0, none⟩), .pointer (some ⟨w.heap.size, 0, none⟩)] 92)).alloc (.cells #[.bool false, .pointer none, .pointer none] 92)).alloc
        (.cells #[.bool false, .pointer (some ⟨w.heap.size + 1 + 1, 0, none⟩), .pointer (some ⟨j, 0, none⟩)] 92)).drew (.pointer (some ⟨w.heap.size + 1, 0, none⟩)) (.pair l (.leaf false)) ∧
    TB ((((w.alloc (.cells #[.bool false, .pointer none, .pointer none] 92)).alloc (.cells #[.bool false, .pointer (some ⟨m, 0, none⟩), .pointer (some ⟨w.heap.size, 0, none⟩)] 92)).alloc (.cells #[.bool false, .pointer none, .pointer none] 92)).alloc
        (.cells #[.bool false, .pointer (some ⟨w.heap.size + 1 + 1, 0, none⟩), .pointer (some ⟨j, 0, none⟩)] 92)).drew (.pointer (some ⟨w.heap.size + 1 + 1 + 1, 0, none⟩)) (.pair (.leaf false) r) ∧
    Below w.heap.size w ((((w.alloc (.cells #[.bool false, .pointer none, .pointer none] 92)).alloc (.cells #[.bool false, .pointer (some ⟨m, 0, none⟩), .pointer (some ⟨w.heap.size, 0, none⟩)] 92)).alloc (.cells #[.bool false, .pointer none, .pointer none] 92)).alloc
        (.cells #[.bool false, .pointer (some ⟨w.heap.size + 1 + 1, 0, none⟩), .pointer (some ⟨j, 0, none⟩)] 92)).drew := by
  have L1 : TB (w.alloc (.cells #[.bool false, .pointer none, .pointer none] 92)) (.pointer (some ⟨w.heap.size, 0, none⟩)) (.leaf false) := leaf_laid w false
  have b1 := below_alloc w (.cells #[.bool false, .pointer none, .pointer none] 92)
  have s1 : (w.alloc (.cells #[.bool false, .pointer none, .pointer none] 92)).heap.size = w.heap.size + 1 := by simp
  generalize w.alloc (.cells #[.bool false, .pointer none, .pointer none] 92) = W1 at *
  have L2 : TB (W1.alloc (.cells #[.bool false, .pointer (some ⟨m, 0, none⟩), .pointer (some ⟨w.heap.size, 0, none⟩)] 92)) (.pointer (some ⟨W1.heap.size, 0, none⟩)) (.pair l (.leaf false)) := pair_laid (TA.below hl b1) L1
  have b2 := below_alloc W1 (.cells #[.bool false, .pointer (some ⟨m, 0, none⟩), .pointer (some ⟨w.heap.size, 0, none⟩)] 92)
  have s2 : (W1.alloc (.cells #[.bool false, .pointer (some ⟨m, 0, none⟩), .pointer (some ⟨w.heap.size, 0, none⟩)] 92)).heap.size = w.heap.size + 1 + 1 := by simp [s1]
  rw [s1] at L2
  generalize W1.alloc (.cells #[.bool false, .pointer (some ⟨m, 0, none⟩), .pointer (some ⟨w.heap.size, 0, none⟩)] 92) = W2 at *
  have L3 : TB (W2.alloc (.cells #[.bool false, .pointer none, .pointer none] 92)) (.pointer (some ⟨W2.heap.size, 0, none⟩)) (.leaf false) := leaf_laid W2 false
  have b3 := below_alloc W2 (.cells #[.bool false, .pointer none, .pointer none] 92)
  have s3 : (W2.alloc (.cells #[.bool false, .pointer none, .pointer none] 92)).heap.size = w.heap.size + 1 + 1 + 1 := by simp [s2]
  rw [s2] at L3
  generalize W2.alloc (.cells #[.bool false, .pointer none, .pointer none] 92) = W3 at *
  have L4 : TB (W3.alloc (.cells #[.bool false, .pointer (some ⟨w.heap.size + 1 + 1, 0, none⟩), .pointer (some ⟨j, 0, none⟩)] 92)) (.pointer (some ⟨W3.heap.size, 0, none⟩)) (.pair (.leaf false) r) := pair_laid L3 (TA.below (TA.below (TA.below hr b1) b2) b3)
  have b4 := below_alloc W3 (.cells #[.bool false, .pointer (some ⟨w.heap.size + 1 + 1, 0, none⟩), .pointer (some ⟨j, 0, none⟩)] 92)
  rw [s3] at L4
  generalize W3.alloc (.cells #[.bool false, .pointer (some ⟨w.heap.size + 1 + 1, 0, none⟩), .pointer (some ⟨j, 0, none⟩)] 92) = W4 at *
  exact ⟨TA.below (TA.below (TA.below L2 b3) b4) (below_drew W4), TA.below L4 (below_drew W4), below_trans (below_trans (below_trans (below_trans b1 b2) b3) b4) (below_drew W4)⟩

set_option maxHeartbeats 800000 in
theorem cut_any (t : Tr Bool) : ∀ (w : World) (v : Value), TB w v t → Calls Tryz.prog 25 #[v] w fun e w' => CutEnd w t e w' := by
  induction t using Tr.ind with
  | leaf a =>
    intro w v h
    have A := hide (isLeafB_of h)
    have H := hide h
    obtain ⟨k, rfl⟩ := TA.root h
    clear h
    go_enter Tryz.func25, Tryz.ntmps25
    go_wp2_with fail
    refine (unhide A).mono ?_
    rintro e w1 ⟨rfl, rfl⟩
    go_wp2_with fail
    refine (none_of _).mono ?_
    rintro e w2 ⟨k2, rfl, t2, b2⟩
    replace t2 := hide t2
    replace b2 := hide b2
    go_wp2_with fail
    refine (pairB_of (TA.below (unhide H) (unhide b2)) (unhide t2)).mono ?_
    rintro e w3 ⟨k3, rfl, t3, b3⟩
    replace t3 := hide t3
    replace b3 := hide b3
    go_wp2_with fail
    refine (none_of _).mono ?_
    rintro e w4 ⟨k4, rfl, t4, b4⟩
    replace t4 := hide t4
    replace b4 := hide b4
    go_wp2_with fail
    refine (pairB_of (unhide t4) (TA.below (TA.below (TA.below (unhide H) (unhide b2)) (unhide b3)) (unhide b4))).mono ?_
    rintro e w5 ⟨k5, rfl, t5, b5⟩
    replace t5 := hide t5
    replace b5 := hide b5
    go_wp2_with fail
    go_ret2
    exact ⟨_, _, rfl, TA.below (TA.below (unhide t3) (unhide b4)) (unhide b5), unhide t5, below_trans (below_trans (below_trans (unhide b2) (unhide b3)) (unhide b4)) (unhide b5)⟩
  | pair l r ihl ihr =>
    intro w v h
    have A := hide (isLeafB_of h)
    obtain ⟨k, vl, vr, rfl, hk, hl, hr⟩ := h
    obtain ⟨k0, k1, k2⟩ := cells3 hk
    have NL := isNone_of hl
    have NR := isNone_of hr
    have HL := hide hl
    have HR := hide hr
    obtain ⟨m, rfl⟩ := hl.root
    obtain ⟨j, rfl⟩ := hr.root
    replace ihl := hide (ihl w _ hl)
    replace ihr := hide (ihr w _ hr)
    clear hk hl hr
    cases fl : isNoneP l with
    | true =>
      rw [fl] at NL
      have E : cutP (.pair l r) = (.pair (.leaf false) (cutP r).1, .pair (.leaf false) (cutP r).2) := by show (if isNoneP l = true then _ else _) = _; rw [if_pos fl]
      unfold CutEnd
      rw [E]
      replace NL := hide NL
      clear NR fl E
      go_enter Tryz.func25, Tryz.ntmps25
      go_wp2_with fail
      refine (unhide A).mono ?_
      rintro e w1 ⟨rfl, rfl⟩
      go_wp2_with fail
      refine (unhide NL).mono ?_
      rintro e w1 ⟨rfl, rfl⟩
      go_wp2_with fail
      refine (unhide ihr).mono ?_
      rintro e w2 ⟨ka, kb, rfl, ta, tb, b2⟩
      replace ta := hide ta
      replace tb := hide tb
      replace b2 := hide b2
      go_wp2_with fail
      refine (none_of _).mono ?_
      rintro e w3 ⟨k3, rfl, t3, b3⟩
      replace t3 := hide t3
      replace b3 := hide b3
      go_wp2_with fail
      refine (pairB_of (unhide t3) (TA.below (unhide ta) (unhide b3))).mono ?_
      rintro e w4 ⟨k4, rfl, t4, b4⟩
      replace t4 := hide t4
      replace b4 := hide b4
      go_wp2_with fail
      refine (none_of _).mono ?_
      rintro e w5 ⟨k5, rfl, t5, b5⟩
      replace t5 := hide t5
      replace b5 := hide b5
      go_wp2_with fail
      refine (pairB_of (unhide t5) (TA.below (TA.below (TA.below (unhide tb) (unhide b3)) (unhide b4)) (unhide b5))).mono ?_
      rintro e w6 ⟨k6, rfl, t6, b6⟩
      replace t6 := hide t6
      replace b6 := hide b6
      go_wp2_with fail
      go_ret2
      exact ⟨_, _, rfl, TA.below (TA.below (unhide t4) (unhide b5)) (unhide b6), unhide t6, below_trans (below_trans (below_trans (below_trans (unhide b2) (unhide b3)) (unhide b4)) (unhide b5)) (unhide b6)⟩
    | false =>
      rw [fl] at NL
      replace NL := hide NL
      cases fr : isNoneP r with
      | true =>
        rw [fr] at NR
        have E : cutP (.pair l r) = (.pair (cutP l).1 (.leaf false), .pair (cutP l).2 (.leaf false)) := by show (if isNoneP l = true then _ else _) = _; rw [if_neg (by rw [fl]; exact Bool.false_ne_true), if_pos fr]
        unfold CutEnd
        rw [E]
        replace NR := hide NR
        clear fl fr E
        go_enter Tryz.func25, Tryz.ntmps25
        go_wp2_with fail
        refine (unhide A).mono ?_
        rintro e w1 ⟨rfl, rfl⟩
        go_wp2_with fail
        refine (unhide NL).mono ?_
        rintro e w1 ⟨rfl, rfl⟩
        go_wp2_with fail
        refine (unhide NR).mono ?_
        rintro e w1 ⟨rfl, rfl⟩
        go_wp2_with fail
        refine (unhide ihl).mono ?_
        rintro e w2 ⟨ka, kb, rfl, ta, tb, b2⟩
        replace ta := hide ta
        replace tb := hide tb
        replace b2 := hide b2
        go_wp2_with fail
        refine (none_of _).mono ?_
        rintro e w3 ⟨k3, rfl, t3, b3⟩
        replace t3 := hide t3
        replace b3 := hide b3
        go_wp2_with fail
        refine (pairB_of (TA.below (unhide ta) (unhide b3)) (unhide t3)).mono ?_
        rintro e w4 ⟨k4, rfl, t4, b4⟩
        replace t4 := hide t4
        replace b4 := hide b4
        go_wp2_with fail
        refine (none_of _).mono ?_
        rintro e w5 ⟨k5, rfl, t5, b5⟩
        replace t5 := hide t5
        replace b5 := hide b5
        go_wp2_with fail
        refine (pairB_of (TA.below (TA.below (TA.below (unhide tb) (unhide b3)) (unhide b4)) (unhide b5)) (unhide t5)).mono ?_
        rintro e w6 ⟨k6, rfl, t6, b6⟩
        replace t6 := hide t6
        replace b6 := hide b6
        go_wp2_with fail
        go_ret2
        exact ⟨_, _, rfl, TA.below (TA.below (unhide t4) (unhide b5)) (unhide b6), unhide t6, below_trans (below_trans (below_trans (below_trans (unhide b2) (unhide b3)) (unhide b4)) (unhide b5)) (unhide b6)⟩
      | false =>
        rw [fr] at NR
        have E : cutP (.pair l r) = (.pair l (.leaf false), .pair (.leaf false) r) := by show (if isNoneP l = true then _ else _) = _; rw [if_neg (by rw [fl]; exact Bool.false_ne_true), if_neg (by rw [fr]; exact Bool.false_ne_true)]
        unfold CutEnd
        rw [E]
        replace NR := hide NR
        clear fl fr E
        go_enter Tryz.func25, Tryz.ntmps25
        go_wp2_with fail
        refine (unhide A).mono ?_
        rintro e w1 ⟨rfl, rfl⟩
        go_wp2_with fail
        refine (unhide NL).mono ?_
        rintro e w1 ⟨rfl, rfl⟩
        go_wp2_with fail
        refine (unhide NR).mono ?_
        rintro e w1 ⟨rfl, rfl⟩
        have N1 := World.new_ne w1 ⟨k, 1, none⟩ k1
        have N2 := World.new_ne w1 ⟨k, 2, none⟩ k2
        go_wp2_with fail
        go_region_held3 (fun w' => w'.cell? ⟨k, 1, none⟩ = some (.pointer (some ⟨m, 0, none⟩)) ∧ w'.cell? ⟨k, 2, none⟩ = some (.pointer (some ⟨j, 0, none⟩)))
          (refine ⟨?_, ?_⟩ <;> (repeat first | assumption | refine cell_drew_keep ?_ | refine cell_alloc_keep ?_))
          (first
            | (go_at_call 27; refine (none_any _).mono ?_; rintro e w9 ⟨rfl, rfl⟩)
            | (go_at_call 49; refine (pairB_any _ _ _).mono ?_; rintro e w9 ⟨rfl, rfl⟩))
        all_goals
          go_wp2_with fail
          go_ret2
          exact ⟨_, _, rfl, (cut_two (unhide HL) (unhide HR)).1, (cut_two (unhide HL) (unhide HR)).2.1, (cut_two (unhide HL) (unhide HR)).2.2⟩

end Go.Proofs.YtoebmfhgaalcdaaGreatDoor
