/-
  Our own. (*sprigsref.Stamp).ev.
-/
import Derived.Test.YtoebmfhgaalcdaaGreatDoorRefId
namespace Go.Proofs.YtoebmfhgaalcdaaGreatDoor
open Go.RowKit

theorem numF_of {s : ByteArray} {i n j : Nat} (h : numR s i = .ok n j) (hd : isDig (nx s j) = false) : numF s i = .ok n j := by
  unfold numR at h
  unfold numF
  by_cases g : isDig (nx s i) = false
  · rw [if_pos g] at h; exact (Nm.bad_ok h).elim
  · rw [if_neg g] at h ⊢
    by_cases z : nx s i = 48
    · rw [if_pos z] at h ⊢
      obtain ⟨rfl, rfl⟩ := Nm.ok_inj h
      rw [if_neg (by rw [hd]; decide)]
    · rw [if_neg z] at h ⊢; exact h

set_option maxRecDepth 100000 in
set_option maxHeartbeats 1000000 in
theorem rev_leaf (b : Nat) (s : ByteArray) (i j from_ n base v : Nat) (H : Nat → Bool) (C : Nat → Nat) (w : World) (h : St b H C w) (hs : s.size ≤ 20000) (hi : i < s.size) (hc : nx s i ≠ 40) (hn : from_ + n ≤ 256)
    (hb : base ≤ 109951162777600) (hv : v ≤ 1099511627776) (hC : ∀ k, from_ ≤ k → k < from_ + n → C k = base) (hf : numF s i = .ok v j) :
    Calls Tryz.prog 78 #[.pointer (some ⟨b, 0, none⟩), .string s, .int .i64 i, .int .i64 from_, .int .i64 n] w fun e w' =>
      e = .returned (.int .i64 (j : Nat)) ∧ St b H (lay (fun _ => base + v) from_ n C) w' ∧ Apart b w w' := by
  have e0 := nx_in s i hi
  have hne : ((s[i].toNat : Int) == 40) = false := beq_eq_false_iff_ne.2 (by omega)
  have N := hide (fun w1 => number_any s i w1 hs)
  rw [hf] at N
  have HC := hide hC
  clear hc e0 hC hf
  go_enter Tryz.func78, Tryz.ntmps78
  go_wp2_with fail
  refine (unhide N _).mono ?_
  rintro e w1 ⟨rfl, rfl⟩
  simp only [numRes]
  go_wp2_with fail
  go_loopg [15] n (fun k x wr => ∃ m : Nat, m + k = n ∧ x = .int .i64 ((from_ + m : Nat) : Int) ∧ St b H (lay (fun _ => base + v) from_ m C) wr ∧ Apart b w1 wr)
  case atStart => exact ⟨0, by omega, rfl, h.congr (fun _ _ => rfl) (fun i _ => (lay_none _ _ _ _).symm), Apart.refl _ _⟩
  case round =>
    obtain ⟨m, hm, rfl, hst, ha⟩ := hrel
    by_cases hlt : m < n
    · have hc := hst.counts (from_ + m) (by omega)
      rw [lay_out _ _ _ _ _ (by omega), (unhide HC) (from_ + m) (by omega) (by omega)] at hc
      have hfz := hst.free
      have l1 : ((from_ + m : Nat) : Int) < (from_ : Int) + (n : Int) := by omega
      have l2 : ((from_ + m : Nat) : Int) < 256 := by omega
      have S2 := hide ((hst.setCount (from_ + m) (by omega) (base + v)).congr (fun _ _ => rfl) (fun i _ => lay_snoc (base + v) from_ m C i))
      have HJ := hide hm
      have ew : IntKind.i64.wrap ((base : Int) + (v : Int)) = (base : Int) + (v : Int) := by rw [IntKind.wrap_i64]; omega
      clear hm h hst
      go_wp2_with fail
      go_region
      all_goals
        go_wp2_with fail
        go_roundg (gk - 1)
        case measure => have := unhide HJ; omega
        case rel =>
          have := unhide HJ
          refine ⟨m + 1, by omega, by go_num, unhide S2, (ha.setCell rfl _).trans (Apart.drewN b _ 1)⟩
    · have hjn : m = n := by omega
      subst hjn
      have l1 : ¬ ((from_ + m : Nat) : Int) < (from_ : Int) + (m : Int) := by omega
      clear hm hlt h
      go_wp2_with fail
      go_ret
      exact ⟨rfl, hst, ha⟩

theorem lay_twoI (l u : Tr Nat) (h a c : Nat) (C : Nat → Nat) (i : Nat) :
    lay (cellI u (2 ^ h)) (a + 2 ^ h) (2 ^ h) (lay (cellI l (2 ^ h)) a (2 ^ h) (lay (fun _ => c) a (2 ^ (h + 1)) C)) i = lay (cellI (.pair l u) (2 ^ (h + 1))) a (2 ^ (h + 1)) C i := by
  have e : 2 ^ (h + 1) = 2 ^ h + 2 ^ h := by rw [Nat.pow_succ]; omega
  by_cases g1 : a ≤ i ∧ i < a + 2 ^ h
  · rw [lay_out _ _ _ _ _ (by omega), lay_in _ _ _ _ _ g1.1 g1.2, lay_in (cellI (.pair l u) (2 ^ (h + 1))) _ _ _ _ g1.1 (by omega)]
    show _ = if i - a < 2 ^ (h + 1) / 2 then _ else _
    rw [two_pow_half, if_pos (by omega)]
  · by_cases g2 : a + 2 ^ h ≤ i ∧ i < a + 2 ^ h + 2 ^ h
    · rw [lay_in _ _ _ _ _ g2.1 g2.2, lay_in (cellI (.pair l u) (2 ^ (h + 1))) _ _ _ _ (by omega) (by omega)]
      show _ = if i - a < 2 ^ (h + 1) / 2 then _ else _
      rw [two_pow_half, if_neg (by omega)]
      congr 1; omega
    · rw [lay_out _ _ _ _ _ g2, lay_out _ _ _ _ _ g1, lay_out _ _ _ _ _ (by omega), lay_out _ _ _ _ _ (by omega)]

set_option maxRecDepth 100000 in
set_option maxHeartbeats 2000000 in
theorem rev_pair (b : Nat) (s : ByteArray) (i i1 i2 i4 from_ n base v : Nat) (H : Nat → Bool) (C C2 C3 : Nat → Nat) (w : World) (h : St b H C w) (hs : s.size ≤ 20000) (hi : i < s.size) (hi1 : i1 < s.size) (hi2 : i2 < s.size) (hi4 : i4 < s.size)
    (hc : nx s i = 40) (hn : from_ + n ≤ 256) (hb : base ≤ 109951162777600) (hv : v ≤ 1099511627776) (hC : ∀ k, from_ ≤ k → k < from_ + n → C k = base) (hf : numF s (i + 1) = .ok v i1)
    (I1 : Hid (∀ w1, St b H (lay (fun _ => base + v) from_ n C) w1 → Calls Tryz.prog 78 #[.pointer (some ⟨b, 0, none⟩), .string s, .int .i64 ((i1 + 1 : Nat) : Int), .int .i64 from_, .int .i64 ((n / 2 : Nat) : Int)] w1 fun e w' => e = .returned (.int .i64 (i2 : Nat)) ∧ St b H C2 w' ∧ Apart b w1 w'))
    (I2 : Hid (∀ w1, St b H C2 w1 → Calls Tryz.prog 78 #[.pointer (some ⟨b, 0, none⟩), .string s, .int .i64 ((i2 + 1 : Nat) : Int), .int .i64 ((from_ + n / 2 : Nat) : Int), .int .i64 ((n / 2 : Nat) : Int)] w1 fun e w' => e = .returned (.int .i64 (i4 : Nat)) ∧ St b H C3 w' ∧ Apart b w1 w')) :
    Calls Tryz.prog 78 #[.pointer (some ⟨b, 0, none⟩), .string s, .int .i64 i, .int .i64 from_, .int .i64 n] w fun e w' =>
      e = .returned (.int .i64 ((i4 + 1 : Nat) : Int)) ∧ St b H C3 w' ∧ Apart b w w' := by
  have e0 := nx_in s i hi
  have hne : ((s[i].toNat : Int) == 40) = true := beq_iff_eq.2 (by omega)
  have N := hide (fun w1 => number_any s (i + 1) w1 hs)
  rw [hf] at N
  have HC := hide hC
  clear hc e0 hC hf
  go_enter Tryz.func78, Tryz.ntmps78
  go_wp2_with fail
  refine (unhide N _).mono ?_
  rintro e w1 ⟨rfl, rfl⟩
  simp only [numRes]
  go_wp2_with fail
  go_loopg [15] n (fun k x wr => ∃ m : Nat, m + k = n ∧ x = .int .i64 ((from_ + m : Nat) : Int) ∧ St b H (lay (fun _ => base + v) from_ m C) wr ∧ Apart b w1 wr)
  case atStart => exact ⟨0, by omega, rfl, h.congr (fun _ _ => rfl) (fun i _ => (lay_none _ _ _ _).symm), Apart.refl _ _⟩
  case round =>
    obtain ⟨m, hm, rfl, hst, ha⟩ := hrel
    by_cases hlt : m < n
    · have hc := hst.counts (from_ + m) (by omega)
      rw [lay_out _ _ _ _ _ (by omega), (unhide HC) (from_ + m) (by omega) (by omega)] at hc
      have hfz := hst.free
      have l1 : ((from_ + m : Nat) : Int) < (from_ : Int) + (n : Int) := by omega
      have l2 : ((from_ + m : Nat) : Int) < 256 := by omega
      have S2 := hide ((hst.setCount (from_ + m) (by omega) (base + v)).congr (fun _ _ => rfl) (fun i _ => lay_snoc (base + v) from_ m C i))
      have HJ := hide hm
      have ew : IntKind.i64.wrap ((base : Int) + (v : Int)) = (base : Int) + (v : Int) := by rw [IntKind.wrap_i64]; omega
      clear hm h hst
      go_wp2_with fail
      go_region
      all_goals
        go_wp2_with fail
        go_roundg (gk - 1)
        case measure => have := unhide HJ; omega
        case rel =>
          have := unhide HJ
          refine ⟨m + 1, by omega, by go_num, unhide S2, (ha.setCell rfl _).trans (Apart.drewN b _ 1)⟩
    · have hjn : m = n := by omega
      subst hjn
      have l1 : ¬ ((from_ + m : Nat) : Int) < (from_ : Int) + (m : Int) := by omega
      clear hm hlt h
      go_wp2_with fail
      refine (unhide I1 _ hst).mono ?_
      rintro e w2 ⟨rfl, h2, a2⟩
      go_wp2_with fail
      refine (unhide I2 _ h2).mono ?_
      rintro e w3 ⟨rfl, h3, a3⟩
      go_wp2_with fail
      go_ret
      exact ⟨rfl, h3, (ha.trans a2).trans a3⟩

/-- The document's numbers of an EV that can be read. -/
theorem rev_any (b : Nat) (s : ByteArray) (hs : s.size ≤ 20000) : ∀ (h base i r : Nat) (t : Tr Nat) (n j q from_ : Nat) (H : Nat → Bool) (C : Nat → Nat) (w : World), h ≤ 8 → base ≤ (99 - h) * 1099511627776 → evR s h base i r = .ok (t, n) j q → isDig (nx s j) = false →
    (∀ k, from_ ≤ k → k < from_ + 2 ^ h → C k = base) → St b H C w → from_ + 2 ^ h ≤ 256 →
    Calls Tryz.prog 78 #[.pointer (some ⟨b, 0, none⟩), .string s, .int .i64 i, .int .i64 from_, .int .i64 ((2 ^ h : Nat) : Int)] w fun e w' =>
      e = .returned (.int .i64 (j : Nat)) ∧ St b H (lay (cellI t (2 ^ h)) from_ (2 ^ h) C) w' ∧ Apart b w w' := by
  intro h
  induction h with
  | zero =>
    intro base i r t n j q from_ H C w h8 hb e hd hC hst hn
    rcases evR_inv s 0 base i r t n j q e with ⟨c, f, rfl, _⟩ | ⟨h', _, _, _, _, _, _, _, _, _, hh, _⟩
    · have hl : i < s.size := by
        apply lt_of_nx; intro h0
        unfold numR at f; rw [h0] at f; exact (Nm.bad_ok f).elim
      exact rev_leaf b s i j from_ (2 ^ 0) base n H C w hst hs hl c hn (by omega) (numR_ok (by omega) f).1 hC (numF_of f hd)
    · omega
  | succ h ih =>
    intro base i r t n j q from_ H C w h8 hb e hd hC hst hn
    rcases evR_inv s (h + 1) base i r t n j q e with ⟨c, f, rfl, _⟩ | ⟨h', i1, l, ln, u, un, i2, r2, i4, r4, hh, c, f, g0, f1, g1, f2, g2, rfl, rfl, _⟩
    · have hl : i < s.size := by
        apply lt_of_nx; intro h0
        unfold numR at f; rw [h0] at f; exact (Nm.bad_ok f).elim
      exact rev_leaf b s i j from_ (2 ^ (h + 1)) base n H C w hst hs hl c hn (by omega) (numR_ok (by omega) f).1 hC (numF_of f hd)
    · obtain rfl : h' = h := by omega
      have e2 : 2 ^ (h' + 1) = 2 ^ h' + 2 ^ h' := by rw [Nat.pow_succ]; omega
      have pp : 0 < 2 ^ h' := Nat.two_pow_pos h'
      have li : i < s.size := lt_of_nx s i (by omega)
      have hv := (numR_ok (by omega) f).1
      have P := rev_pair b s i i1 i2 i4 from_ (2 ^ (h' + 1)) base n H C (lay (cellI l (2 ^ h')) from_ (2 ^ h') (lay (fun _ => base + n) from_ (2 ^ (h' + 1)) C))
        (lay (cellI u (2 ^ h')) (from_ + 2 ^ h') (2 ^ h') (lay (cellI l (2 ^ h')) from_ (2 ^ h') (lay (fun _ => base + n) from_ (2 ^ (h' + 1)) C))) w hst hs li
        (lt_of_nx s i1 (by omega)) (lt_of_nx s i2 (by omega)) (lt_of_nx s i4 (by omega)) c hn (by omega) hv hC (numF_of f (by rw [g0]; rfl))
        (hide (by rw [two_pow_half]; exact fun w1 s1 => ih _ _ _ _ _ _ _ from_ H _ w1 (by omega) (by omega) f1 (by rw [g1]; rfl) (fun k k1 k2 => lay_in _ _ _ _ _ k1 (by omega)) s1 (by omega)))
        (hide (by rw [two_pow_half]; exact fun w1 s1 => ih _ _ _ _ _ _ _ (from_ + 2 ^ h') H _ w1 (by omega) (by omega) f2 (by rw [g2]; rfl) (fun k k1 k2 => by rw [lay_out _ _ _ _ _ (by omega), lay_in _ _ _ _ _ (by omega) (by omega)]) s1 (by omega)))
      refine P.mono ?_
      rintro e w' ⟨rfl, s1, a1⟩
      exact ⟨rfl, s1.congr (fun _ _ => rfl) (fun i _ => lay_twoI l u h' from_ (base + n) C i), a1⟩

end Go.Proofs.YtoebmfhgaalcdaaGreatDoor
