/-
  Our own. (*sprigsref.Stamp).id.
-/
import Derived.Test.YtoebmfhgaalcdaaGreatDoorRefStamp
namespace Go.Proofs.YtoebmfhgaalcdaaGreatDoor
open Go.RowKit

/-- What a tree says of its cells, n of them. -/
def cellB : Tr Bool → Nat → Nat → Bool
  | ⟨.inl a⟩, _, _ => a
  | ⟨.inr (l, r)⟩, n, i => if i < n / 2 then cellB l (n / 2) i else cellB r (n / 2) (i - n / 2)
def cellI : Tr Nat → Nat → Nat → Nat
  | ⟨.inl a⟩, _, _ => a
  | ⟨.inr (l, r)⟩, n, i => if i < n / 2 then cellI l (n / 2) i else cellI r (n / 2) (i - n / 2)

/-- Some cells are laid anew. -/
def lay {α : Type} (f : Nat → α) (from_ n : Nat) (g : Nat → α) : Nat → α := fun i => if from_ ≤ i ∧ i < from_ + n then f (i - from_) else g i

theorem lay_none {α : Type} (f : Nat → α) (a : Nat) (g : Nat → α) (i : Nat) : lay f a 0 g i = g i := by unfold lay; rw [if_neg (by omega)]
theorem lay_in {α : Type} (f : Nat → α) (a n : Nat) (g : Nat → α) (i : Nat) (h1 : a ≤ i) (h2 : i < a + n) : lay f a n g i = f (i - a) := by unfold lay; rw [if_pos ⟨h1, h2⟩]
theorem lay_out {α : Type} (f : Nat → α) (a n : Nat) (g : Nat → α) (i : Nat) (h : ¬ (a ≤ i ∧ i < a + n)) : lay f a n g i = g i := by unfold lay; rw [if_neg h]
theorem lay_snoc {α : Type} (v : α) (a n : Nat) (g : Nat → α) (i : Nat) : (if i = a + n then v else lay (fun _ => v) a n g i) = lay (fun _ => v) a (n + 1) g i := by
  unfold lay
  by_cases h1 : i = a + n
  · rw [if_pos h1, if_pos (by omega)]
  · rw [if_neg h1]
    by_cases h2 : a ≤ i ∧ i < a + n
    · rw [if_pos h2, if_pos (by omega)]
    · rw [if_neg h2, if_neg (by omega)]

set_option maxRecDepth 100000 in
set_option maxHeartbeats 1000000 in
theorem rid_leaf (b : Nat) (s : ByteArray) (i from_ n : Nat) (H : Nat → Bool) (C : Nat → Nat) (w : World) (h : St b H C w) (hs : s.size ≤ 20000) (hi : i < s.size) (hc : nx s i ≠ 40) (hn : from_ + n ≤ 256) :
    Calls Tryz.prog 77 #[.pointer (some ⟨b, 0, none⟩), .string s, .int .i64 i, .int .i64 from_, .int .i64 n] w fun e w' =>
      e = .returned (.int .i64 ((i + 1 : Nat) : Int)) ∧ St b (lay (fun _ => nx s i == 49) from_ n H) C w' ∧ Apart b w w' := by
  have e0 := nx_in s i hi
  have hne : ((s[i].toNat : Int) == 40) = false := beq_eq_false_iff_ne.2 (by omega)
  have eb : ((s[i].toNat : Int) == 49) = (nx s i == 49) := by rw [e0, Bool.eq_iff_iff]; simp only [beq_iff_eq]; omega
  have hi2 : (i : Int) < (s.size : Int) := by omega
  generalize (nx s i == 49) = v at *
  clear hc e0
  go_enter Tryz.func77, Tryz.ntmps77
  go_wp2_with fail
  go_loopg [11] n (fun k x wr => ∃ j : Nat, j + k = n ∧ x = .int .i64 ((from_ + j : Nat) : Int) ∧ St b (lay (fun _ => v) from_ j H) C wr ∧ Apart b w wr)
  case atStart => exact ⟨0, by omega, rfl, h.congr (fun i _ => (lay_none _ _ _ _).symm) (fun _ _ => rfl), Apart.refl _ _⟩
  case round =>
    obtain ⟨j, hj, rfl, hst, ha⟩ := hrel
    by_cases hlt : j < n
    · have hc := hst.holds (from_ + j) (by omega)
      have hf := hst.free
      have l1 : ((from_ + j : Nat) : Int) < (from_ : Int) + (n : Int) := by omega
      have l2 : ((from_ + j : Nat) : Int) < 256 := by omega
      have S2 := hide ((hst.setHold (from_ + j) (by omega) v).congr (fun i _ => lay_snoc v from_ j H i) (fun _ _ => rfl))
      have HJ := hide hj
      clear hj h hst
      go_wp2_with fail
      go_region
      all_goals
        go_wp2_with fail
        go_roundg (gk - 1)
        case measure => have := unhide HJ; omega
        case rel =>
          have := unhide HJ
          refine ⟨j + 1, by omega, by go_num, unhide S2, (ha.setCell rfl _).trans (Apart.drewN b _ 1)⟩
    · have hjn : j = n := by omega
      subst hjn
      have l1 : ¬ ((from_ + j : Nat) : Int) < (from_ : Int) + (j : Int) := by omega
      clear hj hlt h
      go_wp2_with fail
      go_ret
      exact ⟨rfl, hst, ha⟩

theorem two_pow_half (h : Nat) : (2 ^ (h + 1)) / 2 = 2 ^ h := by rw [Nat.pow_succ]; omega

theorem lay_two (l u : Tr Bool) (h a : Nat) (H : Nat → Bool) (i : Nat) :
    lay (cellB u (2 ^ h)) (a + 2 ^ h) (2 ^ h) (lay (cellB l (2 ^ h)) a (2 ^ h) H) i = lay (cellB (.pair l u) (2 ^ (h + 1))) a (2 ^ (h + 1)) H i := by
  have e : 2 ^ (h + 1) = 2 ^ h + 2 ^ h := by rw [Nat.pow_succ]; omega
  by_cases g1 : a ≤ i ∧ i < a + 2 ^ h
  · rw [lay_out _ _ _ _ _ (by omega), lay_in _ _ _ _ _ g1.1 g1.2, lay_in _ _ _ _ _ g1.1 (by omega)]
    show _ = if i - a < 2 ^ (h + 1) / 2 then _ else _
    rw [two_pow_half, if_pos (by omega)]
  · by_cases g2 : a + 2 ^ h ≤ i ∧ i < a + 2 ^ h + 2 ^ h
    · rw [lay_in _ _ _ _ _ g2.1 g2.2, lay_in _ _ _ _ _ (by omega) (by omega)]
      show _ = if i - a < 2 ^ (h + 1) / 2 then _ else _
      rw [two_pow_half, if_neg (by omega)]
      congr 1; omega
    · rw [lay_out _ _ _ _ _ g2, lay_out _ _ _ _ _ g1, lay_out _ _ _ _ _ (by omega)]

set_option maxRecDepth 100000 in
set_option maxHeartbeats 1000000 in
theorem rid_pair (b : Nat) (s : ByteArray) (i i2 i4 from_ n : Nat) (H1 H2 H3 : Nat → Bool) (C : Nat → Nat) (w : World) (h : St b H1 C w) (hi : i < s.size) (hi2 : i2 < s.size) (hi4 : i4 < s.size) (hs : s.size ≤ 20000) (hc : nx s i = 40) (hn : from_ + n ≤ 256)
    (I1 : Hid (∀ w1, St b H1 C w1 → Calls Tryz.prog 77 #[.pointer (some ⟨b, 0, none⟩), .string s, .int .i64 ((i + 1 : Nat) : Int), .int .i64 from_, .int .i64 ((n / 2 : Nat) : Int)] w1 fun e w' => e = .returned (.int .i64 (i2 : Nat)) ∧ St b H2 C w' ∧ Apart b w1 w'))
    (I2 : Hid (∀ w1, St b H2 C w1 → Calls Tryz.prog 77 #[.pointer (some ⟨b, 0, none⟩), .string s, .int .i64 ((i2 + 1 : Nat) : Int), .int .i64 ((from_ + n / 2 : Nat) : Int), .int .i64 ((n / 2 : Nat) : Int)] w1 fun e w' => e = .returned (.int .i64 (i4 : Nat)) ∧ St b H3 C w' ∧ Apart b w1 w')) :
    Calls Tryz.prog 77 #[.pointer (some ⟨b, 0, none⟩), .string s, .int .i64 i, .int .i64 from_, .int .i64 n] w fun e w' =>
      e = .returned (.int .i64 ((i4 + 1 : Nat) : Int)) ∧ St b H3 C w' ∧ Apart b w w' := by
  have e0 := nx_in s i hi
  have hne : ((s[i].toNat : Int) == 40) = true := beq_iff_eq.2 (by omega)
  clear hc e0
  go_enter Tryz.func77, Tryz.ntmps77
  go_wp2_with fail
  refine (unhide I1 _ h).mono ?_
  rintro e w1 ⟨rfl, h1, a1⟩
  go_wp2_with fail
  refine (unhide I2 _ h1).mono ?_
  rintro e w2 ⟨rfl, h2, a2⟩
  go_wp2_with fail
  go_ret
  exact ⟨rfl, h2, a1.trans a2⟩

/-- The document's cells of an ID that can be read. -/
theorem rid_any (b : Nat) (s : ByteArray) (hs : s.size ≤ 20000) : ∀ (h i r : Nat) (t : Tr Bool) (j q from_ : Nat) (H : Nat → Bool) (C : Nat → Nat) (w : World), idR s h i r = .ok t j q → St b H C w → from_ + 2 ^ h ≤ 256 →
    Calls Tryz.prog 77 #[.pointer (some ⟨b, 0, none⟩), .string s, .int .i64 i, .int .i64 from_, .int .i64 ((2 ^ h : Nat) : Int)] w fun e w' =>
      e = .returned (.int .i64 (j : Nat)) ∧ St b (lay (cellB t (2 ^ h)) from_ (2 ^ h) H) C w' ∧ Apart b w w' := by
  intro h
  induction h with
  | zero =>
    intro i r t j q from_ H C w e hst hn
    rcases idR_inv s 0 i r t j q e with ⟨c, rfl, rfl, _⟩ | ⟨c, rfl, rfl, _⟩ | ⟨h', _, _, _, _, _, _, hh, _⟩
    · have L := rid_leaf b s i from_ (2 ^ 0) H C w hst hs (lt_of_nx s i (by omega)) (by omega) hn
      rw [c] at L; exact L
    · have L := rid_leaf b s i from_ (2 ^ 0) H C w hst hs (lt_of_nx s i (by omega)) (by omega) hn
      rw [c] at L; exact L
    · omega
  | succ h ih =>
    intro i r t j q from_ H C w e hst hn
    rcases idR_inv s (h + 1) i r t j q e with ⟨c, rfl, rfl, _⟩ | ⟨c, rfl, rfl, _⟩ | ⟨h', l, u, i2, r2, i4, r4, hh, c, f1, g1, f2, g2, rfl, rfl, _⟩
    · have L := rid_leaf b s i from_ (2 ^ (h + 1)) H C w hst hs (lt_of_nx s i (by omega)) (by omega) hn
      rw [c] at L; exact L
    · have L := rid_leaf b s i from_ (2 ^ (h + 1)) H C w hst hs (lt_of_nx s i (by omega)) (by omega) hn
      rw [c] at L; exact L
    · obtain rfl : h' = h := by omega
      have e2 : 2 ^ (h' + 1) = 2 ^ h' + 2 ^ h' := by rw [Nat.pow_succ]; omega
      have pp : 0 < 2 ^ h' := Nat.two_pow_pos h'
      have P := rid_pair b s i i2 i4 from_ (2 ^ (h' + 1)) H (lay (cellB l (2 ^ h')) from_ (2 ^ h') H) (lay (cellB u (2 ^ h')) (from_ + 2 ^ h') (2 ^ h') (lay (cellB l (2 ^ h')) from_ (2 ^ h') H)) C w hst
        (lt_of_nx s i (by omega)) (lt_of_nx s i2 (by omega)) (lt_of_nx s i4 (by omega)) hs c hn
        (hide (by rw [two_pow_half]; exact fun w1 s1 => ih _ _ _ _ _ from_ H C w1 f1 s1 (by omega)))
        (hide (by rw [two_pow_half]; exact fun w1 s1 => ih _ _ _ _ _ (from_ + 2 ^ h') _ C w1 f2 s1 (by omega)))
      refine P.mono ?_
      rintro e w' ⟨rfl, s1, a1⟩
      exact ⟨rfl, s1.congr (fun i _ => lay_two l u h' from_ H i) (fun _ _ => rfl), a1⟩

end Go.Proofs.YtoebmfhgaalcdaaGreatDoor
