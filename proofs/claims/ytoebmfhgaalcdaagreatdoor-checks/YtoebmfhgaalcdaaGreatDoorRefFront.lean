/-
  Our own. sprigsref.front; numbers in a piece of a text.
-/
import Derived.Test.YtoebmfhgaalcdaaGreatDoorRefPl
namespace Go.Proofs.YtoebmfhgaalcdaaGreatDoor
open Go.RowKit

theorem nx_sub (s : ByteArray) (i j k : Nat) (hj : j ≤ s.size) : nx (s.extract i j) k = if i + k < j then nx s (i + k) else 0 := by
  have e : (s.extract i j).data.toList = (s.data.toList.drop i).take (j - i) := by simp [ByteArray.data_extract]
  unfold nx
  rw [e]
  simp only [List.getD_eq_getElem?_getD]
  by_cases h : i + k < j
  · rw [if_pos h, List.getElem?_take_of_lt (by omega), List.getElem?_drop]
  · rw [if_neg h, List.getElem?_eq_none (by simp; omega)]; rfl

theorem numGo_lt (s : ByteArray) : ∀ (f i a n j : Nat), numGo s f i a = .ok n j → i ≤ j ∧ a ≤ n ∧ ∀ k, i ≤ k → k < j → isDig (nx s k) = true
  | 0, i, a, n, j, h => by
    rw [numGo] at h; obtain ⟨rfl, rfl⟩ := Nm.ok_inj h
    exact ⟨Nat.le_refl _, Nat.le_refl _, fun k k1 k2 => by omega⟩
  | f + 1, i, a, n, j, h => by
    rw [numGo] at h
    by_cases hd : isDig (nx s i) = true
    · rw [if_pos hd] at h
      by_cases ho : 1099511627776 < 10 * a + (nx s i - 48)
      · rw [if_pos ho] at h; exact (Nm.bad_ok h).elim
      · rw [if_neg ho] at h
        obtain ⟨h1, h2, h3⟩ := numGo_lt s f (i + 1) _ n j h
        refine ⟨by omega, by omega, fun k k1 k2 => ?_⟩
        by_cases e : k = i
        · subst e; exact hd
        · exact h3 k (by omega) k2
    · rw [if_neg hd] at h; obtain ⟨rfl, rfl⟩ := Nm.ok_inj h
      exact ⟨Nat.le_refl _, Nat.le_refl _, fun k k1 k2 => by omega⟩

theorem numGo_sub (s s' : ByteArray) : ∀ (f i a n j b : Nat), numGo s f i a = .ok n j → (∀ k, k < j - i → nx s' (b + k) = nx s (i + k)) → isDig (nx s' (b + (j - i))) = false → b + (j - i) ≤ s'.size →
    numGo s' (s'.size + 1 - b) b a = .ok n (b + (j - i))
  | 0, i, a, n, j, b, h, hk, hd, hz => by
    rw [numGo] at h; obtain ⟨rfl, rfl⟩ := Nm.ok_inj h
    simp only [Nat.sub_self, Nat.add_zero] at *
    exact numGo_end s' b _ hz hd
  | f + 1, i, a, n, j, b, h, hk, hd, hz => by
    rw [numGo] at h
    by_cases hg : isDig (nx s i) = true
    · rw [if_pos hg] at h
      by_cases ho : 1099511627776 < 10 * a + (nx s i - 48)
      · rw [if_pos ho] at h; exact (Nm.bad_ok h).elim
      · rw [if_neg ho] at h
        have hl := (numGo_lt s f (i + 1) _ n j h).1
        have e0 : nx s' b = nx s i := by have := hk 0 (by omega); simpa using this
        have e1 : b + (j - i) = b + 1 + (j - (i + 1)) := by omega
        rw [e1] at hd hz ⊢
        have R := numGo_sub s s' f (i + 1) _ n j (b + 1) h (fun k hk2 => by
          have := hk (k + 1) (by omega)
          rw [show b + 1 + k = b + (k + 1) by omega, show i + 1 + k = i + (k + 1) by omega]; exact this) hd hz
        rw [numGo_step s' b a (by omega) (by rw [e0]; exact hg) (by rw [e0]; exact ho), e0]
        exact R
    · rw [if_neg hg] at h; obtain ⟨rfl, rfl⟩ := Nm.ok_inj h
      simp only [Nat.sub_self, Nat.add_zero] at *
      exact numGo_end s' b _ hz hd

theorem numR_lt {s : ByteArray} {i n j : Nat} (h : numR s i = .ok n j) : i < j := by
  unfold numR at h
  by_cases g : isDig (nx s i) = false
  · rw [if_pos g] at h; exact (Nm.bad_ok h).elim
  · rw [if_neg g] at h
    by_cases z : nx s i = 48
    · rw [if_pos z] at h; obtain ⟨_, rfl⟩ := Nm.ok_inj h; omega
    · rw [if_neg z] at h
      have hd : isDig (nx s i) = true := by simpa using g
      have hl : i < s.size := lt_of_nx s i (by have := (isDig_iff _).1 hd; omega)
      rw [show s.size + 1 - i = (s.size - i) + 1 by omega, numGo, if_pos hd] at h
      by_cases ho : 1099511627776 < 10 * 0 + (nx s i - 48)
      · rw [if_pos ho] at h; exact (Nm.bad_ok h).elim
      · rw [if_neg ho] at h
        have := (numGo_lt s _ (i + 1) _ n j h).1; omega

/-- A number, read out of a copy. -/
theorem numF_sub {s s' : ByteArray} {i n j b : Nat} (h : numR s i = .ok n j) (hk : ∀ k, k < j - i → nx s' (b + k) = nx s (i + k)) (hd : isDig (nx s' (b + (j - i))) = false) (hz : b + (j - i) ≤ s'.size) :
    numF s' b = .ok n (b + (j - i)) := by
  have hlt := numR_lt h
  have e0 : nx s' b = nx s i := by have := hk 0 (by omega); simpa using this
  unfold numR at h
  unfold numF
  rw [e0]
  by_cases g : isDig (nx s i) = false
  · rw [if_pos g] at h; exact (Nm.bad_ok h).elim
  · rw [if_neg g] at h ⊢
    by_cases z : nx s i = 48
    · rw [if_pos z] at h ⊢
      obtain ⟨rfl, rfl⟩ := Nm.ok_inj h
      rw [show i + 1 - i = 1 by omega] at hd ⊢
      rw [if_neg (by rw [hd]; decide)]
    · rw [if_neg z] at h ⊢
      exact numGo_sub s s' _ i 0 n j b h hk hd hz

/-- A NUM is 0 just where it is the one byte. -/
theorem numR_zero {s : ByteArray} {i n j : Nat} (h : numR s i = .ok n j) : n = 0 ↔ (j = i + 1 ∧ nx s i = 48) := by
  unfold numR at h
  by_cases g : isDig (nx s i) = false
  · rw [if_pos g] at h; exact (Nm.bad_ok h).elim
  · rw [if_neg g] at h
    by_cases z : nx s i = 48
    · rw [if_pos z] at h; obtain ⟨rfl, rfl⟩ := Nm.ok_inj h; exact ⟨fun _ => ⟨rfl, z⟩, fun _ => rfl⟩
    · rw [if_neg z] at h
      have hd : isDig (nx s i) = true := by simpa using g
      have hr := (isDig_iff _).1 hd
      have hl : i < s.size := lt_of_nx s i (by omega)
      rw [show s.size + 1 - i = (s.size - i) + 1 by omega, numGo, if_pos hd] at h
      by_cases ho : 1099511627776 < 10 * 0 + (nx s i - 48)
      · rw [if_pos ho] at h; exact (Nm.bad_ok h).elim
      · rw [if_neg ho] at h
        have := (numGo_lt s _ (i + 1) _ n j h).2.1
        constructor
        · intro h0; omega
        · intro h0; omega

theorem evR_le (s : ByteArray) : ∀ (h base i r : Nat) (t : Tr Nat) (n j q : Nat), i ≤ s.size → evR s h base i r = .ok (t, n) j q → i < j ∧ j ≤ s.size := by
  intro h
  induction h with
  | zero =>
    intro base i r t n j q hi e
    rcases evR_inv s 0 base i r t n j q e with ⟨_, f, _, _⟩ | ⟨h', _, _, _, _, _, _, _, _, _, hh, _⟩
    · exact ⟨numR_lt f, (numR_ok hi f).2.2⟩
    · omega
  | succ h ih =>
    intro base i r t n j q hi e
    rcases evR_inv s (h + 1) base i r t n j q e with ⟨_, f, _, _⟩ | ⟨h', i1, l, ln, u, un, i2, r2, i4, r4, hh, c, f, g0, f1, g1, f2, g2, rfl, rfl, _⟩
    · exact ⟨numR_lt f, (numR_ok hi f).2.2⟩
    · obtain rfl : h' = h := by omega
      have li := lt_of_nx s i (by omega)
      have l0 := numR_lt f
      have l1 := lt_of_nx s i1 (by omega)
      have a1 := ih _ _ _ _ _ _ _ (by omega) f1
      have l2 := lt_of_nx s i2 (by omega)
      have a2 := ih _ _ _ _ _ _ _ (by omega) f2
      have l4 := lt_of_nx s i4 (by omega)
      omega

set_option maxRecDepth 100000 in
set_option maxHeartbeats 1000000 in
theorem front_num (s : ByteArray) (n j : Nat) (w : World) (hs : s.size ≤ 20000) (hp : 0 < s.size) (hc : nx s 0 ≠ 40) (hf : numF s 0 = .ok n j) :
    Calls Tryz.prog 125 #[.string s] w fun e w' => e = .returned (.int .i64 (n : Nat)) ∧ w' = w := by
  have e0 := nx_in s 0 hp
  have hne : ((s[0].toNat : Int) == 40) = false := beq_eq_false_iff_ne.2 (by omega)
  have N := hide (fun w1 => number_any s 0 w1 hs)
  rw [hf] at N
  clear hc e0 hf
  go_enter Tryz.func125, Tryz.ntmps125
  go_wp2_with fail
  refine (unhide N _).mono ?_
  rintro e w1 ⟨rfl, rfl⟩
  simp only [numRes]
  go_wp2_with fail
  go_ret
  exact ⟨rfl, rfl⟩

set_option maxRecDepth 100000 in
set_option maxHeartbeats 1000000 in
theorem front_br (s : ByteArray) (n j : Nat) (w : World) (hs : s.size ≤ 20000) (hp : 0 < s.size) (hc : nx s 0 = 40) (hf : numF s 1 = .ok n j) :
    Calls Tryz.prog 125 #[.string s] w fun e w' => e = .returned (.int .i64 (n : Nat)) ∧ w' = w := by
  have e0 := nx_in s 0 hp
  have hne : ((s[0].toNat : Int) == 40) = true := beq_iff_eq.2 (by omega)
  have N := hide (fun w1 => number_any s 1 w1 hs)
  rw [hf] at N
  clear hc e0 hf
  go_enter Tryz.func125, Tryz.ntmps125
  go_wp2_with fail
  refine (unhide N _).mono ?_
  rintro e w1 ⟨rfl, rfl⟩
  simp only [numRes]
  go_wp2_with fail
  go_ret
  exact ⟨rfl, rfl⟩

/-- The number in front of an EV that can be read. -/
theorem front_any (s : ByteArray) (hs : s.size ≤ 20000) (h base i r : Nat) (t : Tr Nat) (n j q : Nat) (hi : i ≤ s.size) (e : evR s h base i r = .ok (t, n) j q) (w : World) :
    Calls Tryz.prog 125 #[.string (s.extract i j)] w fun e w' => e = .returned (.int .i64 (n : Nat)) ∧ w' = w := by
  have L := evR_le s h base i r t n j q hi e
  have hz : (s.extract i j).size = j - i := by simp [ByteArray.size_extract]; omega
  have e0 : nx (s.extract i j) 0 = nx s i := by rw [nx_sub s i j 0 L.2, if_pos (by omega)]; rfl
  rcases evR_inv s h base i r t n j q e with ⟨c, f, _, _⟩ | ⟨h', i1, l, ln, u, un, i2, r2, i4, r4, hh, c, f, g0, f1, g1, f2, g2, rfl, rfl, _⟩
  · refine front_num _ n (0 + (j - i)) w (by omega) (by omega) (by rw [e0]; exact c) (numF_sub f (fun k hk => ?_) ?_ (by omega))
    · rw [nx_sub s i j _ L.2, if_pos (by omega)]; congr 1; omega
    · rw [nx_sub s i j _ L.2, if_neg (by omega)]; rfl
  · have l0 := numR_lt f
    have l1 := lt_of_nx s i1 (by omega)
    have a1 := evR_le _ _ _ _ _ _ _ _ _ (by omega) f1
    have l2 := lt_of_nx s i2 (by omega)
    have a2 := evR_le _ _ _ _ _ _ _ _ _ (by omega) f2
    refine front_br _ n (1 + (i1 - (i + 1))) w (by omega) (by omega) (by rw [e0]; exact c) (numF_sub f (fun k hk => ?_) ?_ (by omega))
    · rw [nx_sub s i _ _ L.2, if_pos (by omega)]; congr 1; omega
    · rw [nx_sub s i _ _ L.2, if_pos (by omega), show i + (1 + (i1 - (i + 1))) = i1 by omega, g0]; rfl

end Go.Proofs.YtoebmfhgaalcdaaGreatDoor
