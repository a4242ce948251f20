/-
  Our own. (*sprigsref.Stamp).most.
-/
import Derived.Test.YtoebmfhgaalcdaaGreatDoorRefEv
namespace Go.Proofs.YtoebmfhgaalcdaaGreatDoor
open Go.RowKit

/-- The greatest of n numbers. -/
def maxTo (f : Nat → Nat) : Nat → Nat
  | 0 => 0
  | n + 1 => max (maxTo f n) (f n)

theorem maxTo_add (f : Nat → Nat) (a : Nat) : ∀ b, maxTo f (a + b) = max (maxTo f a) (maxTo (fun i => f (a + i)) b)
  | 0 => by simp [maxTo]
  | b + 1 => by
    show max (maxTo f (a + b)) (f (a + b)) = max (maxTo f a) (max (maxTo (fun i => f (a + i)) b) (f (a + b)))
    rw [maxTo_add f a b]; omega
theorem maxTo_congr (f g : Nat → Nat) : ∀ n, (∀ i, i < n → f i = g i) → maxTo f n = maxTo g n
  | 0, _ => rfl
  | n + 1, h => by
    show max (maxTo f n) (f n) = max (maxTo g n) (g n)
    rw [maxTo_congr f g n (fun i hi => h i (by omega)), h n (by omega)]
theorem maxTo_const (c : Nat) : ∀ n, 0 < n → maxTo (fun _ => c) n = c
  | 0, h => by omega
  | 1, _ => by simp [maxTo]
  | n + 2, _ => by
    have := maxTo_const c (n + 1) (by omega)
    show max (maxTo (fun _ => c) (n + 1)) c = c
    rw [this]; omega
theorem le_maxTo (f : Nat → Nat) : ∀ (n i : Nat), i < n → f i ≤ maxTo f n
  | 0, i, h => by omega
  | n + 1, i, h => by
    show f i ≤ max (maxTo f n) (f n)
    by_cases g : i = n
    · subst g; omega
    · have := le_maxTo f n i (by omega); omega

/-- How deep a tree is. -/
def Tr.deepN : Tr Nat → Nat
  | ⟨.inl _⟩ => 0
  | ⟨.inr (l, r)⟩ => max l.deepN r.deepN + 1

theorem max_cells : ∀ (t : Tr Nat) (h : Nat), t.deepN ≤ h → maxTo (cellI t (2 ^ h)) (2 ^ h) = highest t
  | ⟨.inl a⟩, h, _ => maxTo_const a _ (Nat.two_pow_pos h)
  | ⟨.inr (l, r)⟩, 0, hd => by simp [Tr.deepN] at hd
  | ⟨.inr (l, r)⟩, h + 1, hd => by
    have hd1 : l.deepN ≤ h := by simp only [Tr.deepN] at hd; omega
    have hd2 : r.deepN ≤ h := by simp only [Tr.deepN] at hd; omega
    have e : 2 ^ (h + 1) = 2 ^ h + 2 ^ h := by rw [Nat.pow_succ]; omega
    rw [e, maxTo_add]
    show _ = max (highest l) (highest r)
    rw [← max_cells l h hd1, ← max_cells r h hd2]
    congr 1
    · apply maxTo_congr
      intro i hi
      show (if i < (2 ^ h + 2 ^ h) / 2 then _ else _) = _
      rw [show (2 ^ h + 2 ^ h) / 2 = 2 ^ h by omega, if_pos hi]
    · apply maxTo_congr
      intro i hi
      show (if 2 ^ h + i < (2 ^ h + 2 ^ h) / 2 then _ else _) = _
      rw [show (2 ^ h + 2 ^ h) / 2 = 2 ^ h by omega, if_neg (by omega)]
      congr 1; omega

theorem evR_deep_le (s : ByteArray) : ∀ (h base i r : Nat) (t : Tr Nat) (n j q : Nat), evR s h base i r = .ok (t, n) j q → t.deepN ≤ h := by
  intro h
  induction h with
  | zero =>
    intro base i r t n j q e
    rcases evR_inv s 0 base i r t n j q e with ⟨_, _, rfl, _⟩ | ⟨h', _, _, _, _, _, _, _, _, _, hh, _⟩
    · exact Nat.le_refl _
    · omega
  | succ h ih =>
    intro base i r t n j q e
    rcases evR_inv s (h + 1) base i r t n j q e with ⟨_, _, rfl, _⟩ | ⟨h', i1, l, ln, u, un, i2, r2, i4, r4, hh, c, f, g0, f1, g1, f2, g2, rfl, rfl, _⟩
    · exact Nat.zero_le _
    · obtain rfl : h' = h := by omega
      have a1 := ih _ _ _ _ _ _ _ f1
      have a2 := ih _ _ _ _ _ _ _ f2
      show max l.deepN u.deepN + 1 ≤ h' + 1
      omega

set_option maxRecDepth 100000 in
set_option maxHeartbeats 1000000 in
theorem most_any (b : Nat) (from_ n : Nat) (H : Nat → Bool) (C : Nat → Nat) (w : World) (h : St b H C w) (hn : from_ + n ≤ 256) (hp : 0 < n) :
    Calls Tryz.prog 79 #[.pointer (some ⟨b, 0, none⟩), .int .i64 from_, .int .i64 n] w fun e w' =>
      e = .returned (.int .i64 (maxTo (fun i => C (from_ + i)) n : Nat)) ∧ w' = w := by
  have c0 := h.counts from_ (by omega)
  have q0 : (from_ : Int) < 256 := by omega
  have HH := hide h
  clear h
  go_enter Tryz.func79, Tryz.ntmps79
  go_wp2_with fail
  go_loop [7, 8] (fun v x => ∃ m : Nat, m ≤ n ∧ x = .int .i64 ((from_ + m : Nat) : Int) ∧ v = .int .i64 ((max (C from_) (maxTo (fun i => C (from_ + i)) m) : Nat) : Int)) (fun _ x => from_ + n - (intOf x).toNat)
  case atStart => exact ⟨0, by omega, rfl, by simp [maxTo]⟩
  case round =>
    obtain ⟨m, hm, rfl, rfl⟩ := hrel
    by_cases hlt : m < n
    · have hc := (unhide HH).counts (from_ + m) (by omega)
      have l1 : ((from_ + m : Nat) : Int) < (from_ : Int) + (n : Int) := by omega
      have l2 : ((from_ + m : Nat) : Int) < 256 := by omega
      have S2 : Hid (max (C from_) (maxTo (fun i => C (from_ + i)) (m + 1)) = max (max (C from_) (maxTo (fun i => C (from_ + i)) m)) (C (from_ + m))) := by
        show max (C from_) (max (maxTo (fun i => C (from_ + i)) m) (C (from_ + m))) = _
        omega
      generalize max (C from_) (maxTo (fun i => C (from_ + i)) m) = v at *
      generalize C (from_ + m) = cv at *
      by_cases hgt : v < cv
      · have g2 : (v : Int) < (cv : Int) := by omega
        go_wp2_with fail
        go_round
        case rel =>
          refine ⟨m + 1, by omega, by go_num, ?_⟩
          rw [unhide S2, show max v cv = cv by omega]
        case measure => simp [intOf]; omega
      · have g2 : ¬ (v : Int) < (cv : Int) := by omega
        go_wp2_with fail
        go_round
        case rel =>
          refine ⟨m + 1, by omega, by go_num, ?_⟩
          rw [unhide S2, show max v cv = v by omega]
        case measure => simp [intOf]; omega
    · have hjn : m = n := by omega
      subst hjn
      have l1 : ¬ ((from_ + m : Nat) : Int) < (from_ : Int) + (m : Int) := by omega
      have E : Hid (max (C from_) (maxTo (fun i => C (from_ + i)) m) = maxTo (fun i => C (from_ + i)) m) := by
        have := le_maxTo (fun i => C (from_ + i)) m 0 hp
        show max _ _ = _
        simp only [Nat.add_zero] at this
        omega
      rw [unhide E]
      generalize hv : maxTo (fun i => C (from_ + i)) m = v at *
      have HV := hide hv
      clear hm hlt hv
      go_wp2_with fail
      go_ret
      rw [unhide HV]
      exact ⟨rfl, rfl⟩

end Go.Proofs.YtoebmfhgaalcdaaGreatDoor
