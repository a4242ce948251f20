/-
  Our own. Sizes, places and joints of the EVs that package sprigskeep makes.
-/
import Derived.Test.YtoebmfhgaalcdaaGreatDoorKeepPlain2
namespace Go.Proofs.YtoebmfhgaalcdaaGreatDoor

theorem digs_pos (n : Nat) : 1 ≤ (digs n).length := by
  by_cases g : n < 10
  · rw [digs_one n g]; simp
  · rw [digs_more n g]; simp
theorem digs_zero (n : Nat) : digs n = [48] ↔ n = 0 := by
  constructor
  · intro h
    by_cases g : n < 10
    · rw [digs_one n g] at h
      injection h with h1 _
      have h2 := congrArg UInt8.toNat h1
      rw [UInt8.toNat_ofNat_of_lt' (by show 48 + n < 256; omega)] at h2
      have : (48 : UInt8).toNat = 48 := rfl
      omega
    · rw [digs_more n g] at h
      have := congrArg List.length h
      have p := digs_pos (n / 10)
      simp only [List.length_append, List.length_cons, List.length_nil] at this
      omega
  · rintro rfl; rw [digs_one 0 (by omega)]; rfl

theorem isZero_iff (e : Ev) : isZero e = true ↔ evText e = [48] := by
  cases e using Ev.cs with
  | num n =>
    cases n with
    | zero => simp [isZero, evText, digs_zero]
    | succ n => simp [isZero, evText, digs_zero]
  | br n l r => simp [isZero, evText]

theorem joinE_zero (n : Nat) (a b : Ev) (ha : evText a = [48]) (hb : evText b = [48]) : joinE n a b = .num n := by
  unfold joinE; rw [(isZero_iff a).2 ha, (isZero_iff b).2 hb]; rfl
theorem joinE_diff (n : Nat) (a b : Ev) (h : ¬ (evText a = [48] ∧ evText b = [48])) : joinE n a b = .br n a b := by
  unfold joinE
  rw [if_neg]
  intro g
  rw [Bool.and_eq_true, isZero_iff, isZero_iff] at g
  exact h g

theorem anEvP_place (l : List Int) : ∀ (h : Nat) (low : Bool) (i : Nat), i ≤ l.length → (anEvP l h low i).2 ≤ l.length
  | 0, low, i, hi => rawI_le l _ (rawI_le l _ hi)
  | h + 1, low, i, hi => by
    rw [anEvP]
    split
    · exact rawI_le l _ (rawI_le l _ hi)
    · exact anEvP_place l h _ _ (anEvP_place l h _ _ (rawI_le l _ (rawI_le l _ (rawI_le l _ hi))))

theorem digs_len60 (n : Nat) (h : n < 60) : (digs n).length ≤ 2 := by
  by_cases g : n < 10
  · rw [digs_one n g]; simp
  · rw [digs_more n g, digs_one _ (by omega)]; simp

theorem evText_join_le (n : Nat) (a b : Ev) (m : Nat) (hn : n < 60) (ha : (evText a).length ≤ m) (hb : (evText b).length ≤ m) : (evText (joinE n a b)).length ≤ 2 * m + 6 := by
  have hd := digs_len60 n hn
  by_cases h : evText a = [48] ∧ evText b = [48]
  · rw [joinE_zero n a b h.1 h.2]; simp only [evText]; omega
  · rw [joinE_diff n a b h]; simp [evText]; omega

theorem low60 (low : Bool) (l : List Int) (i : Nat) : (if low = true then 0 else rawP l i 60) < 60 := by
  split
  · omega
  · exact rawP_lt _ _ _ (by omega)

theorem anEvP_len (l : List Int) : ∀ (h : Nat) (low : Bool) (i : Nat), (evText (anEvP l h low i).1).length ≤ 8 * 2 ^ h - 6
  | 0, low, i => by
    rw [anEvP]; simp only [evText]
    have := digs_len60 _ (low60 low l i)
    omega
  | h + 1, low, i => by
    have hp : 1 ≤ 2 ^ h := Nat.one_le_two_pow
    have e : 2 ^ (h + 1) = 2 * 2 ^ h := by rw [Nat.pow_succ]; omega
    rw [anEvP]
    split
    · simp only [evText]
      have := digs_len60 _ (low60 low l i)
      omega
    · have h1 := anEvP_len l h (rawP l (rawI l (rawI l i)) 2 == 0) (rawI l (rawI l (rawI l i)))
      have h2 := anEvP_len l h (!(rawP l (rawI l (rawI l i)) 2 == 0)) (anEvP l h (rawP l (rawI l (rawI l i)) 2 == 0) (rawI l (rawI l (rawI l i)))).2
      have := evText_join_le _ _ _ _ (low60 low l i) h1 h2
      simp only
      omega

theorem anEvP_len8 (l : List Int) (h : Nat) (low : Bool) (i : Nat) (hh : h ≤ 8) : (evText (anEvP l h low i).1).length ≤ 2042 := by
  have := anEvP_len l h low i
  have h2 : 2 ^ h ≤ 2 ^ 8 := Nat.pow_le_pow_right (by omega) hh
  omega

theorem anEvP_low (l : List Int) (h : Nat) (low : Bool) (i : Nat) (hk : h = 0 ∨ rawP l (rawI l i) 5 < 2) : anEvP l h low i = (.num (if low then 0 else rawP l i 60), rawI l (rawI l i)) := by
  cases h with
  | zero => rfl
  | succ h => rw [anEvP, if_pos (by rcases hk with h | h; omega; exact h)]

theorem anEvP_high (l : List Int) (h : Nat) (low : Bool) (i : Nat) (hk : ¬ rawP l (rawI l i) 5 < 2) : anEvP l (h + 1) low i =
    (joinE (if low then 0 else rawP l i 60) (anEvP l h (rawP l (rawI l (rawI l i)) 2 == 0) (rawI l (rawI l (rawI l i)))).1
      (anEvP l h (!(rawP l (rawI l (rawI l i)) 2 == 0)) (anEvP l h (rawP l (rawI l (rawI l i)) 2 == 0) (rawI l (rawI l (rawI l i)))).2).1,
      (anEvP l h (!(rawP l (rawI l (rawI l i)) 2 == 0)) (anEvP l h (rawP l (rawI l (rawI l i)) 2 == 0) (rawI l (rawI l (rawI l i)))).2).2) := by
  rw [anEvP, if_neg hk]

end Go.Proofs.YtoebmfhgaalcdaaGreatDoor
