/-
  Our own. Sizes, places and joints of the texts that package sprigskeep makes.
-/
import Derived.Test.YtoebmfhgaalcdaaGreatDoorKeepPlain
namespace Go.Proofs.YtoebmfhgaalcdaaGreatDoor

theorem idText_pos (t : Tr Bool) : 1 ≤ (idText t).length := by
  cases t using Tr.cs with
  | leaf a => cases a <;> simp [idText]
  | pair l r => simp [idText]

theorem idText_leaf (t : Tr Bool) (h : (idText t).length = 1) : ∃ x, t = .leaf x := by
  cases t using Tr.cs with
  | leaf a => exact ⟨a, rfl⟩
  | pair l r => have := idText_pos l; simp [idText] at h

theorem joinB_same (a b : Tr Bool) (he : idText a = idText b) (hl : (idText a).length = 1) : idText (joinB a b) = idText a := by
  obtain ⟨x, rfl⟩ := idText_leaf a hl
  obtain ⟨y, rfl⟩ := idText_leaf b (by rw [← he]; exact hl)
  cases x <;> cases y <;> simp [idText, joinB] at *

theorem joinB_diff (a b : Tr Bool) (h : ¬ (idText a = idText b ∧ (idText a).length = 1)) : joinB a b = .pair a b := by
  cases a using Tr.cs with
  | pair l r => rfl
  | leaf x =>
    cases b using Tr.cs with
    | pair l r => rfl
    | leaf y =>
      unfold joinB
      by_cases e : x = y
      · exfalso; apply h; subst e; exact ⟨rfl, by cases x <;> rfl⟩
      · simp [e]

theorem anIdP_place (l : List Int) : ∀ (h i : Nat), i ≤ l.length → (anIdP l h i).2 ≤ l.length
  | 0, i, hi => rawI_le l _ (rawI_le l _ hi)
  | h + 1, i, hi => by
    rw [anIdP]
    split
    · exact rawI_le l _ (rawI_le l _ hi)
    · exact anIdP_place l h _ (anIdP_place l h _ (rawI_le l _ hi))

theorem idText_join_le (a b : Tr Bool) (n : Nat) (ha : (idText a).length ≤ n) (hb : (idText b).length ≤ n) : (idText (joinB a b)).length ≤ 2 * n + 3 := by
  by_cases h : idText a = idText b ∧ (idText a).length = 1
  · rw [joinB_same a b h.1 h.2]; omega
  · rw [joinB_diff a b h]; simp [idText]; omega

theorem anIdP_len (l : List Int) : ∀ (h i : Nat), (idText (anIdP l h i).1).length ≤ 4 * 2 ^ h - 3
  | 0, i => by
    rw [anIdP]; simp only
    cases (rawP l (rawI l i) 2 == 1) <;> simp [idText]
  | h + 1, i => by
    have hp : 1 ≤ 2 ^ h := Nat.one_le_two_pow
    have e : 2 ^ (h + 1) = 2 * 2 ^ h := by rw [Nat.pow_succ]; omega
    rw [anIdP]
    split
    · have : (idText (.leaf (rawP l (rawI l i) 2 == 1))).length = 1 := by cases (rawP l (rawI l i) 2 == 1) <;> simp [idText]
      simp only [this]; omega
    · have h1 := anIdP_len l h (rawI l i)
      have h2 := anIdP_len l h (anIdP l h (rawI l i)).2
      have := idText_join_le _ _ _ h1 h2
      simp only
      omega

theorem anIdP_len8 (l : List Int) (h i : Nat) (hh : h ≤ 8) : (idText (anIdP l h i).1).length ≤ 1021 := by
  have := anIdP_len l h i
  have h2 : 2 ^ h ≤ 2 ^ 8 := Nat.pow_le_pow_right (by omega) hh
  omega

theorem anIdP_low (l : List Int) (h i : Nat) (hk : h = 0 ∨ rawP l i 5 < 2) : anIdP l h i = (.leaf (rawP l (rawI l i) 2 == 1), rawI l (rawI l i)) := by
  cases h with
  | zero => rfl
  | succ h => rw [anIdP, if_pos (by rcases hk with h | h; omega; exact h)]

theorem anIdP_high (l : List Int) (h i : Nat) (hk : ¬ rawP l i 5 < 2) : anIdP l (h + 1) i = (joinB (anIdP l h (rawI l i)).1 (anIdP l h (anIdP l h (rawI l i)).2).1, (anIdP l h (anIdP l h (rawI l i)).2).2) := by
  rw [anIdP, if_neg hk]

theorem idText_bit (n : Nat) (h : n < 2) : idText (.leaf (n == 1)) = digs n := by
  have : n = 0 ∨ n = 1 := by omega
  rcases this with rfl | rfl
  · rw [digs_one 0 (by omega)]; rfl
  · rw [digs_one 1 (by omega)]; rfl

/-- A text as a byte array. -/
def strOf (l : List UInt8) : ByteArray := ⟨l.toArray⟩
theorem strOf_size (l : List UInt8) : (strOf l).size = l.length := by simp [strOf, ByteArray.size]
theorem strOf_append (a b : List UInt8) : strOf a ++ strOf b = strOf (a ++ b) := by
  apply ByteArray.ext
  simp [strOf, ByteArray.data_append]
theorem strOf_inj {a b : List UInt8} (h : strOf a = strOf b) : a = b := by
  have := congrArg (fun x => x.data.toList) h
  simpa [strOf] using this

theorem strOf_list (l : List UInt8) : (strOf l).toList = l := by
  rw [ByteArray.toList_eq]; simp [strOf]
theorem str_same {a b : List UInt8} (h : a = b) : ((strOf a).toList == (strOf b).toList) = true := by simp [h]
theorem str_diff {a b : List UInt8} (h : a ≠ b) : ((strOf a).toList == (strOf b).toList) = false := by
  rw [strOf_list, strOf_list]; simpa using h

end Go.Proofs.YtoebmfhgaalcdaaGreatDoor
