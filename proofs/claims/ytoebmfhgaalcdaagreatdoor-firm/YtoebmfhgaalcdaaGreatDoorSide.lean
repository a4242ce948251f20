/-
  Our own. Trees side by side, as plain functions: what a tree says of a cell (a road down), trees that are put together, and that plain trees are told by their cells.
-/
import Derived.Test.YtoebmfhgaalcdaaGreatDoorTexts3
namespace Go.Proofs.YtoebmfhgaalcdaaGreatDoor

/-- What a tree says of the cell at the end of a road. -/
def Tr.val {α : Type} : Tr α → (Nat → Bool) → α
  | ⟨.inl a⟩, _ => a
  | ⟨.inr (l, r)⟩, p => if p 0 = true then r.val (fun k => p (k + 1)) else l.val (fun k => p (k + 1))

/-- A road that begins so. -/
def road (b : Bool) (p : Nat → Bool) : Nat → Bool := fun k => match k with
  | 0 => b
  | k + 1 => p k

section
variable {α : Type}
theorem val_leaf (a : α) (p : Nat → Bool) : (Tr.leaf a).val p = a := rfl
theorem val_pair (l r : Tr α) (p : Nat → Bool) : (Tr.pair l r).val p = if p 0 = true then r.val (fun k => p (k + 1)) else l.val (fun k => p (k + 1)) := rfl
theorem val_left (l r : Tr α) (p : Nat → Bool) : (Tr.pair l r).val (road false p) = l.val p := rfl
theorem val_right (l r : Tr α) (p : Nat → Bool) : (Tr.pair l r).val (road true p) = r.val p := rfl
end

section
variable {α : Type} [BEq α]

def same : Tr α → Tr α → Bool
  | ⟨.inl a⟩, ⟨.inl b⟩ => a == b
  | _, _ => false
def merge (l r : Tr α) : Tr α := if same l r = true then l else .pair l r
def plainT : Tr α → Prop
  | ⟨.inl _⟩ => True
  | ⟨.inr (l, r)⟩ => same l r = false ∧ plainT l ∧ plainT r
def deepT {α : Type} : Tr α → Nat
  | ⟨.inl _⟩ => 0
  | ⟨.inr (l, r)⟩ => max (deepT l) (deepT r) + 1
def pairsT {α : Type} : Tr α → Nat
  | ⟨.inl _⟩ => 0
  | ⟨.inr (l, r)⟩ => 1 + pairsT l + pairsT r

theorem same_leaves [LawfulBEq α]  {l r : Tr α} (h : same l r = true) : ∃ a, l = .leaf a ∧ r = .leaf a := by
  cases l using Tr.cs with
  | leaf a =>
    cases r using Tr.cs with
    | leaf b => exact ⟨a, rfl, by rw [eq_of_beq h]⟩
    | pair _ _ => cases h
  | pair _ _ => cases h
theorem same_leaf [LawfulBEq α] (a : α) : same (Tr.leaf a) (Tr.leaf a) = true := by show (a == a) = true; simp

theorem val_merge [LawfulBEq α]  (l r : Tr α) (p : Nat → Bool) : (merge l r).val p = if p 0 = true then r.val (fun k => p (k + 1)) else l.val (fun k => p (k + 1)) := by
  unfold merge
  by_cases h : same l r = true
  · rw [if_pos h]
    obtain ⟨a, rfl, rfl⟩ := same_leaves h
    simp only [val_leaf]; split <;> rfl
  · rw [if_neg h]; rfl
theorem plain_merge {l r : Tr α} (hl : plainT l) (hr : plainT r) : plainT (merge l r) := by
  unfold merge
  by_cases h : same l r = true
  · rw [if_pos h]; exact hl
  · rw [if_neg h]; exact ⟨by simpa using h, hl, hr⟩
theorem deep_merge (l r : Tr α) : deepT (merge l r) ≤ max (deepT l) (deepT r) + 1 := by
  unfold merge
  by_cases h : same l r = true
  · rw [if_pos h]; omega
  · rw [if_neg h]; exact Nat.le_refl _
theorem pairs_merge (l r : Tr α) : pairsT (merge l r) ≤ 1 + pairsT l + pairsT r := by
  unfold merge
  by_cases h : same l r = true
  · rw [if_pos h]; omega
  · rw [if_neg h]; exact Nat.le_refl _
theorem merge_plain {l r : Tr α} (h : plainT (Tr.pair l r)) : merge l r = .pair l r := by
  unfold merge; rw [if_neg (by rw [h.1]; exact Bool.false_ne_true)]

theorem leaf_of_val [LawfulBEq α]  {t : Tr α} (a : α) : plainT t → (∀ p, t.val p = a) → t = .leaf a := by
  induction t using Tr.ind with
  | leaf b => intro _ h; rw [← h (fun _ => false)]; rfl
  | pair l r ihl ihr =>
    intro hp h
    have e1 := ihl hp.2.1 (fun p => h (road false p))
    have e2 := ihr hp.2.2 (fun p => h (road true p))
    have := hp.1
    rw [e1, e2, same_leaf] at this; cases this

/-- Plain trees are told by their cells. -/
theorem val_ext [LawfulBEq α]  : ∀ {a b : Tr α}, plainT a → plainT b → (∀ p, a.val p = b.val p) → a = b
  | ⟨.inl x⟩, b, _, hb, h => (leaf_of_val x hb (fun p => (h p).symm)).symm
  | ⟨.inr (l, r)⟩, ⟨.inl y⟩, ha, _, h => leaf_of_val y ha h
  | ⟨.inr (l, r)⟩, ⟨.inr (l', r')⟩, ha, hb, h => by
    have e1 := val_ext ha.2.1 hb.2.1 (fun p => h (road false p))
    have e2 := val_ext ha.2.2 hb.2.2 (fun p => h (road true p))
    rw [e1, e2]
end

section
variable {α β γ : Type}

/-- A leaf beside a tree; a tree beside a tree. -/
def sideL (lf : α → β → γ) (hf : γ → γ → γ) (a : α) : Tr β → γ
  | ⟨.inl b⟩ => lf a b
  | ⟨.inr (l, r)⟩ => hf (sideL lf hf a l) (sideL lf hf a r)
def side (lf : α → β → γ) (hf : γ → γ → γ) : Tr α → Tr β → γ
  | ⟨.inl a⟩, t => sideL lf hf a t
  | ⟨.inr (l, r)⟩, ⟨.inl b⟩ => hf (side lf hf l (.leaf b)) (side lf hf r (.leaf b))
  | ⟨.inr (l, r)⟩, ⟨.inr (l', r')⟩ => hf (side lf hf l l') (side lf hf r r')

/-- The halves; a leaf stands in for both. -/
def halfL : Tr α → Tr α
  | ⟨.inl a⟩ => .leaf a
  | ⟨.inr (l, _)⟩ => l
def halfR : Tr α → Tr α
  | ⟨.inl a⟩ => .leaf a
  | ⟨.inr (_, r)⟩ => r
def isLeaf : Tr α → Bool
  | ⟨.inl _⟩ => true
  | ⟨.inr _⟩ => false

theorem side_leaves (lf : α → β → γ) (hf : γ → γ → γ) (a : α) (b : β) : side lf hf (.leaf a) (.leaf b) = lf a b := rfl
theorem side_halves (lf : α → β → γ) (hf : γ → γ → γ) (a : Tr α) (b : Tr β) (h : (isLeaf a && isLeaf b) = false) : side lf hf a b = hf (side lf hf (halfL a) (halfL b)) (side lf hf (halfR a) (halfR b)) := by
  cases a using Tr.cs with
  | leaf x =>
    cases b using Tr.cs with
    | leaf y => cases h
    | pair l r => rfl
  | pair l r =>
    cases b using Tr.cs with
    | leaf y => rfl
    | pair l' r' => rfl

/-- Two trees side by side, from the leaves up. -/
theorem side_ind {motive : Tr α → Tr β → Prop} (leaves : ∀ a b, motive (.leaf a) (.leaf b))
    (halves : ∀ a b, (isLeaf a && isLeaf b) = false → motive (halfL a) (halfL b) → motive (halfR a) (halfR b) → motive a b) : ∀ a b, motive a b := by
  intro a
  induction a using Tr.ind with
  | leaf x =>
    intro b
    induction b using Tr.ind with
    | leaf y => exact leaves x y
    | pair l r ihl ihr => exact halves _ _ rfl ihl ihr
  | pair l r ihl ihr =>
    intro b
    cases b using Tr.cs with
    | leaf y => exact halves _ _ rfl (ihl _) (ihr _)
    | pair l' r' => exact halves _ _ rfl (ihl _) (ihr _)

theorem val_half (t : Tr α) (p : Nat → Bool) : t.val p = if p 0 = true then (halfR t).val (fun k => p (k + 1)) else (halfL t).val (fun k => p (k + 1)) := by
  cases t using Tr.cs with
  | leaf a => split <;> rfl
  | pair l r => rfl
theorem val_halfL (t : Tr α) (p : Nat → Bool) : (halfL t).val p = t.val (road false p) := by rw [val_half t]; rfl
theorem val_halfR (t : Tr α) (p : Nat → Bool) : (halfR t).val p = t.val (road true p) := by rw [val_half t]; rfl
theorem deep_halfL (t : Tr α) (h : Nat) (hd : deepT t ≤ h + 1) : deepT (halfL t) ≤ h := by
  cases t using Tr.cs with
  | leaf a => exact Nat.zero_le _
  | pair l r => have : max (deepT l) (deepT r) + 1 ≤ h + 1 := hd; show deepT l ≤ h; omega
theorem deep_halfR (t : Tr α) (h : Nat) (hd : deepT t ≤ h + 1) : deepT (halfR t) ≤ h := by
  cases t using Tr.cs with
  | leaf a => exact Nat.zero_le _
  | pair l r => have : max (deepT l) (deepT r) + 1 ≤ h + 1 := hd; show deepT r ≤ h; omega
theorem deep_two {a : Tr α} {b : Tr β} {h : Nat} (hl : (isLeaf a && isLeaf b) = false) (h1 : deepT a ≤ h) (h2 : deepT b ≤ h) : ∃ k, h = k + 1 := by
  cases h with
  | succ k => exact ⟨k, rfl⟩
  | zero =>
    exfalso
    cases a using Tr.cs with
    | leaf x =>
      cases b using Tr.cs with
      | leaf y => cases hl
      | pair l r => have : max (deepT l) (deepT r) + 1 ≤ 0 := h2; omega
    | pair l r => have : max (deepT l) (deepT r) + 1 ≤ 0 := h1; omega
theorem plain_halfL [BEq α] (t : Tr α) (h : plainT t) : plainT (halfL t) := by
  cases t using Tr.cs with
  | leaf a => trivial
  | pair l r => exact h.2.1
theorem plain_halfR [BEq α] (t : Tr α) (h : plainT t) : plainT (halfR t) := by
  cases t using Tr.cs with
  | leaf a => trivial
  | pair l r => exact h.2.2
theorem merge_halves [BEq α] [LawfulBEq α] (t : Tr α) (h : plainT t) : merge (halfL t) (halfR t) = t := by
  cases t using Tr.cs with
  | leaf a => show merge (Tr.leaf a) (Tr.leaf a) = Tr.leaf a; unfold merge; rw [if_pos (same_leaf a)]
  | pair l r => exact merge_plain h
end

section
variable {α β γ : Type} [BEq γ]

/-- A tree of what comes of two leaves. -/
def zip (f : α → β → γ) : Tr α → Tr β → Tr γ := side (fun a b => .leaf (f a b)) merge

theorem zip_val [LawfulBEq γ] (f : α → β → γ) (a : Tr α) (b : Tr β) : ∀ p, (zip f a b).val p = f (a.val p) (b.val p) := by
  induction a, b using side_ind with
  | leaves a b => intro p; rfl
  | halves a b h ihl ihr =>
    intro p
    have e : zip f a b = merge (zip f (halfL a) (halfL b)) (zip f (halfR a) (halfR b)) := side_halves _ _ a b h
    rw [e, val_merge, val_half a, val_half b, ihl, ihr]
    split <;> rfl
theorem zip_plain (f : α → β → γ) (a : Tr α) (b : Tr β) : plainT (zip f a b) := by
  induction a, b using side_ind with
  | leaves a b => trivial
  | halves a b h ihl ihr =>
    have e : zip f a b = merge (zip f (halfL a) (halfL b)) (zip f (halfR a) (halfR b)) := side_halves _ _ a b h
    rw [e]; exact plain_merge ihl ihr
theorem zip_deep (f : α → β → γ) (a : Tr α) (b : Tr β) : ∀ h, deepT a ≤ h → deepT b ≤ h → deepT (zip f a b) ≤ h := by
  induction a, b using side_ind with
  | leaves a b => intro h _ _; exact Nat.zero_le _
  | halves a b hl ihl ihr =>
    intro h h1 h2
    obtain ⟨k, rfl⟩ := deep_two hl h1 h2
    have e : zip f a b = merge (zip f (halfL a) (halfL b)) (zip f (halfR a) (halfR b)) := side_halves _ _ a b hl
    have d1 := ihl k (deep_halfL a k h1) (deep_halfL b k h2)
    have d2 := ihr k (deep_halfR a k h1) (deep_halfR b k h2)
    have := deep_merge (zip f (halfL a) (halfL b)) (zip f (halfR a) (halfR b))
    rw [e]; omega
end

section
variable {α β : Type}
def allB (f : α → β → Bool) : Tr α → Tr β → Bool := side f (fun a b => a && b)
def anyB (f : α → β → Bool) : Tr α → Tr β → Bool := side f (fun a b => a || b)

theorem allB_iff (f : α → β → Bool) (a : Tr α) (b : Tr β) : allB f a b = true ↔ ∀ p, f (a.val p) (b.val p) = true := by
  induction a, b using side_ind with
  | leaves a b => exact ⟨fun h _ => h, fun h => h (fun _ => false)⟩
  | halves a b h ihl ihr =>
    have e : allB f a b = (allB f (halfL a) (halfL b) && allB f (halfR a) (halfR b)) := side_halves _ _ a b h
    rw [e, Bool.and_eq_true, ihl, ihr]
    constructor
    · rintro ⟨h1, h2⟩ p
      rw [val_half a, val_half b]
      by_cases hp : p 0 = true
      · simp only [hp, if_true]; exact h2 _
      · simp only [hp]; exact h1 _
    · intro h1
      exact ⟨fun p => by rw [val_halfL, val_halfL]; exact h1 _, fun p => by rw [val_halfR, val_halfR]; exact h1 _⟩
theorem anyB_iff (f : α → β → Bool) (a : Tr α) (b : Tr β) : anyB f a b = true ↔ ∃ p, f (a.val p) (b.val p) = true := by
  induction a, b using side_ind with
  | leaves a b => exact ⟨fun h => ⟨fun _ => false, h⟩, fun ⟨_, h⟩ => h⟩
  | halves a b h ihl ihr =>
    have e : anyB f a b = (anyB f (halfL a) (halfL b) || anyB f (halfR a) (halfR b)) := side_halves _ _ a b h
    rw [e, Bool.or_eq_true, ihl, ihr]
    constructor
    · rintro (⟨p, h⟩ | ⟨p, h⟩)
      · rw [val_halfL, val_halfL] at h; exact ⟨_, h⟩
      · rw [val_halfR, val_halfR] at h; exact ⟨_, h⟩
    · rintro ⟨p, h⟩
      rw [val_half a, val_half b] at h
      by_cases hp : p 0 = true
      · simp only [hp, if_true] at h; exact Or.inr ⟨_, h⟩
      · simp only [hp] at h; exact Or.inl ⟨_, h⟩
end

end Go.Proofs.YtoebmfhgaalcdaaGreatDoor
