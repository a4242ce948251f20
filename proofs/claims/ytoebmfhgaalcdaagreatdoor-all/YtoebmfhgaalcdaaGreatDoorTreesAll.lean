/-
  Our own. Trees side by side, as plain functions: what a tree says of a cell (a road down), trees that are put together, and that plain trees are told by their cells.
-/
import Derived.Test.YtoebmfhgaalcdaaGreatDoorTextsAll
import Derived.Test.YtoebmfhgaalcdaaGreatDoorKeepAll
namespace Go.Proofs.YtoebmfhgaalcdaaGreatDoor

/-- What a tree says of the cell at the end of a road. -/
def Tr.val {α : Type} : Tr α → (Nat → Bool) → α
  | ⟨.inl a⟩, _ => a
  | ⟨.inr (l, r)⟩, p => if p 0 = true then r.val (fun k => p (k + 1)) else l.val (fun k => p (k + 1))

/-- A road that begins so. -/
def road (b : Bool) (p : Nat → Bool) : Nat → Bool := fun k => match k with
  | 0 => b
  | k + 1 => p k

section
variable {α : Type}
theorem val_leaf (a : α) (p : Nat → Bool) : (Tr.leaf a).val p = a := rfl
theorem val_pair (l r : Tr α) (p : Nat → Bool) : (Tr.pair l r).val p = if p 0 = true then r.val (fun k => p (k + 1)) else l.val (fun k => p (k + 1)) := rfl
theorem val_left (l r : Tr α) (p : Nat → Bool) : (Tr.pair l r).val (road false p) = l.val p := rfl
theorem val_right (l r : Tr α) (p : Nat → Bool) : (Tr.pair l r).val (road true p) = r.val p := rfl
end

section
variable {α : Type} [BEq α]

def same : Tr α → Tr α → Bool
  | ⟨.inl a⟩, ⟨.inl b⟩ => a == b
  | _, _ => false
def merge (l r : Tr α) : Tr α := if same l r = true then l else .pair l r
def plainT : Tr α → Prop
  | ⟨.inl _⟩ => True
  | ⟨.inr (l, r)⟩ => same l r = false ∧ plainT l ∧ plainT r
def deepT {α : Type} : Tr α → Nat
  | ⟨.inl _⟩ => 0
  | ⟨.inr (l, r)⟩ => max (deepT l) (deepT r) + 1
def pairsT {α : Type} : Tr α → Nat
  | ⟨.inl _⟩ => 0
  | ⟨.inr (l, r)⟩ => 1 + pairsT l + pairsT r

theorem same_leaves [LawfulBEq α]  {l r : Tr α} (h : same l r = true) : ∃ a, l = .leaf a ∧ r = .leaf a := by
  cases l using Tr.cs with
  | leaf a =>
    cases r using Tr.cs with
    | leaf b => exact ⟨a, rfl, by rw [eq_of_beq h]⟩
    | pair _ _ => cases h
  | pair _ _ => cases h
theorem same_leaf [LawfulBEq α] (a : α) : same (Tr.leaf a) (Tr.leaf a) = true := by show (a == a) = true; simp

theorem val_merge [LawfulBEq α]  (l r : Tr α) (p : Nat → Bool) : (merge l r).val p = if p 0 = true then r.val (fun k => p (k + 1)) else l.val (fun k => p (k + 1)) := by
  unfold merge
  by_cases h : same l r = true
  · rw [if_pos h]
    obtain ⟨a, rfl, rfl⟩ := same_leaves h
    simp only [val_leaf]; split <;> rfl
  · rw [if_neg h]; rfl
theorem plain_merge {l r : Tr α} (hl : plainT l) (hr : plainT r) : plainT (merge l r) := by
  unfold merge
  by_cases h : same l r = true
  · rw [if_pos h]; exact hl
  · rw [if_neg h]; exact ⟨by simpa using h, hl, hr⟩
theorem deep_merge (l r : Tr α) : deepT (merge l r) ≤ max (deepT l) (deepT r) + 1 := by
  unfold merge
  by_cases h : same l r = true
  · rw [if_pos h]; omega
  · rw [if_neg h]; exact Nat.le_refl _
theorem pairs_merge (l r : Tr α) : pairsT (merge l r) ≤ 1 + pairsT l + pairsT r := by
  unfold merge
  by_cases h : same l r = true
  · rw [if_pos h]; omega
  · rw [if_neg h]; exact Nat.le_refl _
theorem merge_plain {l r : Tr α} (h : plainT (Tr.pair l r)) : merge l r = .pair l r := by
  unfold merge; rw [if_neg (by rw [h.1]; exact Bool.false_ne_true)]

theorem leaf_of_val [LawfulBEq α]  {t : Tr α} (a : α) : plainT t → (∀ p, t.val p = a) → t = .leaf a := by
  induction t using Tr.ind with
  | leaf b => intro _ h; rw [← h (fun _ => false)]; rfl
  | pair l r ihl ihr =>
    intro hp h
    have e1 := ihl hp.2.1 (fun p => h (road false p))
    have e2 := ihr hp.2.2 (fun p => h (road true p))
    have := hp.1
    rw [e1, e2, same_leaf] at this; cases this

/-- Plain trees are told by their cells. -/
theorem val_ext [LawfulBEq α]  : ∀ {a b : Tr α}, plainT a → plainT b → (∀ p, a.val p = b.val p) → a = b
  | ⟨.inl x⟩, b, _, hb, h => (leaf_of_val x hb (fun p => (h p).symm)).symm
  | ⟨.inr (l, r)⟩, ⟨.inl y⟩, ha, _, h => leaf_of_val y ha h
  | ⟨.inr (l, r)⟩, ⟨.inr (l', r')⟩, ha, hb, h => by
    have e1 := val_ext ha.2.1 hb.2.1 (fun p => h (road false p))
    have e2 := val_ext ha.2.2 hb.2.2 (fun p => h (road true p))
    rw [e1, e2]
end

section
variable {α β γ : Type}

/-- A leaf beside a tree; a tree beside a tree. -/
def sideL (lf : α → β → γ) (hf : γ → γ → γ) (a : α) : Tr β → γ
  | ⟨.inl b⟩ => lf a b
  | ⟨.inr (l, r)⟩ => hf (sideL lf hf a l) (sideL lf hf a r)
def side (lf : α → β → γ) (hf : γ → γ → γ) : Tr α → Tr β → γ
  | ⟨.inl a⟩, t => sideL lf hf a t
  | ⟨.inr (l, r)⟩, ⟨.inl b⟩ => hf (side lf hf l (.leaf b)) (side lf hf r (.leaf b))
  | ⟨.inr (l, r)⟩, ⟨.inr (l', r')⟩ => hf (side lf hf l l') (side lf hf r r')

/-- The halves; a leaf stands in for both. -/
def halfL : Tr α → Tr α
  | ⟨.inl a⟩ => .leaf a
  | ⟨.inr (l, _)⟩ => l
def halfR : Tr α → Tr α
  | ⟨.inl a⟩ => .leaf a
  | ⟨.inr (_, r)⟩ => r
def isLeaf : Tr α → Bool
  | ⟨.inl _⟩ => true
  | ⟨.inr _⟩ => false

theorem side_leaves (lf : α → β → γ) (hf : γ → γ → γ) (a : α) (b : β) : side lf hf (.leaf a) (.leaf b) = lf a b := rfl
theorem side_halves (lf : α → β → γ) (hf : γ → γ → γ) (a : Tr α) (b : Tr β) (h : (isLeaf a && isLeaf b) = false) : side lf hf a b = hf (side lf hf (halfL a) (halfL b)) (side lf hf (halfR a) (halfR b)) := by
  cases a using Tr.cs with
  | leaf x =>
    cases b using Tr.cs with
    | leaf y => cases h
    | pair l r => rfl
  | pair l r =>
    cases b using Tr.cs with
    | leaf y => rfl
    | pair l' r' => rfl

/-- Two trees side by side, from the leaves up. -/
theorem side_ind {motive : Tr α → Tr β → Prop} (leaves : ∀ a b, motive (.leaf a) (.leaf b))
    (halves : ∀ a b, (isLeaf a && isLeaf b) = false → motive (halfL a) (halfL b) → motive (halfR a) (halfR b) → motive a b) : ∀ a b, motive a b := by
  intro a
  induction a using Tr.ind with
  | leaf x =>
    intro b
    induction b using Tr.ind with
    | leaf y => exact leaves x y
    | pair l r ihl ihr => exact halves _ _ rfl ihl ihr
  | pair l r ihl ihr =>
    intro b
    cases b using Tr.cs with
    | leaf y => exact halves _ _ rfl (ihl _) (ihr _)
    | pair l' r' => exact halves _ _ rfl (ihl _) (ihr _)

theorem val_half (t : Tr α) (p : Nat → Bool) : t.val p = if p 0 = true then (halfR t).val (fun k => p (k + 1)) else (halfL t).val (fun k => p (k + 1)) := by
  cases t using Tr.cs with
  | leaf a => split <;> rfl
  | pair l r => rfl
theorem val_halfL (t : Tr α) (p : Nat → Bool) : (halfL t).val p = t.val (road false p) := by rw [val_half t]; rfl
theorem val_halfR (t : Tr α) (p : Nat → Bool) : (halfR t).val p = t.val (road true p) := by rw [val_half t]; rfl
theorem deep_halfL (t : Tr α) (h : Nat) (hd : deepT t ≤ h + 1) : deepT (halfL t) ≤ h := by
  cases t using Tr.cs with
  | leaf a => exact Nat.zero_le _
  | pair l r => have : max (deepT l) (deepT r) + 1 ≤ h + 1 := hd; show deepT l ≤ h; omega
theorem deep_halfR (t : Tr α) (h : Nat) (hd : deepT t ≤ h + 1) : deepT (halfR t) ≤ h := by
  cases t using Tr.cs with
  | leaf a => exact Nat.zero_le _
  | pair l r => have : max (deepT l) (deepT r) + 1 ≤ h + 1 := hd; show deepT r ≤ h; omega
theorem deep_two {a : Tr α} {b : Tr β} {h : Nat} (hl : (isLeaf a && isLeaf b) = false) (h1 : deepT a ≤ h) (h2 : deepT b ≤ h) : ∃ k, h = k + 1 := by
  cases h with
  | succ k => exact ⟨k, rfl⟩
  | zero =>
    exfalso
    cases a using Tr.cs with
    | leaf x =>
      cases b using Tr.cs with
      | leaf y => cases hl
      | pair l r => have : max (deepT l) (deepT r) + 1 ≤ 0 := h2; omega
    | pair l r => have : max (deepT l) (deepT r) + 1 ≤ 0 := h1; omega
theorem plain_halfL [BEq α] (t : Tr α) (h : plainT t) : plainT (halfL t) := by
  cases t using Tr.cs with
  | leaf a => trivial
  | pair l r => exact h.2.1
theorem plain_halfR [BEq α] (t : Tr α) (h : plainT t) : plainT (halfR t) := by
  cases t using Tr.cs with
  | leaf a => trivial
  | pair l r => exact h.2.2
theorem merge_halves [BEq α] [LawfulBEq α] (t : Tr α) (h : plainT t) : merge (halfL t) (halfR t) = t := by
  cases t using Tr.cs with
  | leaf a => show merge (Tr.leaf a) (Tr.leaf a) = Tr.leaf a; unfold merge; rw [if_pos (same_leaf a)]
  | pair l r => exact merge_plain h
end

section
variable {α β γ : Type} [BEq γ]

/-- A tree of what comes of two leaves. -/
def zip (f : α → β → γ) : Tr α → Tr β → Tr γ := side (fun a b => .leaf (f a b)) merge

theorem zip_val [LawfulBEq γ] (f : α → β → γ) (a : Tr α) (b : Tr β) : ∀ p, (zip f a b).val p = f (a.val p) (b.val p) := by
  induction a, b using side_ind with
  | leaves a b => intro p; rfl
  | halves a b h ihl ihr =>
    intro p
    have e : zip f a b = merge (zip f (halfL a) (halfL b)) (zip f (halfR a) (halfR b)) := side_halves _ _ a b h
    rw [e, val_merge, val_half a, val_half b, ihl, ihr]
    split <;> rfl
theorem zip_plain (f : α → β → γ) (a : Tr α) (b : Tr β) : plainT (zip f a b) := by
  induction a, b using side_ind with
  | leaves a b => trivial
  | halves a b h ihl ihr =>
    have e : zip f a b = merge (zip f (halfL a) (halfL b)) (zip f (halfR a) (halfR b)) := side_halves _ _ a b h
    rw [e]; exact plain_merge ihl ihr
theorem zip_deep (f : α → β → γ) (a : Tr α) (b : Tr β) : ∀ h, deepT a ≤ h → deepT b ≤ h → deepT (zip f a b) ≤ h := by
  induction a, b using side_ind with
  | leaves a b => intro h _ _; exact Nat.zero_le _
  | halves a b hl ihl ihr =>
    intro h h1 h2
    obtain ⟨k, rfl⟩ := deep_two hl h1 h2
    have e : zip f a b = merge (zip f (halfL a) (halfL b)) (zip f (halfR a) (halfR b)) := side_halves _ _ a b hl
    have d1 := ihl k (deep_halfL a k h1) (deep_halfL b k h2)
    have d2 := ihr k (deep_halfR a k h1) (deep_halfR b k h2)
    have := deep_merge (zip f (halfL a) (halfL b)) (zip f (halfR a) (halfR b))
    rw [e]; omega
end

section
variable {α β : Type}
def allB (f : α → β → Bool) : Tr α → Tr β → Bool := side f (fun a b => a && b)
def anyB (f : α → β → Bool) : Tr α → Tr β → Bool := side f (fun a b => a || b)

theorem allB_iff (f : α → β → Bool) (a : Tr α) (b : Tr β) : allB f a b = true ↔ ∀ p, f (a.val p) (b.val p) = true := by
  induction a, b using side_ind with
  | leaves a b => exact ⟨fun h _ => h, fun h => h (fun _ => false)⟩
  | halves a b h ihl ihr =>
    have e : allB f a b = (allB f (halfL a) (halfL b) && allB f (halfR a) (halfR b)) := side_halves _ _ a b h
    rw [e, Bool.and_eq_true, ihl, ihr]
    constructor
    · rintro ⟨h1, h2⟩ p
      rw [val_half a, val_half b]
      by_cases hp : p 0 = true
      · simp only [hp, if_true]; exact h2 _
      · simp only [hp]; exact h1 _
    · intro h1
      exact ⟨fun p => by rw [val_halfL, val_halfL]; exact h1 _, fun p => by rw [val_halfR, val_halfR]; exact h1 _⟩
theorem anyB_iff (f : α → β → Bool) (a : Tr α) (b : Tr β) : anyB f a b = true ↔ ∃ p, f (a.val p) (b.val p) = true := by
  induction a, b using side_ind with
  | leaves a b => exact ⟨fun h => ⟨fun _ => false, h⟩, fun ⟨_, h⟩ => h⟩
  | halves a b h ihl ihr =>
    have e : anyB f a b = (anyB f (halfL a) (halfL b) || anyB f (halfR a) (halfR b)) := side_halves _ _ a b h
    rw [e, Bool.or_eq_true, ihl, ihr]
    constructor
    · rintro (⟨p, h⟩ | ⟨p, h⟩)
      · rw [val_halfL, val_halfL] at h; exact ⟨_, h⟩
      · rw [val_halfR, val_halfR] at h; exact ⟨_, h⟩
    · rintro ⟨p, h⟩
      rw [val_half a, val_half b] at h
      by_cases hp : p 0 = true
      · simp only [hp, if_true] at h; exact Or.inr ⟨_, h⟩
      · simp only [hp] at h; exact Or.inl ⟨_, h⟩
end

end Go.Proofs.YtoebmfhgaalcdaaGreatDoor

namespace Go.Proofs.YtoebmfhgaalcdaaGreatDoor

def lowest : Tr Nat → Nat
  | ⟨.inl a⟩ => a
  | ⟨.inr (l, r)⟩ => min (lowest l) (lowest r)

theorem lowest_le (t : Tr Nat) : ∀ p, lowest t ≤ t.val p := by
  induction t using Tr.ind with
  | leaf a => intro p; exact Nat.le_refl _
  | pair l r ihl ihr =>
    intro p
    rw [val_pair]
    show min (lowest l) (lowest r) ≤ _
    split
    · exact Nat.le_trans (Nat.min_le_right _ _) (ihr _)
    · exact Nat.le_trans (Nat.min_le_left _ _) (ihl _)
theorem le_highest (t : Tr Nat) : ∀ p, t.val p ≤ highest t := by
  induction t using Tr.ind with
  | leaf a => intro p; exact Nat.le_refl _
  | pair l r ihl ihr =>
    intro p
    rw [val_pair]
    show _ ≤ max (highest l) (highest r)
    split
    · exact Nat.le_trans (ihr _) (Nat.le_max_right _ _)
    · exact Nat.le_trans (ihl _) (Nat.le_max_left _ _)
theorem highest_at (t : Tr Nat) : ∃ p, t.val p = highest t := by
  induction t using Tr.ind with
  | leaf a => exact ⟨fun _ => false, rfl⟩
  | pair l r ihl ihr =>
    obtain ⟨p, hp⟩ := ihl
    obtain ⟨q, hq⟩ := ihr
    by_cases h : highest l ≤ highest r
    · refine ⟨road true q, ?_⟩
      rw [val_right, hq]; show _ = max _ _; omega
    · refine ⟨road false p, ?_⟩
      rw [val_left, hp]; show _ = max _ _; omega
theorem highest_le (t : Tr Nat) (n : Nat) (h : ∀ p, t.val p ≤ n) : highest t ≤ n := by
  obtain ⟨p, hp⟩ := highest_at t
  rw [← hp]; exact h p
theorem low_high (t : Tr Nat) : lowest t ≤ highest t := Nat.le_trans (lowest_le t (fun _ => false)) (le_highest t _)

/-- The box's own number: 0 in a pair. -/
def topV : Tr Nat → Nat
  | ⟨.inl a⟩ => a
  | ⟨.inr _⟩ => 0
theorem topV_of (a : Tr Nat) (n : Nat) (h : a = .leaf n) : topV a = n := by rw [h]; rfl

def fillLeaf (own : Bool) (n : Nat) : Bool × Tr Nat := (own, .leaf n)
def fillL (l r : Bool × Tr Nat) : Tr Nat := if l.1 = true then .leaf (max (topV l.2) (lowest r.2)) else l.2
def fillHalves (l r : Bool × Tr Nat) : Bool × Tr Nat :=
  if (l.1 && r.1) = true then (true, .leaf (max (topV l.2) (topV r.2)))
  else (false, merge (fillL l r) (if r.1 = true then .leaf (max (topV r.2) (lowest (fillL l r))) else r.2))
def fillP (id : Tr Bool) (ev : Tr Nat) : Bool × Tr Nat := side fillLeaf fillHalves id ev

/-- What is so of a row that is filled up. -/
structure Filled (id : Tr Bool) (ev : Tr Nat) (f : Bool × Tr Nat) : Prop where
  own : f.1 = true → ∀ p, id.val p = true
  leaf : f.1 = true → ∃ n, f.2 = .leaf n
  plain : plainT f.2
  deep : ∀ h, deepT id ≤ h → deepT ev ≤ h → deepT f.2 ≤ h
  more : ∀ p, ev.val p ≤ f.2.val p
  rest : ∀ p, id.val p = false → f.2.val p = ev.val p
  high : ∀ p, f.2.val p ≤ highest ev
  pairs : pairsT f.2 ≤ pairsT ev

theorem high_halfL (t : Tr Nat) : highest (halfL t) ≤ highest t := by
  cases t using Tr.cs with
  | leaf a => exact Nat.le_refl _
  | pair l r => exact Nat.le_max_left _ _
theorem high_halfR (t : Tr Nat) : highest (halfR t) ≤ highest t := by
  cases t using Tr.cs with
  | leaf a => exact Nat.le_refl _
  | pair l r => exact Nat.le_max_right _ _

theorem const_pairs {ev f : Tr Nat} (hf : plainT f) (n : Nat) (e : ev = .leaf n) (h1 : ∀ p, ev.val p ≤ f.val p) (h2 : ∀ p, f.val p ≤ highest ev) : f = .leaf n := by
  subst e
  exact leaf_of_val n hf (fun p => Nat.le_antisymm (h2 p) (h1 p))

/-- Two halves, each at least as great as they were. -/
theorem halves_more {ev a b : Tr Nat} (h1 : ∀ p, (halfL ev).val p ≤ a.val p) (h2 : ∀ p, (halfR ev).val p ≤ b.val p) (p : Nat → Bool) : ev.val p ≤ (merge a b).val p := by
  rw [val_merge, val_half ev]
  split
  · exact h2 _
  · exact h1 _

theorem filled (id : Tr Bool) (ev : Tr Nat) : Filled id ev (fillP id ev) := by
  induction id, ev using side_ind with
  | leaves a b =>
    refine ⟨fun h _ => h, fun _ => ⟨b, rfl⟩, trivial, fun h _ _ => Nat.zero_le _, fun p => Nat.le_refl _, fun _ _ => rfl, fun _ => Nat.le_refl _, Nat.le_refl _⟩
  | halves id ev h L R =>
    have e : fillP id ev = fillHalves (fillP (halfL id) (halfL ev)) (fillP (halfR id) (halfR ev)) := side_halves _ _ id ev h
    generalize fillP (halfL id) (halfL ev) = l at *
    generalize fillP (halfR id) (halfR ev) = r at *
    generalize fillP id ev = f at *
    have hiL := high_halfL ev
    have hiR := high_halfR ev
    by_cases hb : (l.1 && r.1) = true
    · rw [fillHalves, if_pos hb] at e
      rw [Bool.and_eq_true] at hb
      obtain ⟨n, en⟩ := L.leaf hb.1
      obtain ⟨m, em⟩ := R.leaf hb.2
      have hn : n ≤ highest ev := by have := L.high (fun _ => false); rw [en, val_leaf] at this; omega
      have hm : m ≤ highest ev := by have := R.high (fun _ => false); rw [em, val_leaf] at this; omega
      rw [topV_of _ n en, topV_of _ m em] at e
      have own : ∀ p, id.val p = true := by
        intro p; rw [val_half]; split
        · exact R.own hb.2 _
        · exact L.own hb.1 _
      subst e
      refine ⟨fun _ => own, fun _ => ⟨_, rfl⟩, trivial, fun _ _ _ => Nat.zero_le _, fun p => ?_, fun p hp => ?_, fun p => ?_, Nat.zero_le _⟩
      · show _ ≤ max n m
        rw [val_half ev]
        have q1 := L.more (fun k => p (k + 1))
        have q2 := R.more (fun k => p (k + 1))
        rw [en, val_leaf] at q1
        rw [em, val_leaf] at q2
        split <;> omega
      · rw [own p] at hp; cases hp
      · show max n m ≤ _; omega
    · rw [fillHalves, if_neg hb] at e
      -- the two halves, raised
      have A : ∃ a b, f = (false, merge a b) ∧ (∀ p, (halfL ev).val p ≤ a.val p) ∧ (∀ p, (halfR ev).val p ≤ b.val p) ∧ plainT a ∧ plainT b ∧ deepT a ≤ deepT l.2 ∧ deepT b ≤ deepT r.2 ∧
          (∀ p, (halfL id).val p = false → a.val p = (halfL ev).val p) ∧ (∀ p, (halfR id).val p = false → b.val p = (halfR ev).val p) ∧ (∀ p, a.val p ≤ highest ev) ∧ (∀ p, b.val p ≤ highest ev) ∧ pairsT a ≤ pairsT l.2 ∧ pairsT b ≤ pairsT r.2 := by
        by_cases hl : l.1 = true
        · have hr : ¬ r.1 = true := fun hr => hb (by rw [hl, hr]; rfl)
          obtain ⟨n, en⟩ := L.leaf hl
          have hn : n ≤ highest ev := by have := L.high (fun _ => false); rw [en, val_leaf] at this; omega
          have hlow : lowest r.2 ≤ highest ev := Nat.le_trans (lowest_le r.2 (fun _ => false)) (Nat.le_trans (R.high _) hiR)
          refine ⟨.leaf (max n (lowest r.2)), r.2, ?_, ?_, R.more, trivial, R.plain, Nat.zero_le _, Nat.le_refl _, ?_, R.rest, ?_, fun p => Nat.le_trans (R.high p) hiR, Nat.zero_le _, Nat.le_refl _⟩
          · rw [e, if_neg hr, fillL, if_pos hl, topV_of _ n en]
          · intro p; have := L.more p; rw [en, val_leaf] at this; rw [val_leaf]; omega
          · intro p hp; rw [L.own hl p] at hp; cases hp
          · intro p; rw [val_leaf]; omega
        · by_cases hr : r.1 = true
          · obtain ⟨n, en⟩ := R.leaf hr
            have hn : n ≤ highest ev := by have := R.high (fun _ => false); rw [en, val_leaf] at this; omega
            have hlow : lowest l.2 ≤ highest ev := Nat.le_trans (lowest_le l.2 (fun _ => false)) (Nat.le_trans (L.high _) hiL)
            refine ⟨l.2, .leaf (max n (lowest l.2)), ?_, L.more, ?_, L.plain, trivial, Nat.le_refl _, Nat.zero_le _, L.rest, ?_, fun p => Nat.le_trans (L.high p) hiL, ?_, Nat.le_refl _, Nat.zero_le _⟩
            · rw [e, if_pos hr, fillL, if_neg hl, topV_of _ n en]
            · intro p; have := R.more p; rw [en, val_leaf] at this; rw [val_leaf]; omega
            · intro p hp; rw [R.own hr p] at hp; cases hp
            · intro p; rw [val_leaf]; omega
          · refine ⟨l.2, r.2, ?_, L.more, R.more, L.plain, R.plain, Nat.le_refl _, Nat.le_refl _, L.rest, R.rest, fun p => Nat.le_trans (L.high p) hiL, fun p => Nat.le_trans (R.high p) hiR, Nat.le_refl _, Nat.le_refl _⟩
            rw [e, if_neg hr, fillL, if_neg hl]
      clear e
      obtain ⟨a, b, rfl, m1, m2, p1, p2, d1, d2, r1, r2, t1, t2, q1, q2⟩ := A
      have HM := halves_more m1 m2
      have HP : plainT (merge a b) := plain_merge p1 p2
      have HH : ∀ p, (merge a b).val p ≤ highest ev := by
        intro p; rw [val_merge]; split
        · exact t2 _
        · exact t1 _
      refine ⟨fun h => (Bool.false_ne_true h).elim, fun h => (Bool.false_ne_true h).elim, HP, ?_, HM, ?_, HH, ?_⟩
      · intro k h1 h2
        obtain ⟨k, rfl⟩ := deep_two h h1 h2
        have := L.deep k (deep_halfL id k h1) (deep_halfL ev k h2)
        have := R.deep k (deep_halfR id k h1) (deep_halfR ev k h2)
        have := deep_merge a b
        show deepT (merge a b) ≤ k + 1
        omega
      · intro p hp
        show (merge a b).val p = _
        rw [val_half] at hp
        rw [val_merge, val_half ev]
        by_cases h0 : p 0 = true
        · rw [if_pos h0] at hp ⊢; rw [if_pos h0]; exact r2 _ hp
        · rw [if_neg h0] at hp ⊢; rw [if_neg h0]; exact r1 _ hp
      · show pairsT (merge a b) ≤ _
        cases ev using Tr.cs with
        | leaf n => rw [const_pairs HP n rfl HM HH]; exact Nat.le_refl _
        | pair x y =>
          have := pairs_merge a b
          have := L.pairs
          have := R.pairs
          simp only [halfL, halfR] at *
          show _ ≤ 1 + pairsT x + pairsT y
          omega

def shorterP : Option (Tr Nat) → Option (Tr Nat) → Option (Tr Nat)
  | none, b => b
  | some a, none => some a
  | some a, some b => if pairsT b < pairsT a then some b else some a
def mergeAnyP : Option (Tr Nat) → Option (Tr Nat) → Option (Tr Nat)
  | some a, some b => some (merge a b)
  | _, _ => none
def growLeaf (own : Bool) (n : Nat) : Tr Nat × Option (Tr Nat) := (.leaf n, if (own && decide (n < 1099511627776)) = true then some (.leaf (n + 1)) else none)
def growHalves (l r : Tr Nat × Option (Tr Nat)) : Tr Nat × Option (Tr Nat) := (merge l.1 r.1, shorterP (mergeAnyP l.2 (some r.1)) (mergeAnyP (some l.1) r.2))
def growP (id : Tr Bool) (ev : Tr Nat) : Tr Nat × Option (Tr Nat) := side growLeaf growHalves id ev

/-- What is so of a row that has grown. -/
structure Grown (id : Tr Bool) (ev t : Tr Nat) : Prop where
  plain : plainT t
  deep : ∀ h, deepT id ≤ h → deepT ev ≤ h → deepT t ≤ h
  more : ∀ p, ev.val p ≤ t.val p
  one : ∀ p, t.val p ≤ ev.val p + 1
  cap : ∀ p, ev.val p ≤ 1099511627776 → t.val p ≤ 1099511627776
  rest : ∀ p, id.val p = false → t.val p = ev.val p
  some : ∃ p, id.val p = true ∧ ev.val p < t.val p

theorem shorter_or (a b : Option (Tr Nat)) : shorterP a b = a ∨ shorterP a b = b := by
  cases a with
  | none => exact Or.inr rfl
  | some a =>
    cases b with
    | none => exact Or.inl rfl
    | some b =>
      unfold shorterP
      by_cases h : pairsT b < pairsT a
      · simp only [h, if_true]; exact Or.inr trivial
      · simp only [h, if_false]; exact Or.inl trivial
theorem shorter_none (a b : Option (Tr Nat)) : shorterP a b = none ↔ a = none ∧ b = none := by
  cases a with
  | none => simp [shorterP]
  | some a =>
    cases b with
    | none => simp [shorterP]
    | some b =>
      unfold shorterP
      by_cases h : pairsT b < pairsT a
      · simp [h]
      · simp [h]

theorem grown_old (id : Tr Bool) (ev : Tr Nat) : plainT ev → (growP id ev).1 = ev := by
  induction id, ev using side_ind with
  | leaves a b => intro _; rfl
  | halves id ev h L R =>
    intro hp
    have e : growP id ev = growHalves (growP (halfL id) (halfL ev)) (growP (halfR id) (halfR ev)) := side_halves _ _ id ev h
    rw [e]
    show merge _ _ = ev
    rw [L (plain_halfL ev hp), R (plain_halfR ev hp), merge_halves ev hp]

theorem merge_left {id : Tr Bool} {ev t : Tr Nat} (hp : plainT ev) (hl : (isLeaf id && isLeaf ev) = false) (G : Grown (halfL id) (halfL ev) t) : Grown id ev (merge t (halfR ev)) := by
  refine ⟨plain_merge G.plain (plain_halfR ev hp), ?_, ?_, ?_, ?_, ?_, ?_⟩
  · intro h h1 h2
    obtain ⟨k, rfl⟩ := deep_two hl h1 h2
    have := G.deep k (deep_halfL id k h1) (deep_halfL ev k h2)
    have := deep_halfR ev k h2
    have := deep_merge t (halfR ev)
    omega
  · exact halves_more G.more (fun _ => Nat.le_refl _)
  · intro p; rw [val_merge, val_half ev]; split
    · omega
    · exact G.one _
  · intro p; rw [val_merge, val_half ev]; split
    · exact fun h => h
    · exact G.cap _
  · intro p hq; rw [val_half id] at hq; rw [val_merge, val_half ev]
    by_cases h0 : p 0 = true
    · rw [if_pos h0, if_pos h0]
    · rw [if_neg h0] at hq ⊢; rw [if_neg h0]; exact G.rest _ hq
  · obtain ⟨p, h1, h2⟩ := G.some
    refine ⟨road false p, ?_, ?_⟩
    · rw [← val_halfL]; exact h1
    · rw [← val_halfL, val_merge]; exact h2
theorem merge_right {id : Tr Bool} {ev t : Tr Nat} (hp : plainT ev) (hl : (isLeaf id && isLeaf ev) = false) (G : Grown (halfR id) (halfR ev) t) : Grown id ev (merge (halfL ev) t) := by
  refine ⟨plain_merge (plain_halfL ev hp) G.plain, ?_, ?_, ?_, ?_, ?_, ?_⟩
  · intro h h1 h2
    obtain ⟨k, rfl⟩ := deep_two hl h1 h2
    have := G.deep k (deep_halfR id k h1) (deep_halfR ev k h2)
    have := deep_halfL ev k h2
    have := deep_merge (halfL ev) t
    omega
  · exact halves_more (fun _ => Nat.le_refl _) G.more
  · intro p; rw [val_merge, val_half ev]; split
    · exact G.one _
    · omega
  · intro p; rw [val_merge, val_half ev]; split
    · exact G.cap _
    · exact fun h => h
  · intro p hq; rw [val_half id] at hq; rw [val_merge, val_half ev]
    by_cases h0 : p 0 = true
    · rw [if_pos h0] at hq ⊢; rw [if_pos h0]; exact G.rest _ hq
    · rw [if_neg h0, if_neg h0]
  · obtain ⟨p, h1, h2⟩ := G.some
    refine ⟨road true p, ?_, ?_⟩
    · rw [← val_halfR]; exact h1
    · rw [← val_halfR, val_merge]; exact h2

/-- The two ways to grow a row. -/
theorem grow_two (id : Tr Bool) (ev : Tr Nat) (hp : plainT ev) (h : (isLeaf id && isLeaf ev) = false) :
    (growP id ev).2 = shorterP ((growP (halfL id) (halfL ev)).2.map (fun t => merge t (halfR ev))) ((growP (halfR id) (halfR ev)).2.map (fun t => merge (halfL ev) t)) := by
  have e : growP id ev = growHalves (growP (halfL id) (halfL ev)) (growP (halfR id) (halfR ev)) := side_halves _ _ id ev h
  rw [e]
  show shorterP (mergeAnyP (growP (halfL id) (halfL ev)).2 (some (growP (halfR id) (halfR ev)).1)) (mergeAnyP (some (growP (halfL id) (halfL ev)).1) (growP (halfR id) (halfR ev)).2) = _
  rw [grown_old _ _ (plain_halfL ev hp), grown_old _ _ (plain_halfR ev hp)]
  cases (growP (halfL id) (halfL ev)).2 <;> cases (growP (halfR id) (halfR ev)).2 <;> rfl

theorem grown (id : Tr Bool) (ev : Tr Nat) : plainT ev → ∀ t, (growP id ev).2 = some t → Grown id ev t := by
  induction id, ev using side_ind with
  | leaves a b =>
    intro _ t ht
    have ht : (if (a && decide (b < 1099511627776)) = true then some (Tr.leaf (b + 1)) else none) = some t := ht
    by_cases hc : (a && decide (b < 1099511627776)) = true
    · rw [if_pos hc] at ht
      injection ht with ht; subst ht
      simp only [Bool.and_eq_true, decide_eq_true_eq] at hc
      refine ⟨trivial, fun _ _ _ => Nat.zero_le _, fun _ => Nat.le_succ _, fun _ => Nat.le_refl _, fun _ _ => hc.2, fun p hq => ?_, ⟨fun _ => false, hc.1, Nat.lt_succ_self _⟩⟩
      rw [val_leaf, hc.1] at hq; cases hq
    · rw [if_neg hc] at ht; cases ht
  | halves id ev h L R =>
    intro hp t ht
    rw [grow_two id ev hp h] at ht
    rcases shorter_or ((growP (halfL id) (halfL ev)).2.map (fun t => merge t (halfR ev))) ((growP (halfR id) (halfR ev)).2.map (fun t => merge (halfL ev) t)) with e | e
    · rw [e, Option.map_eq_some_iff] at ht
      obtain ⟨u, hu, rfl⟩ := ht
      exact merge_left hp h (L (plain_halfL ev hp) u hu)
    · rw [e, Option.map_eq_some_iff] at ht
      obtain ⟨u, hu, rfl⟩ := ht
      exact merge_right hp h (R (plain_halfR ev hp) u hu)

theorem grow_none (id : Tr Bool) (ev : Tr Nat) : plainT ev → ((growP id ev).2 = none ↔ ∀ p, id.val p = true → 1099511627776 ≤ ev.val p) := by
  induction id, ev using side_ind with
  | leaves a b =>
    intro _
    show (if (a && decide (b < 1099511627776)) = true then some (Tr.leaf (b + 1)) else none) = none ↔ _
    by_cases hc : (a && decide (b < 1099511627776)) = true
    · rw [if_pos hc]
      simp only [Bool.and_eq_true, decide_eq_true_eq] at hc
      refine ⟨(fun h => nomatch h), fun h => ?_⟩
      have := h (fun _ => false) hc.1
      rw [val_leaf] at this; omega
    · rw [if_neg hc]
      refine ⟨fun _ p ha => ?_, fun _ => rfl⟩
      rw [val_leaf] at ha ⊢
      rw [ha] at hc
      simp only [Bool.true_and, decide_eq_true_eq] at hc
      omega
  | halves id ev h L R =>
    intro hp
    rw [grow_two id ev hp h, shorter_none, Option.map_eq_none_iff, Option.map_eq_none_iff, L (plain_halfL ev hp), R (plain_halfR ev hp)]
    constructor
    · rintro ⟨h1, h2⟩ p hi
      rw [val_half] at hi
      rw [val_half ev]
      by_cases h0 : p 0 = true
      · rw [if_pos h0] at hi ⊢; exact h2 _ hi
      · rw [if_neg h0] at hi ⊢; exact h1 _ hi
    · intro h1
      exact ⟨fun p hi => by rw [val_halfL] at hi ⊢; exact h1 _ hi, fun p hi => by rw [val_halfR] at hi ⊢; exact h1 _ hi⟩

theorem shorter_left {a b : Option (Tr Nat)} {t u : Tr Nat} (h : shorterP a b = some t) (hu : a = some u) : pairsT t ≤ pairsT u := by
  subst hu
  cases b with
  | none => injection h with h; subst h; exact Nat.le_refl _
  | some b =>
    unfold shorterP at h
    by_cases g : pairsT b < pairsT u
    · simp only [g, if_true] at h; injection h with h; subst h; omega
    · simp only [g, if_false] at h; injection h with h; subst h; exact Nat.le_refl _
theorem shorter_right {a b : Option (Tr Nat)} {t u : Tr Nat} (h : shorterP a b = some t) (hu : b = some u) : pairsT t ≤ pairsT u := by
  subst hu
  cases a with
  | none => injection h with h; subst h; exact Nat.le_refl _
  | some a =>
    unfold shorterP at h
    by_cases g : pairsT u < pairsT a
    · simp only [g, if_true] at h; injection h with h; subst h; exact Nat.le_refl _
    · simp only [g, if_false] at h; injection h with h; subst h; omega

/-- Filling raises no half where it raises nothing. -/
theorem fill_still (id : Tr Bool) (ev : Tr Nat) (h : (isLeaf id && isLeaf ev) = false) (he : ∀ p, (fillP id ev).2.val p ≤ ev.val p) :
    (∀ p, (fillP (halfL id) (halfL ev)).2.val p ≤ (halfL ev).val p) ∧ (∀ p, (fillP (halfR id) (halfR ev)).2.val p ≤ (halfR ev).val p) := by
  have e : fillP id ev = fillHalves (fillP (halfL id) (halfL ev)) (fillP (halfR id) (halfR ev)) := side_halves _ _ id ev h
  have FL := filled (halfL id) (halfL ev)
  have FR := filled (halfR id) (halfR ev)
  generalize fillP (halfL id) (halfL ev) = l at *
  generalize fillP (halfR id) (halfR ev) = r at *
  by_cases hb : (l.1 && r.1) = true
  · rw [fillHalves, if_pos hb] at e
    rw [e] at he
    rw [Bool.and_eq_true] at hb
    obtain ⟨n, en⟩ := FL.leaf hb.1
    obtain ⟨m, em⟩ := FR.leaf hb.2
    rw [topV_of _ n en, topV_of _ m em] at he
    refine ⟨fun p => ?_, fun p => ?_⟩
    · have q : max n m ≤ ev.val (road false p) := he (road false p)
      rw [← val_halfL ev] at q; rw [en, val_leaf]; omega
    · have q : max n m ≤ ev.val (road true p) := he (road true p)
      rw [← val_halfR ev] at q; rw [em, val_leaf]; omega
  · rw [fillHalves, if_neg hb] at e
    rw [e] at he
    have h1 : ∀ p, l.2.val p ≤ (fillL l r).val p := by
      intro p
      unfold fillL
      by_cases hl : l.1 = true
      · obtain ⟨n, en⟩ := FL.leaf hl
        rw [if_pos hl, topV_of _ n en, en, val_leaf, val_leaf]; omega
      · rw [if_neg hl]; exact Nat.le_refl _
    have h2 : ∀ p, r.2.val p ≤ (if r.1 = true then Tr.leaf (max (topV r.2) (lowest (fillL l r))) else r.2).val p := by
      intro p
      by_cases hr : r.1 = true
      · obtain ⟨n, en⟩ := FR.leaf hr
        rw [if_pos hr, topV_of _ n en, en, val_leaf, val_leaf]; omega
      · rw [if_neg hr]; exact Nat.le_refl _
    refine ⟨fun p => ?_, fun p => ?_⟩
    · have := he (road false p)
      rw [← val_halfL ev, val_merge] at this
      exact Nat.le_trans (h1 p) this
    · have := he (road true p)
      rw [← val_halfR ev, val_merge] at this
      exact Nat.le_trans (h2 p) this

theorem pairs_halves {α : Type} (t : Tr α) (h : isLeaf t = false) : pairsT t = 1 + pairsT (halfL t) + pairsT (halfR t) := by
  cases t using Tr.cs with
  | leaf a => cases h
  | pair l r => rfl
theorem deep_halves {α : Type} (t : Tr α) (h : isLeaf t = false) : deepT t = max (deepT (halfL t)) (deepT (halfR t)) + 1 := by
  cases t using Tr.cs with
  | leaf a => cases h
  | pair l r => rfl
theorem leaf_half {α : Type} (t : Tr α) (h : isLeaf t = true) : pairsT t = 0 ∧ pairsT (halfL t) = 0 ∧ pairsT (halfR t) = 0 ∧ deepT (halfL t) = 0 ∧ deepT (halfR t) = 0 ∧ deepT t = 0 := by
  cases t using Tr.cs with
  | leaf a => exact ⟨rfl, rfl, rfl, rfl, rfl, rfl⟩
  | pair l r => cases h

/-- Where nothing can be filled up, growing costs no more brackets than the piece has in one another. -/
theorem grown_pairs (id : Tr Bool) (ev : Tr Nat) : plainT ev → (∀ p, (fillP id ev).2.val p ≤ ev.val p) → ∀ t, (growP id ev).2 = some t → pairsT t ≤ pairsT ev + deepT id := by
  induction id, ev using side_ind with
  | leaves a b =>
    intro _ _ t ht
    have ht : (if (a && decide (b < 1099511627776)) = true then some (Tr.leaf (b + 1)) else none) = some t := ht
    by_cases hc : (a && decide (b < 1099511627776)) = true
    · rw [if_pos hc] at ht; injection ht with ht; subst ht; exact Nat.zero_le _
    · rw [if_neg hc] at ht; cases ht
  | halves id ev h L R =>
    intro hp he t ht
    obtain ⟨e1, e2⟩ := fill_still id ev h he
    have hg := ht
    rw [grow_two id ev hp h] at ht
    have gl : ∀ u, (growP (halfL id) (halfL ev)).2 = some u → pairsT t ≤ 1 + (pairsT (halfL ev) + deepT (halfL id)) + pairsT (halfR ev) := by
      intro u hu
      have q1 := L (plain_halfL ev hp) e1 u hu
      have q2 : pairsT t ≤ pairsT (merge u (halfR ev)) := shorter_left ht (by rw [hu]; rfl)
      have q3 := pairs_merge u (halfR ev)
      omega
    have gr : ∀ u, (growP (halfR id) (halfR ev)).2 = some u → pairsT t ≤ 1 + pairsT (halfL ev) + (pairsT (halfR ev) + deepT (halfR id)) := by
      intro u hu
      have q1 := R (plain_halfR ev hp) e2 u hu
      have q2 : pairsT t ≤ pairsT (merge (halfL ev) u) := shorter_right ht (by rw [hu]; rfl)
      have q3 := pairs_merge (halfL ev) u
      omega
    by_cases hi : isLeaf id = true
    · -- an own row that is a leaf, beside brackets: filling would have raised it
      exfalso
      have hv : isLeaf ev = false := by rw [hi] at h; simpa using h
      have F := filled id ev
      have hs := grown id ev hp t hg
      obtain ⟨p, h1, _⟩ := hs.some
      have hown : ∃ a, id = .leaf a := by
        cases id using Tr.cs with
        | leaf a => exact ⟨a, rfl⟩
        | pair _ _ => cases hi
      obtain ⟨a, rfl⟩ := hown
      rw [val_leaf] at h1
      subst h1
      have fo : ∀ t : Tr Nat, (fillP (.leaf true) t).1 = true := by
        intro t
        induction t using Tr.ind with
        | leaf b => rfl
        | pair l r ihl ihr =>
          show (fillHalves (fillP (.leaf true) l) (fillP (.leaf true) r)).1 = true
          rw [fillHalves, if_pos (by rw [ihl, ihr]; rfl)]
      obtain ⟨n, en⟩ := F.leaf (fo ev)
      have ev' : ev = .leaf n := by
        refine leaf_of_val n hp (fun p => ?_)
        have q1 := F.more p
        have q2 := he p
        rw [en, val_leaf] at q1 q2
        omega
      rw [ev'] at hv; cases hv
    · have hi : isLeaf id = false := by simpa using hi
      have di := deep_halves id hi
      have pe : pairsT ev = 0 ∧ pairsT (halfL ev) = 0 ∧ pairsT (halfR ev) = 0 ∨ pairsT ev = 1 + pairsT (halfL ev) + pairsT (halfR ev) := by
        cases hv : isLeaf ev with
        | true => have := leaf_half ev hv; exact Or.inl ⟨this.1, this.2.1, this.2.2.1⟩
        | false => exact Or.inr (pairs_halves ev hv)
      cases gL : (growP (halfL id) (halfL ev)).2 with
      | some u => have := gl u gL; omega
      | none =>
        cases gR : (growP (halfR id) (halfR ev)).2 with
        | some u => have := gr u gR; omega
        | none => rw [gL, gR] at ht; cases ht

def atMostP (a b : Tr Nat) : Bool := allB (fun x y => decide (x ≤ y)) a b
theorem atMost_iff (a b : Tr Nat) : atMostP a b = true ↔ ∀ p, a.val p ≤ b.val p := by
  unfold atMostP; rw [allB_iff]; simp

/-- Event, on trees. -/
def eventP (id : Tr Bool) (ev : Tr Nat) : Option (Tr Nat) := if atMostP (fillP id ev).2 ev = true then (growP id ev).2 else some (fillP id ev).2

/-- What must be so of what comes of an event. -/
structure Evented (id : Tr Bool) (ev t : Tr Nat) : Prop where
  plain : plainT t
  deep : deepT t ≤ 8
  more : ∀ p, ev.val p ≤ t.val p
  rest : ∀ p, id.val p = false → t.val p = ev.val p
  some : ∃ p, id.val p = true ∧ ev.val p < t.val p
  high : highest t ≤ highest ev + 1
  cap : highest t ≤ 1099511627776
  pairs : pairsT t ≤ pairsT ev + deepT id

theorem event_some (id : Tr Bool) (ev t : Tr Nat) (hp : plainT ev) (d1 : deepT id ≤ 8) (d2 : deepT ev ≤ 8) (hc : highest ev ≤ 1099511627776) (h : eventP id ev = some t) : Evented id ev t := by
  unfold eventP at h
  by_cases ha : atMostP (fillP id ev).2 ev = true
  · rw [if_pos ha] at h
    have G := grown id ev hp t h
    refine ⟨G.plain, G.deep 8 d1 d2, G.more, G.rest, G.some, ?_, ?_, grown_pairs id ev hp ((atMost_iff _ _).1 ha) t h⟩
    · exact highest_le t _ (fun p => by have := G.one p; have := le_highest ev p; omega)
    · exact highest_le t _ (fun p => G.cap p (Nat.le_trans (le_highest ev p) hc))
  · rw [if_neg ha] at h
    injection h with h
    have F := filled id ev
    have F1 := F.plain
    have F2 := F.deep 8 d1 d2
    have F3 := F.more
    have F4 := F.rest
    have F5 := F.high
    have F6 := F.pairs
    clear F
    rw [h] at ha F1 F2 F3 F4 F5 F6
    have hs : ∃ p, ¬ t.val p ≤ ev.val p := Classical.byContradiction fun hn => ha ((atMost_iff _ _).2 fun p => Classical.byContradiction fun hq => hn ⟨p, hq⟩)
    obtain ⟨p, hq⟩ := hs
    have hh : highest t ≤ highest ev := highest_le t _ F5
    refine ⟨F1, F2, F3, F4, ⟨p, ?_, by omega⟩, by omega, by omega, by omega⟩
    cases hi : id.val p with
    | true => rfl
    | false => exact absurd (Nat.le_of_eq (F4 p hi)) hq
theorem event_none (id : Tr Bool) (ev : Tr Nat) (hp : plainT ev) (hc : highest ev ≤ 1099511627776) : eventP id ev = none ↔ ∀ p, id.val p = true → ev.val p = 1099511627776 := by
  have GN := grow_none id ev hp
  have hle : ∀ p, ev.val p ≤ 1099511627776 := fun p => Nat.le_trans (le_highest ev p) hc
  constructor
  · intro h
    unfold eventP at h
    by_cases ha : atMostP (fillP id ev).2 ev = true
    · rw [if_pos ha] at h
      intro p hi
      have := GN.1 h p hi
      have := hle p
      omega
    · rw [if_neg ha] at h; cases h
  · intro h
    have F := filled id ev
    have ha : atMostP (fillP id ev).2 ev = true := by
      rw [atMost_iff]
      intro p
      cases hi : id.val p with
      | true => rw [h p hi]; exact Nat.le_trans (F.high p) hc
      | false => exact Nat.le_of_eq (F.rest p hi)
    unfold eventP
    rw [if_pos ha]
    exact GN.2 (fun p hi => Nat.le_of_eq (h p hi).symm)

end Go.Proofs.YtoebmfhgaalcdaaGreatDoor

namespace Go.Proofs.YtoebmfhgaalcdaaGreatDoor

/-- An EV above a base. -/
def toEv : Tr Nat → Nat → Ev
  | ⟨.inl a⟩, base => .num (a - base)
  | ⟨.inr (l, r)⟩, base => .br (min (lowest l) (lowest r) - base) (toEv l (min (lowest l) (lowest r))) (toEv r (min (lowest l) (lowest r)))

theorem front_toEv (t : Tr Nat) (base : Nat) : front (toEv t base) = lowest t - base := by
  cases t using Tr.cs with
  | leaf a => rfl
  | pair l r => rfl
theorem toEv_deep (t : Tr Nat) : ∀ base, (toEv t base).deep = deepT t := by
  induction t using Tr.ind with
  | leaf a => intro base; rfl
  | pair l r ihl ihr => intro base; show max (toEv l _).deep (toEv r _).deep + 1 = max (deepT l) (deepT r) + 1; rw [ihl, ihr]
theorem evTree_toEv (t : Tr Nat) : ∀ base, base ≤ lowest t → evTree base (toEv t base) = t := by
  induction t using Tr.ind with
  | leaf a => intro base h; show Tr.leaf (base + (a - base)) = _; have : base ≤ a := h; rw [show base + (a - base) = a by omega]
  | pair l r ihl ihr =>
    intro base h
    have h : base ≤ min (lowest l) (lowest r) := h
    show Tr.pair (evTree (base + (min (lowest l) (lowest r) - base)) (toEv l _)) (evTree (base + (min (lowest l) (lowest r) - base)) (toEv r _)) = _
    rw [show base + (min (lowest l) (lowest r) - base) = min (lowest l) (lowest r) by omega, ihl _ (Nat.min_le_left _ _), ihr _ (Nat.min_le_right _ _)]
theorem isZero_toEv (t : Tr Nat) (base : Nat) (hb : base ≤ lowest t) (h : isZero (toEv t base) = true) : t = .leaf base := by
  cases t using Tr.cs with
  | leaf a =>
    rw [isZero_iff] at h
    have : a - base = 0 := (digs_zero _).1 h
    have hb : base ≤ a := hb
    rw [show a = base by omega]
  | pair l r =>
    rw [isZero_iff] at h
    simp [toEv, evText] at h
theorem plain_toEv (t : Tr Nat) : ∀ base, plainT t → base ≤ lowest t → highest t ≤ 1099511627776 → plainE (toEv t base) := by
  induction t using Tr.ind with
  | leaf a => intro base _ _ h; have h : a ≤ 1099511627776 := h; show a - base ≤ _; omega
  | pair l r ihl ihr =>
    intro base hp hb hh
    have hh : max (highest l) (highest r) ≤ 1099511627776 := hh
    have hl := low_high l
    refine ⟨by omega, ?_, ?_, ihl _ hp.2.1 (Nat.min_le_left _ _) (by omega), ihr _ hp.2.2 (Nat.min_le_right _ _) (by omega)⟩
    · rw [front_toEv, front_toEv]; omega
    · by_cases hz : (isZero (toEv l (min (lowest l) (lowest r))) && isZero (toEv r (min (lowest l) (lowest r)))) = true
      · exfalso
        rw [Bool.and_eq_true] at hz
        have e1 := isZero_toEv l _ (Nat.min_le_left _ _) hz.1
        have e2 := isZero_toEv r _ (Nat.min_le_right _ _) hz.2
        have hs := hp.1
        generalize min (lowest l) (lowest r) = m at e1 e2
        rw [e1, e2, same_leaf] at hs
        cases hs
      · simpa using hz

theorem evText_len (t : Tr Nat) : ∀ (h base : Nat), deepT t ≤ h → highest t ≤ 1099511627776 → (evText (toEv t base)).length + 17 ≤ 30 * 2 ^ h := by
  have D : ∀ n, n ≤ 1099511627776 → (digs n).length ≤ 13 := fun n hn => digs_len 12 n (by omega)
  induction t using Tr.ind with
  | leaf a =>
    intro h base _ hh
    have hh : a ≤ 1099511627776 := hh
    have := D (a - base) (by omega)
    have : 1 ≤ 2 ^ h := Nat.one_le_two_pow
    show (digs (a - base)).length + 17 ≤ _
    omega
  | pair l r ihl ihr =>
    intro h base hd hh
    have hh : max (highest l) (highest r) ≤ 1099511627776 := hh
    have hd : max (deepT l) (deepT r) + 1 ≤ h := hd
    have hl := low_high l
    cases h with
    | zero => omega
    | succ h =>
      have e : 2 ^ (h + 1) = 2 * 2 ^ h := by rw [Nat.pow_succ]; omega
      have a1 := ihl h (min (lowest l) (lowest r)) (by omega) (by omega)
      have a2 := ihr h (min (lowest l) (lowest r)) (by omega) (by omega)
      have a3 := D (min (lowest l) (lowest r) - base) (by omega)
      rw [e]
      simp only [toEv, evText, List.length_append, List.length_cons, List.length_nil]
      omega
theorem idText_len (t : Tr Bool) : ∀ (h : Nat), deepT t ≤ h → (idText t).length + 3 ≤ 4 * 2 ^ h := by
  induction t using Tr.ind with
  | leaf a =>
    intro h _
    have : 1 ≤ 2 ^ h := Nat.one_le_two_pow
    have e : (idText (.leaf a)).length = 1 := by cases a <;> rfl
    omega
  | pair l r ihl ihr =>
    intro h hd
    have hd : max (deepT l) (deepT r) + 1 ≤ h := hd
    cases h with
    | zero => omega
    | succ h =>
      have e : 2 ^ (h + 1) = 2 * 2 ^ h := by rw [Nat.pow_succ]; omega
      have a1 := ihl h (by omega)
      have a2 := ihr h (by omega)
      rw [e]
      simp only [idText, List.length_append, List.length_cons, List.length_nil]
      omega

theorem deep_same (t : Tr Bool) : t.deep = deepT t := by
  induction t using Tr.ind with
  | leaf a => rfl
  | pair l r ihl ihr => show max l.deep r.deep + 1 = max (deepT l) (deepT r) + 1; rw [ihl, ihr]
theorem sameB_same (a b : Tr Bool) : sameB a b = same a b := by
  cases a using Tr.cs with
  | leaf x =>
    cases b using Tr.cs with
    | leaf y => rfl
    | pair _ _ => rfl
  | pair _ _ => rfl
theorem sameI_same (a b : Tr Nat) : sameI a b = same a b := by
  cases a using Tr.cs with
  | leaf x =>
    cases b using Tr.cs with
    | leaf y => rfl
    | pair _ _ => rfl
  | pair _ _ => rfl
theorem plainB_same (t : Tr Bool) : plainB t ↔ plainT t := by
  induction t using Tr.ind with
  | leaf a => exact Iff.rfl
  | pair l r ihl ihr => show sameB l r = false ∧ plainB l ∧ plainB r ↔ same l r = false ∧ plainT l ∧ plainT r; rw [sameB_same, ihl, ihr]

/-- A plain stamp, as trees. -/
structure PT (id : Tr Bool) (ev : Tr Nat) : Prop where
  pi : plainT id
  di : deepT id ≤ 8
  pe : plainT ev
  de : deepT ev ≤ 8
  hi : highest ev ≤ 1099511627776

def wtext (id : Tr Bool) (ev : Tr Nat) : List UInt8 := whole id (toEv ev 0)

theorem PT.good {id : Tr Bool} {ev : Tr Nat} (h : PT id ev) : Good id (toEv ev 0) :=
  ⟨by rw [deep_same]; exact h.di, (plainB_same id).2 h.pi, by rw [toEv_deep]; exact h.de, plain_toEv ev 0 h.pe (Nat.zero_le _) h.hi, by rw [evTree_toEv ev 0 (Nat.zero_le _)]; exact h.hi⟩
theorem PT.len {id : Tr Bool} {ev : Tr Nat} (h : PT id ev) : (wtext id ev).length ≤ 8685 := by
  have a1 := idText_len id 8 h.di
  have a2 := evText_len ev 8 0 h.de h.hi
  rw [wtext, whole_len]
  omega
/-- What was written is read as it was. -/
theorem PT.read {id : Tr Bool} {ev : Tr Nat} (h : PT id ev) : readR (strOf (wtext id ev)) = .ok id ev := by
  have hl := h.len
  have H := has_prefix (wtext id ev) []
  rw [List.append_nil] at H
  have R := (readR_text (t := id) (e := toEv ev 0) (by rw [strOf_size]; omega) h.good H).1 (by rw [strOf_size, wtext, whole_len])
  rw [R, evTree_toEv ev 0 (Nat.zero_le _)]

/-- What is made of raw numbers is a plain stamp too. -/
theorem deepE : ∀ (e : Ev) (base : Nat), deepT (evTree base e) = e.deep
  | ⟨n, none⟩, base => rfl
  | ⟨n, some (l, r)⟩, base => by
    show max (deepT (evTree (base + n) l)) (deepT (evTree (base + n) r)) + 1 = max l.deep r.deep + 1
    rw [deepE l, deepE r]
theorem lowE : ∀ (e : Ev) (base : Nat), plainE e → lowest (evTree base e) = base + front e
  | ⟨n, none⟩, base, _ => rfl
  | ⟨n, some (l, r)⟩, base, h => by
    show min (lowest (evTree (base + n) l)) (lowest (evTree (base + n) r)) = base + n
    rw [lowE l _ h.2.2.2.1, lowE r _ h.2.2.2.2]
    have := h.2.1
    omega
theorem toEv_evTree : ∀ (e : Ev) (base : Nat), plainE e → toEv (evTree base e) base = e
  | ⟨n, none⟩, base, _ => by show Ev.num (base + n - base) = _; rw [show base + n - base = n by omega]
  | ⟨n, some (l, r)⟩, base, h => by
    have e1 := lowE l (base + n) h.2.2.2.1
    have e2 := lowE r (base + n) h.2.2.2.2
    have hm : min (lowest (evTree (base + n) l)) (lowest (evTree (base + n) r)) = base + n := by have := h.2.1; omega
    show Ev.br (min (lowest (evTree (base + n) l)) (lowest (evTree (base + n) r)) - base) (toEv (evTree (base + n) l) (min (lowest (evTree (base + n) l)) (lowest (evTree (base + n) r)))) (toEv (evTree (base + n) r) (min (lowest (evTree (base + n) l)) (lowest (evTree (base + n) r)))) = _
    rw [hm, toEv_evTree l _ h.2.2.2.1, toEv_evTree r _ h.2.2.2.2, show base + n - base = n by omega]
theorem plain_evTree : ∀ (e : Ev) (base : Nat), plainE e → plainT (evTree base e)
  | ⟨n, none⟩, base, _ => trivial
  | ⟨n, some (l, r)⟩, base, h => by
    have R := rough_no (base + n) l r h.2.1 h.2.2.1
    rw [Bool.or_eq_false_iff] at R
    exact ⟨by rw [← sameI_same]; exact R.2, plain_evTree l _ h.2.2.2.1, plain_evTree r _ h.2.2.2.2⟩
theorem Good.toPT {id : Tr Bool} {e : Ev} (G : Good id e) : PT id (evTree 0 e) ∧ wtext id (evTree 0 e) = whole id e := by
  refine ⟨⟨(plainB_same id).1 G.pt, by rw [← deep_same]; exact G.dt, plain_evTree e 0 G.pe, by rw [deepE]; exact G.de, G.hi⟩, ?_⟩
  rw [wtext, toEv_evTree e 0 G.pe]

/-- How many cells of a row. -/
def shareP : Tr Bool → Nat → Nat
  | ⟨.inl true⟩, n => n
  | ⟨.inl false⟩, _ => 0
  | ⟨.inr (l, r)⟩, n => shareP l (n / 2) + shareP r (n / 2)
def isNoneP : Tr Bool → Bool
  | ⟨.inl a⟩ => !a
  | ⟨.inr _⟩ => false
def cutP : Tr Bool → Tr Bool × Tr Bool
  | ⟨.inl a⟩ => (.pair (.leaf a) (.leaf false), .pair (.leaf false) (.leaf a))
  | ⟨.inr (l, r)⟩ =>
    if isNoneP l = true then (.pair (.leaf false) (cutP r).1, .pair (.leaf false) (cutP r).2)
    else if isNoneP r = true then (.pair (cutP l).1 (.leaf false), .pair (cutP l).2 (.leaf false))
    else (.pair l (.leaf false), .pair (.leaf false) r)

theorem isNone_iff (t : Tr Bool) : isNoneP t = true ↔ t = .leaf false := by
  cases t using Tr.cs with
  | leaf a => cases a <;> simp [isNoneP]
  | pair l r => simp [isNoneP]
theorem half_pow (h : Nat) : 2 ^ (h + 1) / 2 = 2 ^ h := by rw [Nat.pow_succ]; omega

theorem share_zero (t : Tr Bool) : ∀ h, deepT t ≤ h → plainT t → (shareP t (2 ^ h) = 0 ↔ t = .leaf false) := by
  induction t using Tr.ind with
  | leaf a =>
    intro h _ _
    have : 1 ≤ 2 ^ h := Nat.one_le_two_pow
    cases a
    · simp [shareP]
    · simp [shareP]
  | pair l r ihl ihr =>
    intro h hd hp
    have hd : max (deepT l) (deepT r) + 1 ≤ h := hd
    cases h with
    | zero => omega
    | succ h =>
      refine ⟨fun e => ?_, fun e => nomatch e⟩
      exfalso
      have e : shareP l (2 ^ (h + 1) / 2) + shareP r (2 ^ (h + 1) / 2) = 0 := e
      rw [half_pow] at e
      have e1 := (ihl h (by omega) hp.2.1).1 (by omega)
      have e2 := (ihr h (by omega) hp.2.2).1 (by omega)
      have := hp.1
      rw [e1, e2] at this; cases this
theorem share_le (t : Tr Bool) : ∀ h, deepT t ≤ h → shareP t (2 ^ h) ≤ 2 ^ h := by
  induction t using Tr.ind with
  | leaf a => intro h _; cases a <;> simp [shareP]
  | pair l r ihl ihr =>
    intro h hd
    have hd : max (deepT l) (deepT r) + 1 ≤ h := hd
    cases h with
    | zero => omega
    | succ h =>
      show shareP l (2 ^ (h + 1) / 2) + shareP r (2 ^ (h + 1) / 2) ≤ _
      rw [half_pow]
      have := ihl h (by omega)
      have := ihr h (by omega)
      rw [Nat.pow_succ]; omega
theorem share_full (t : Tr Bool) : ∀ h, deepT t ≤ h → plainT t → (shareP t (2 ^ h) = 2 ^ h ↔ t = .leaf true) := by
  induction t using Tr.ind with
  | leaf a =>
    intro h _ _
    have : 1 ≤ 2 ^ h := Nat.one_le_two_pow
    cases a
    · simp [shareP]; omega
    · simp [shareP]
  | pair l r ihl ihr =>
    intro h hd hp
    have hd : max (deepT l) (deepT r) + 1 ≤ h := hd
    cases h with
    | zero => omega
    | succ h =>
      refine ⟨fun e => ?_, fun e => nomatch e⟩
      exfalso
      have e : shareP l (2 ^ (h + 1) / 2) + shareP r (2 ^ (h + 1) / 2) = 2 ^ (h + 1) := e
      rw [half_pow, Nat.pow_succ] at e
      have l1 := share_le l h (by omega)
      have l2 := share_le r h (by omega)
      have e1 := (ihl h (by omega) hp.2.1).1 (by omega)
      have e2 := (ihr h (by omega) hp.2.2).1 (by omega)
      have := hp.1
      rw [e1, e2] at this; cases this

/-- Two pieces that one was cut into. -/
structure CutInto (h : Nat) (t a b : Tr Bool) : Prop where
  pa : plainT a
  pb : plainT b
  da : deepT a ≤ h
  db : deepT b ≤ h
  sum : shareP a (2 ^ h) + shareP b (2 ^ h) = shareP t (2 ^ h)
  a0 : 0 < shareP a (2 ^ h)
  b0 : 0 < shareP b (2 ^ h)
  val : ∀ p, (a.val p = true ∧ b.val p = false ∧ t.val p = true) ∨ (a.val p = false ∧ b.val p = true ∧ t.val p = true) ∨ (a.val p = false ∧ b.val p = false ∧ t.val p = false)

theorem share_pair (l r : Tr Bool) (h : Nat) : shareP (.pair l r) (2 ^ (h + 1)) = shareP l (2 ^ h) + shareP r (2 ^ h) := by
  show shareP l (2 ^ (h + 1) / 2) + shareP r (2 ^ (h + 1) / 2) = _
  rw [half_pow]
theorem share_false (n : Nat) : shareP (.leaf false) n = 0 := rfl
theorem share_true (n : Nat) : shareP (.leaf true) n = n := rfl
theorem plain_with_none {a : Tr Bool} (h : a ≠ .leaf false) : same a (.leaf false) = false ∧ same (.leaf false) a = false := by
  cases a using Tr.cs with
  | leaf x => cases x
              · exact absurd rfl h
              · exact ⟨rfl, rfl⟩
  | pair l r => exact ⟨rfl, rfl⟩
theorem ne_none {a : Tr Bool} {n : Nat} (h : 0 < shareP a n) : a ≠ .leaf false := by rintro rfl; rw [share_false] at h; omega

theorem cut_into (t : Tr Bool) : ∀ h, deepT t ≤ h → plainT t → 2 ≤ shareP t (2 ^ h) → CutInto h t (cutP t).1 (cutP t).2 := by
  induction t using Tr.ind with
  | leaf a =>
    intro h _ _ hs
    cases a
    · rw [share_false] at hs; omega
    · rw [share_true] at hs
      cases h with
      | zero => omega
      | succ h =>
        have h1 : 1 ≤ 2 ^ h := Nat.one_le_two_pow
        have d : ∀ x y : Bool, deepT (Tr.pair (Tr.leaf x) (Tr.leaf y)) = 1 := fun _ _ => rfl
        refine ⟨⟨rfl, trivial, trivial⟩, ⟨rfl, trivial, trivial⟩, ?_, ?_, ?_, ?_, ?_, ?_⟩
        · show deepT (Tr.pair (Tr.leaf true) (Tr.leaf false)) ≤ _; rw [d]; omega
        · show deepT (Tr.pair (Tr.leaf false) (Tr.leaf true)) ≤ _; rw [d]; omega
        · show shareP (Tr.pair (Tr.leaf true) (Tr.leaf false)) _ + shareP (Tr.pair (Tr.leaf false) (Tr.leaf true)) _ = _
          rw [share_pair, share_pair, share_true, share_true, share_false, Nat.pow_succ]; omega
        · show 0 < shareP (Tr.pair (Tr.leaf true) (Tr.leaf false)) _
          rw [share_pair, share_true, share_false]; omega
        · show 0 < shareP (Tr.pair (Tr.leaf false) (Tr.leaf true)) _
          rw [share_pair, share_true, share_false]; omega
        · intro p
          show ((Tr.pair (Tr.leaf true) (Tr.leaf false)).val p = true ∧ (Tr.pair (Tr.leaf false) (Tr.leaf true)).val p = false ∧ _) ∨ ((Tr.pair (Tr.leaf true) (Tr.leaf false)).val p = false ∧ (Tr.pair (Tr.leaf false) (Tr.leaf true)).val p = true ∧ _) ∨ _
          rw [val_pair, val_pair]
          by_cases h0 : p 0 = true
          · simp [h0, val_leaf]
          · simp [h0, val_leaf]
  | pair l r ihl ihr =>
    intro h hd hp hs
    have hd : max (deepT l) (deepT r) + 1 ≤ h := hd
    cases h with
    | zero => omega
    | succ h =>
      rw [share_pair] at hs
      by_cases nl : isNoneP l = true
      · have e : cutP (.pair l r) = (.pair (.leaf false) (cutP r).1, .pair (.leaf false) (cutP r).2) := by show (if isNoneP l = true then _ else _) = _; rw [if_pos nl]
        rw [e]
        have el := (isNone_iff l).1 nl
        rw [el, share_false] at hs
        have C := ihr h (by omega) hp.2.2 (by omega)
        rw [el]
        generalize (cutP r).1 = a at *
        generalize (cutP r).2 = b at *
        refine ⟨⟨(plain_with_none (ne_none C.a0)).2, trivial, C.pa⟩, ⟨(plain_with_none (ne_none C.b0)).2, trivial, C.pb⟩, ?_, ?_, ?_, ?_, ?_, ?_⟩
        · show max 0 (deepT a) + 1 ≤ _; have := C.da; omega
        · show max 0 (deepT b) + 1 ≤ _; have := C.db; omega
        · rw [share_pair, share_pair, share_pair, share_false]; have := C.sum; omega
        · rw [share_pair, share_false]; have := C.a0; omega
        · rw [share_pair, share_false]; have := C.b0; omega
        · intro p
          rw [val_pair, val_pair, val_pair]
          by_cases h0 : p 0 = true
          · simp only [h0, if_true]; exact C.val _
          · simp only [h0, val_leaf]; exact Or.inr (Or.inr ⟨rfl, rfl, rfl⟩)
      · by_cases nr : isNoneP r = true
        · have e : cutP (.pair l r) = (.pair (cutP l).1 (.leaf false), .pair (cutP l).2 (.leaf false)) := by show (if isNoneP l = true then _ else _) = _; rw [if_neg nl, if_pos nr]
          rw [e]
          have er := (isNone_iff r).1 nr
          rw [er, share_false] at hs
          have C := ihl h (by omega) hp.2.1 (by omega)
          rw [er]
          generalize (cutP l).1 = a at *
          generalize (cutP l).2 = b at *
          refine ⟨⟨(plain_with_none (ne_none C.a0)).1, C.pa, trivial⟩, ⟨(plain_with_none (ne_none C.b0)).1, C.pb, trivial⟩, ?_, ?_, ?_, ?_, ?_, ?_⟩
          · show max (deepT a) 0 + 1 ≤ _; have := C.da; omega
          · show max (deepT b) 0 + 1 ≤ _; have := C.db; omega
          · rw [share_pair, share_pair, share_pair, share_false]; have := C.sum; omega
          · rw [share_pair, share_false]; have := C.a0; omega
          · rw [share_pair, share_false]; have := C.b0; omega
          · intro p
            rw [val_pair, val_pair, val_pair]
            by_cases h0 : p 0 = true
            · simp only [h0, if_true, val_leaf]; exact Or.inr (Or.inr ⟨trivial, trivial, trivial⟩)
            · simp only [h0]; exact C.val _
        · have e : cutP (.pair l r) = (.pair l (.leaf false), .pair (.leaf false) r) := by show (if isNoneP l = true then _ else _) = _; rw [if_neg nl, if_neg nr]
          rw [e]
          have nl' : l ≠ .leaf false := fun e => nl ((isNone_iff l).2 e)
          have nr' : r ≠ .leaf false := fun e => nr ((isNone_iff r).2 e)
          have sl : shareP l (2 ^ h) ≠ 0 := fun e => nl' ((share_zero l h (by omega) hp.2.1).1 e)
          have sr : shareP r (2 ^ h) ≠ 0 := fun e => nr' ((share_zero r h (by omega) hp.2.2).1 e)
          refine ⟨⟨(plain_with_none nl').1, hp.2.1, trivial⟩, ⟨(plain_with_none nr').2, trivial, hp.2.2⟩, ?_, ?_, ?_, ?_, ?_, ?_⟩
          · show max (deepT l) 0 + 1 ≤ _; omega
          · show max 0 (deepT r) + 1 ≤ _; omega
          · rw [share_pair, share_pair, share_pair, share_false]; omega
          · rw [share_pair, share_false]; omega
          · rw [share_pair, share_false]; omega
          · intro p
            rw [val_pair, val_pair, val_pair]
            by_cases h0 : p 0 = true
            · simp only [h0, if_true, val_leaf]; cases r.val (fun k => p (k + 1)) <;> simp
            · simp only [h0, val_leaf]; cases l.val (fun k => p (k + 1)) <;> simp

end Go.Proofs.YtoebmfhgaalcdaaGreatDoor
