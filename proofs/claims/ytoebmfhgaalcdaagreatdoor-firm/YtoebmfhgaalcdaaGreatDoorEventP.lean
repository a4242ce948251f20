/-
  Our own. Counting on, as plain functions: filling up, growing, and what is so of what comes.
-/
import Derived.Test.YtoebmfhgaalcdaaGreatDoorSide
namespace Go.Proofs.YtoebmfhgaalcdaaGreatDoor

def lowest : Tr Nat → Nat
  | ⟨.inl a⟩ => a
  | ⟨.inr (l, r)⟩ => min (lowest l) (lowest r)

theorem lowest_le (t : Tr Nat) : ∀ p, lowest t ≤ t.val p := by
  induction t using Tr.ind with
  | leaf a => intro p; exact Nat.le_refl _
  | pair l r ihl ihr =>
    intro p
    rw [val_pair]
    show min (lowest l) (lowest r) ≤ _
    split
    · exact Nat.le_trans (Nat.min_le_right _ _) (ihr _)
    · exact Nat.le_trans (Nat.min_le_left _ _) (ihl _)
theorem le_highest (t : Tr Nat) : ∀ p, t.val p ≤ highest t := by
  induction t using Tr.ind with
  | leaf a => intro p; exact Nat.le_refl _
  | pair l r ihl ihr =>
    intro p
    rw [val_pair]
    show _ ≤ max (highest l) (highest r)
    split
    · exact Nat.le_trans (ihr _) (Nat.le_max_right _ _)
    · exact Nat.le_trans (ihl _) (Nat.le_max_left _ _)
theorem highest_at (t : Tr Nat) : ∃ p, t.val p = highest t := by
  induction t using Tr.ind with
  | leaf a => exact ⟨fun _ => false, rfl⟩
  | pair l r ihl ihr =>
    obtain ⟨p, hp⟩ := ihl
    obtain ⟨q, hq⟩ := ihr
    by_cases h : highest l ≤ highest r
    · refine ⟨road true q, ?_⟩
      rw [val_right, hq]; show _ = max _ _; omega
    · refine ⟨road false p, ?_⟩
      rw [val_left, hp]; show _ = max _ _; omega
theorem highest_le (t : Tr Nat) (n : Nat) (h : ∀ p, t.val p ≤ n) : highest t ≤ n := by
  obtain ⟨p, hp⟩ := highest_at t
  rw [← hp]; exact h p
theorem low_high (t : Tr Nat) : lowest t ≤ highest t := Nat.le_trans (lowest_le t (fun _ => false)) (le_highest t _)

/-- The box's own number: 0 in a pair. -/
def topV : Tr Nat → Nat
  | ⟨.inl a⟩ => a
  | ⟨.inr _⟩ => 0
theorem topV_of (a : Tr Nat) (n : Nat) (h : a = .leaf n) : topV a = n := by rw [h]; rfl

def fillLeaf (own : Bool) (n : Nat) : Bool × Tr Nat := (own, .leaf n)
def fillL (l r : Bool × Tr Nat) : Tr Nat := if l.1 = true then .leaf (max (topV l.2) (lowest r.2)) else l.2
def fillHalves (l r : Bool × Tr Nat) : Bool × Tr Nat :=
  if (l.1 && r.1) = true then (true, .leaf (max (topV l.2) (topV r.2)))
  else (false, merge (fillL l r) (if r.1 = true then .leaf (max (topV r.2) (lowest (fillL l r))) else r.2))
def fillP (id : Tr Bool) (ev : Tr Nat) : Bool × Tr Nat := side fillLeaf fillHalves id ev

/-- What is so of a row that is filled up. -/
structure Filled (id : Tr Bool) (ev : Tr Nat) (f : Bool × Tr Nat) : Prop where
  own : f.1 = true → ∀ p, id.val p = true
  leaf : f.1 = true → ∃ n, f.2 = .leaf n
  plain : plainT f.2
  deep : ∀ h, deepT id ≤ h → deepT ev ≤ h → deepT f.2 ≤ h
  more : ∀ p, ev.val p ≤ f.2.val p
  rest : ∀ p, id.val p = false → f.2.val p = ev.val p
  high : ∀ p, f.2.val p ≤ highest ev
  pairs : pairsT f.2 ≤ pairsT ev

theorem high_halfL (t : Tr Nat) : highest (halfL t) ≤ highest t := by
  cases t using Tr.cs with
  | leaf a => exact Nat.le_refl _
  | pair l r => exact Nat.le_max_left _ _
theorem high_halfR (t : Tr Nat) : highest (halfR t) ≤ highest t := by
  cases t using Tr.cs with
  | leaf a => exact Nat.le_refl _
  | pair l r => exact Nat.le_max_right _ _

theorem const_pairs {ev f : Tr Nat} (hf : plainT f) (n : Nat) (e : ev = .leaf n) (h1 : ∀ p, ev.val p ≤ f.val p) (h2 : ∀ p, f.val p ≤ highest ev) : f = .leaf n := by
  subst e
  exact leaf_of_val n hf (fun p => Nat.le_antisymm (h2 p) (h1 p))

/-- Two halves, each at least as great as they were. -/
theorem halves_more {ev a b : Tr Nat} (h1 : ∀ p, (halfL ev).val p ≤ a.val p) (h2 : ∀ p, (halfR ev).val p ≤ b.val p) (p : Nat → Bool) : ev.val p ≤ (merge a b).val p := by
  rw [val_merge, val_half ev]
  split
  · exact h2 _
  · exact h1 _

theorem filled (id : Tr Bool) (ev : Tr Nat) : Filled id ev (fillP id ev) := by
  induction id, ev using side_ind with
  | leaves a b =>
    refine ⟨fun h _ => h, fun _ => ⟨b, rfl⟩, trivial, fun h _ _ => Nat.zero_le _, fun p => Nat.le_refl _, fun _ _ => rfl, fun _ => Nat.le_refl _, Nat.le_refl _⟩
  | halves id ev h L R =>
    have e : fillP id ev = fillHalves (fillP (halfL id) (halfL ev)) (fillP (halfR id) (halfR ev)) := side_halves _ _ id ev h
    generalize fillP (halfL id) (halfL ev) = l at *
    generalize fillP (halfR id) (halfR ev) = r at *
    generalize fillP id ev = f at *
    have hiL := high_halfL ev
    have hiR := high_halfR ev
    by_cases hb : (l.1 && r.1) = true
    · rw [fillHalves, if_pos hb] at e
      rw [Bool.and_eq_true] at hb
      obtain ⟨n, en⟩ := L.leaf hb.1
      obtain ⟨m, em⟩ := R.leaf hb.2
      have hn : n ≤ highest ev := by have := L.high (fun _ => false); rw [en, val_leaf] at this; omega
      have hm : m ≤ highest ev := by have := R.high (fun _ => false); rw [em, val_leaf] at this; omega
      rw [topV_of _ n en, topV_of _ m em] at e
      have own : ∀ p, id.val p = true := by
        intro p; rw [val_half]; split
        · exact R.own hb.2 _
        · exact L.own hb.1 _
      subst e
      refine ⟨fun _ => own, fun _ => ⟨_, rfl⟩, trivial, fun _ _ _ => Nat.zero_le _, fun p => ?_, fun p hp => ?_, fun p => ?_, Nat.zero_le _⟩
      · show _ ≤ max n m
        rw [val_half ev]
        have q1 := L.more (fun k => p (k + 1))
        have q2 := R.more (fun k => p (k + 1))
        rw [en, val_leaf] at q1
        rw [em, val_leaf] at q2
        split <;> omega
      · rw [own p] at hp; cases hp
      · show max n m ≤ _; omega
    · rw [fillHalves, if_neg hb] at e
      -- the two halves, raised
      have A : ∃ a b, f = (false, merge a b) ∧ (∀ p, (halfL ev).val p ≤ a.val p) ∧ (∀ p, (halfR ev).val p ≤ b.val p) ∧ plainT a ∧ plainT b ∧ deepT a ≤ deepT l.2 ∧ deepT b ≤ deepT r.2 ∧
          (∀ p, (halfL id).val p = false → a.val p = (halfL ev).val p) ∧ (∀ p, (halfR id).val p = false → b.val p = (halfR ev).val p) ∧ (∀ p, a.val p ≤ highest ev) ∧ (∀ p, b.val p ≤ highest ev) ∧ pairsT a ≤ pairsT l.2 ∧ pairsT b ≤ pairsT r.2 := by
        by_cases hl : l.1 = true
        · have hr : ¬ r.1 = true := fun hr => hb (by rw [hl, hr]; rfl)
          obtain ⟨n, en⟩ := L.leaf hl
          have hn : n ≤ highest ev := by have := L.high (fun _ => false); rw [en, val_leaf] at this; omega
          have hlow : lowest r.2 ≤ highest ev := Nat.le_trans (lowest_le r.2 (fun _ => false)) (Nat.le_trans (R.high _) hiR)
          refine ⟨.leaf (max n (lowest r.2)), r.2, ?_, ?_, R.more, trivial, R.plain, Nat.zero_le _, Nat.le_refl _, ?_, R.rest, ?_, fun p => Nat.le_trans (R.high p) hiR, Nat.zero_le _, Nat.le_refl _⟩
          · rw [e, if_neg hr, fillL, if_pos hl, topV_of _ n en]
          · intro p; have := L.more p; rw [en, val_leaf] at this; rw [val_leaf]; omega
          · intro p hp; rw [L.own hl p] at hp; cases hp
          · intro p; rw [val_leaf]; omega
        · by_cases hr : r.1 = true
          · obtain ⟨n, en⟩ := R.leaf hr
            have hn : n ≤ highest ev := by have := R.high (fun _ => false); rw [en, val_leaf] at this; omega
            have hlow : lowest l.2 ≤ highest ev := Nat.le_trans (lowest_le l.2 (fun _ => false)) (Nat.le_trans (L.high _) hiL)
            refine ⟨l.2, .leaf (max n (lowest l.2)), ?_, L.more, ?_, L.plain, trivial, Nat.le_refl _, Nat.zero_le _, L.rest, ?_, fun p => Nat.le_trans (L.high p) hiL, ?_, Nat.le_refl _, Nat.zero_le _⟩
            · rw [e, if_pos hr, fillL, if_neg hl, topV_of _ n en]
            · intro p; have := R.more p; rw [en, val_leaf] at this; rw [val_leaf]; omega
            · intro p hp; rw [R.own hr p] at hp; cases hp
            · intro p; rw [val_leaf]; omega
          · refine ⟨l.2, r.2, ?_, L.more, R.more, L.plain, R.plain, Nat.le_refl _, Nat.le_refl _, L.rest, R.rest, fun p => Nat.le_trans (L.high p) hiL, fun p => Nat.le_trans (R.high p) hiR, Nat.le_refl _, Nat.le_refl _⟩
            rw [e, if_neg hr, fillL, if_neg hl]
      clear e
      obtain ⟨a, b, rfl, m1, m2, p1, p2, d1, d2, r1, r2, t1, t2, q1, q2⟩ := A
      have HM := halves_more m1 m2
      have HP : plainT (merge a b) := plain_merge p1 p2
      have HH : ∀ p, (merge a b).val p ≤ highest ev := by
        intro p; rw [val_merge]; split
        · exact t2 _
        · exact t1 _
      refine ⟨fun h => (Bool.false_ne_true h).elim, fun h => (Bool.false_ne_true h).elim, HP, ?_, HM, ?_, HH, ?_⟩
      · intro k h1 h2
        obtain ⟨k, rfl⟩ := deep_two h h1 h2
        have := L.deep k (deep_halfL id k h1) (deep_halfL ev k h2)
        have := R.deep k (deep_halfR id k h1) (deep_halfR ev k h2)
        have := deep_merge a b
        show deepT (merge a b) ≤ k + 1
        omega
      · intro p hp
        show (merge a b).val p = _
        rw [val_half] at hp
        rw [val_merge, val_half ev]
        by_cases h0 : p 0 = true
        · rw [if_pos h0] at hp ⊢; rw [if_pos h0]; exact r2 _ hp
        · rw [if_neg h0] at hp ⊢; rw [if_neg h0]; exact r1 _ hp
      · show pairsT (merge a b) ≤ _
        cases ev using Tr.cs with
        | leaf n => rw [const_pairs HP n rfl HM HH]; exact Nat.le_refl _
        | pair x y =>
          have := pairs_merge a b
          have := L.pairs
          have := R.pairs
          simp only [halfL, halfR] at *
          show _ ≤ 1 + pairsT x + pairsT y
          omega

def shorterP : Option (Tr Nat) → Option (Tr Nat) → Option (Tr Nat)
  | none, b => b
  | some a, none => some a
  | some a, some b => if pairsT b < pairsT a then some b else some a
def mergeAnyP : Option (Tr Nat) → Option (Tr Nat) → Option (Tr Nat)
  | some a, some b => some (merge a b)
  | _, _ => none
def growLeaf (own : Bool) (n : Nat) : Tr Nat × Option (Tr Nat) := (.leaf n, if (own && decide (n < 1099511627776)) = true then some (.leaf (n + 1)) else none)
def growHalves (l r : Tr Nat × Option (Tr Nat)) : Tr Nat × Option (Tr Nat) := (merge l.1 r.1, shorterP (mergeAnyP l.2 (some r.1)) (mergeAnyP (some l.1) r.2))
def growP (id : Tr Bool) (ev : Tr Nat) : Tr Nat × Option (Tr Nat) := side growLeaf growHalves id ev

/-- What is so of a row that has grown. -/
structure Grown (id : Tr Bool) (ev t : Tr Nat) : Prop where
  plain : plainT t
  deep : ∀ h, deepT id ≤ h → deepT ev ≤ h → deepT t ≤ h
  more : ∀ p, ev.val p ≤ t.val p
  one : ∀ p, t.val p ≤ ev.val p + 1
  cap : ∀ p, ev.val p ≤ 1099511627776 → t.val p ≤ 1099511627776
  rest : ∀ p, id.val p = false → t.val p = ev.val p
  some : ∃ p, id.val p = true ∧ ev.val p < t.val p

theorem shorter_or (a b : Option (Tr Nat)) : shorterP a b = a ∨ shorterP a b = b := by
  cases a with
  | none => exact Or.inr rfl
  | some a =>
    cases b with
    | none => exact Or.inl rfl
    | some b =>
      unfold shorterP
      by_cases h : pairsT b < pairsT a
      · simp only [h, if_true]; exact Or.inr trivial
      · simp only [h, if_false]; exact Or.inl trivial
theorem shorter_none (a b : Option (Tr Nat)) : shorterP a b = none ↔ a = none ∧ b = none := by
  cases a with
  | none => simp [shorterP]
  | some a =>
    cases b with
    | none => simp [shorterP]
    | some b =>
      unfold shorterP
      by_cases h : pairsT b < pairsT a
      · simp [h]
      · simp [h]

theorem grown_old (id : Tr Bool) (ev : Tr Nat) : plainT ev → (growP id ev).1 = ev := by
  induction id, ev using side_ind with
  | leaves a b => intro _; rfl
  | halves id ev h L R =>
    intro hp
    have e : growP id ev = growHalves (growP (halfL id) (halfL ev)) (growP (halfR id) (halfR ev)) := side_halves _ _ id ev h
    rw [e]
    show merge _ _ = ev
    rw [L (plain_halfL ev hp), R (plain_halfR ev hp), merge_halves ev hp]

theorem merge_left {id : Tr Bool} {ev t : Tr Nat} (hp : plainT ev) (hl : (isLeaf id && isLeaf ev) = false) (G : Grown (halfL id) (halfL ev) t) : Grown id ev (merge t (halfR ev)) := by
  refine ⟨plain_merge G.plain (plain_halfR ev hp), ?_, ?_, ?_, ?_, ?_, ?_⟩
  · intro h h1 h2
    obtain ⟨k, rfl⟩ := deep_two hl h1 h2
    have := G.deep k (deep_halfL id k h1) (deep_halfL ev k h2)
    have := deep_halfR ev k h2
    have := deep_merge t (halfR ev)
    omega
  · exact halves_more G.more (fun _ => Nat.le_refl _)
  · intro p; rw [val_merge, val_half ev]; split
    · omega
    · exact G.one _
  · intro p; rw [val_merge, val_half ev]; split
    · exact fun h => h
    · exact G.cap _
  · intro p hq; rw [val_half id] at hq; rw [val_merge, val_half ev]
    by_cases h0 : p 0 = true
    · rw [if_pos h0, if_pos h0]
    · rw [if_neg h0] at hq ⊢; rw [if_neg h0]; exact G.rest _ hq
  · obtain ⟨p, h1, h2⟩ := G.some
    refine ⟨road false p, ?_, ?_⟩
    · rw [← val_halfL]; exact h1
    · rw [← val_halfL, val_merge]; exact h2
theorem merge_right {id : Tr Bool} {ev t : Tr Nat} (hp : plainT ev) (hl : (isLeaf id && isLeaf ev) = false) (G : Grown (halfR id) (halfR ev) t) : Grown id ev (merge (halfL ev) t) := by
  refine ⟨plain_merge (plain_halfL ev hp) G.plain, ?_, ?_, ?_, ?_, ?_, ?_⟩
  · intro h h1 h2
    obtain ⟨k, rfl⟩ := deep_two hl h1 h2
    have := G.deep k (deep_halfR id k h1) (deep_halfR ev k h2)
    have := deep_halfL ev k h2
    have := deep_merge (halfL ev) t
    omega
  · exact halves_more (fun _ => Nat.le_refl _) G.more
  · intro p; rw [val_merge, val_half ev]; split
    · exact G.one _
    · omega
  · intro p; rw [val_merge, val_half ev]; split
    · exact G.cap _
    · exact fun h => h
  · intro p hq; rw [val_half id] at hq; rw [val_merge, val_half ev]
    by_cases h0 : p 0 = true
    · rw [if_pos h0] at hq ⊢; rw [if_pos h0]; exact G.rest _ hq
    · rw [if_neg h0, if_neg h0]
  · obtain ⟨p, h1, h2⟩ := G.some
    refine ⟨road true p, ?_, ?_⟩
    · rw [← val_halfR]; exact h1
    · rw [← val_halfR, val_merge]; exact h2

/-- The two ways to grow a row. -/
theorem grow_two (id : Tr Bool) (ev : Tr Nat) (hp : plainT ev) (h : (isLeaf id && isLeaf ev) = false) :
    (growP id ev).2 = shorterP ((growP (halfL id) (halfL ev)).2.map (fun t => merge t (halfR ev))) ((growP (halfR id) (halfR ev)).2.map (fun t => merge (halfL ev) t)) := by
  have e : growP id ev = growHalves (growP (halfL id) (halfL ev)) (growP (halfR id) (halfR ev)) := side_halves _ _ id ev h
  rw [e]
  show shorterP (mergeAnyP (growP (halfL id) (halfL ev)).2 (some (growP (halfR id) (halfR ev)).1)) (mergeAnyP (some (growP (halfL id) (halfL ev)).1) (growP (halfR id) (halfR ev)).2) = _
  rw [grown_old _ _ (plain_halfL ev hp), grown_old _ _ (plain_halfR ev hp)]
  cases (growP (halfL id) (halfL ev)).2 <;> cases (growP (halfR id) (halfR ev)).2 <;> rfl

theorem grown (id : Tr Bool) (ev : Tr Nat) : plainT ev → ∀ t, (growP id ev).2 = some t → Grown id ev t := by
  induction id, ev using side_ind with
  | leaves a b =>
    intro _ t ht
    have ht : (if (a && decide (b < 1099511627776)) = true then some (Tr.leaf (b + 1)) else none) = some t := ht
    by_cases hc : (a && decide (b < 1099511627776)) = true
    · rw [if_pos hc] at ht
      injection ht with ht; subst ht
      simp only [Bool.and_eq_true, decide_eq_true_eq] at hc
      refine ⟨trivial, fun _ _ _ => Nat.zero_le _, fun _ => Nat.le_succ _, fun _ => Nat.le_refl _, fun _ _ => hc.2, fun p hq => ?_, ⟨fun _ => false, hc.1, Nat.lt_succ_self _⟩⟩
      rw [val_leaf, hc.1] at hq; cases hq
    · rw [if_neg hc] at ht; cases ht
  | halves id ev h L R =>
    intro hp t ht
    rw [grow_two id ev hp h] at ht
    rcases shorter_or ((growP (halfL id) (halfL ev)).2.map (fun t => merge t (halfR ev))) ((growP (halfR id) (halfR ev)).2.map (fun t => merge (halfL ev) t)) with e | e
    · rw [e, Option.map_eq_some_iff] at ht
      obtain ⟨u, hu, rfl⟩ := ht
      exact merge_left hp h (L (plain_halfL ev hp) u hu)
    · rw [e, Option.map_eq_some_iff] at ht
      obtain ⟨u, hu, rfl⟩ := ht
      exact merge_right hp h (R (plain_halfR ev hp) u hu)

theorem grow_none (id : Tr Bool) (ev : Tr Nat) : plainT ev → ((growP id ev).2 = none ↔ ∀ p, id.val p = true → 1099511627776 ≤ ev.val p) := by
  induction id, ev using side_ind with
  | leaves a b =>
    intro _
    show (if (a && decide (b < 1099511627776)) = true then some (Tr.leaf (b + 1)) else none) = none ↔ _
    by_cases hc : (a && decide (b < 1099511627776)) = true
    · rw [if_pos hc]
      simp only [Bool.and_eq_true, decide_eq_true_eq] at hc
      refine ⟨(fun h => nomatch h), fun h => ?_⟩
      have := h (fun _ => false) hc.1
      rw [val_leaf] at this; omega
    · rw [if_neg hc]
      refine ⟨fun _ p ha => ?_, fun _ => rfl⟩
      rw [val_leaf] at ha ⊢
      rw [ha] at hc
      simp only [Bool.true_and, decide_eq_true_eq] at hc
      omega
  | halves id ev h L R =>
    intro hp
    rw [grow_two id ev hp h, shorter_none, Option.map_eq_none_iff, Option.map_eq_none_iff, L (plain_halfL ev hp), R (plain_halfR ev hp)]
    constructor
    · rintro ⟨h1, h2⟩ p hi
      rw [val_half] at hi
      rw [val_half ev]
      by_cases h0 : p 0 = true
      · rw [if_pos h0] at hi ⊢; exact h2 _ hi
      · rw [if_neg h0] at hi ⊢; exact h1 _ hi
    · intro h1
      exact ⟨fun p hi => by rw [val_halfL] at hi ⊢; exact h1 _ hi, fun p hi => by rw [val_halfR] at hi ⊢; exact h1 _ hi⟩

theorem shorter_left {a b : Option (Tr Nat)} {t u : Tr Nat} (h : shorterP a b = some t) (hu : a = some u) : pairsT t ≤ pairsT u := by
  subst hu
  cases b with
  | none => injection h with h; subst h; exact Nat.le_refl _
  | some b =>
    unfold shorterP at h
    by_cases g : pairsT b < pairsT u
    · simp only [g, if_true] at h; injection h with h; subst h; omega
    · simp only [g, if_false] at h; injection h with h; subst h; exact Nat.le_refl _
theorem shorter_right {a b : Option (Tr Nat)} {t u : Tr Nat} (h : shorterP a b = some t) (hu : b = some u) : pairsT t ≤ pairsT u := by
  subst hu
  cases a with
  | none => injection h with h; subst h; exact Nat.le_refl _
  | some a =>
    unfold shorterP at h
    by_cases g : pairsT u < pairsT a
    · simp only [g, if_true] at h; injection h with h; subst h; exact Nat.le_refl _
    · simp only [g, if_false] at h; injection h with h; subst h; omega

/-- Filling raises no half where it raises nothing. -/
theorem fill_still (id : Tr Bool) (ev : Tr Nat) (h : (isLeaf id && isLeaf ev) = false) (he : ∀ p, (fillP id ev).2.val p ≤ ev.val p) :
    (∀ p, (fillP (halfL id) (halfL ev)).2.val p ≤ (halfL ev).val p) ∧ (∀ p, (fillP (halfR id) (halfR ev)).2.val p ≤ (halfR ev).val p) := by
  have e : fillP id ev = fillHalves (fillP (halfL id) (halfL ev)) (fillP (halfR id) (halfR ev)) := side_halves _ _ id ev h
  have FL := filled (halfL id) (halfL ev)
  have FR := filled (halfR id) (halfR ev)
  generalize fillP (halfL id) (halfL ev) = l at *
  generalize fillP (halfR id) (halfR ev) = r at *
  by_cases hb : (l.1 && r.1) = true
  · rw [fillHalves, if_pos hb] at e
    rw [e] at he
    rw [Bool.and_eq_true] at hb
    obtain ⟨n, en⟩ := FL.leaf hb.1
    obtain ⟨m, em⟩ := FR.leaf hb.2
    rw [topV_of _ n en, topV_of _ m em] at he
    refine ⟨fun p => ?_, fun p => ?_⟩
    · have q : max n m ≤ ev.val (road false p) := he (road false p)
      rw [← val_halfL ev] at q; rw [en, val_leaf]; omega
    · have q : max n m ≤ ev.val (road true p) := he (road true p)
      rw [← val_halfR ev] at q; rw [em, val_leaf]; omega
  · rw [fillHalves, if_neg hb] at e
    rw [e] at he
    have h1 : ∀ p, l.2.val p ≤ (fillL l r).val p := by
      intro p
      unfold fillL
      by_cases hl : l.1 = true
      · obtain ⟨n, en⟩ := FL.leaf hl
        rw [if_pos hl, topV_of _ n en, en, val_leaf, val_leaf]; omega
      · rw [if_neg hl]; exact Nat.le_refl _
    have h2 : ∀ p, r.2.val p ≤ (if r.1 = true then Tr.leaf (max (topV r.2) (lowest (fillL l r))) else r.2).val p := by
      intro p
      by_cases hr : r.1 = true
      · obtain ⟨n, en⟩ := FR.leaf hr
        rw [if_pos hr, topV_of _ n en, en, val_leaf, val_leaf]; omega
      · rw [if_neg hr]; exact Nat.le_refl _
    refine ⟨fun p => ?_, fun p => ?_⟩
    · have := he (road false p)
      rw [← val_halfL ev, val_merge] at this
      exact Nat.le_trans (h1 p) this
    · have := he (road true p)
      rw [← val_halfR ev, val_merge] at this
      exact Nat.le_trans (h2 p) this

theorem pairs_halves {α : Type} (t : Tr α) (h : isLeaf t = false) : pairsT t = 1 + pairsT (halfL t) + pairsT (halfR t) := by
  cases t using Tr.cs with
  | leaf a => cases h
  | pair l r => rfl
theorem deep_halves {α : Type} (t : Tr α) (h : isLeaf t = false) : deepT t = max (deepT (halfL t)) (deepT (halfR t)) + 1 := by
  cases t using Tr.cs with
  | leaf a => cases h
  | pair l r => rfl
theorem leaf_half {α : Type} (t : Tr α) (h : isLeaf t = true) : pairsT t = 0 ∧ pairsT (halfL t) = 0 ∧ pairsT (halfR t) = 0 ∧ deepT (halfL t) = 0 ∧ deepT (halfR t) = 0 ∧ deepT t = 0 := by
  cases t using Tr.cs with
  | leaf a => exact ⟨rfl, rfl, rfl, rfl, rfl, rfl⟩
  | pair l r => cases h

/-- Where nothing can be filled up, growing costs no more brackets than the piece has in one another. -/
theorem grown_pairs (id : Tr Bool) (ev : Tr Nat) : plainT ev → (∀ p, (fillP id ev).2.val p ≤ ev.val p) → ∀ t, (growP id ev).2 = some t → pairsT t ≤ pairsT ev + deepT id := by
  induction id, ev using side_ind with
  | leaves a b =>
    intro _ _ t ht
    have ht : (if (a && decide (b < 1099511627776)) = true then some (Tr.leaf (b + 1)) else none) = some t := ht
    by_cases hc : (a && decide (b < 1099511627776)) = true
    · rw [if_pos hc] at ht; injection ht with ht; subst ht; exact Nat.zero_le _
    · rw [if_neg hc] at ht; cases ht
  | halves id ev h L R =>
    intro hp he t ht
    obtain ⟨e1, e2⟩ := fill_still id ev h he
    have hg := ht
    rw [grow_two id ev hp h] at ht
    have gl : ∀ u, (growP (halfL id) (halfL ev)).2 = some u → pairsT t ≤ 1 + (pairsT (halfL ev) + deepT (halfL id)) + pairsT (halfR ev) := by
      intro u hu
      have q1 := L (plain_halfL ev hp) e1 u hu
      have q2 : pairsT t ≤ pairsT (merge u (halfR ev)) := shorter_left ht (by rw [hu]; rfl)
      have q3 := pairs_merge u (halfR ev)
      omega
    have gr : ∀ u, (growP (halfR id) (halfR ev)).2 = some u → pairsT t ≤ 1 + pairsT (halfL ev) + (pairsT (halfR ev) + deepT (halfR id)) := by
      intro u hu
      have q1 := R (plain_halfR ev hp) e2 u hu
      have q2 : pairsT t ≤ pairsT (merge (halfL ev) u) := shorter_right ht (by rw [hu]; rfl)
      have q3 := pairs_merge (halfL ev) u
      omega
    by_cases hi : isLeaf id = true
    · -- an own row that is a leaf, beside brackets: filling would have raised it
      exfalso
      have hv : isLeaf ev = false := by rw [hi] at h; simpa using h
      have F := filled id ev
      have hs := grown id ev hp t hg
      obtain ⟨p, h1, _⟩ := hs.some
      have hown : ∃ a, id = .leaf a := by
        cases id using Tr.cs with
        | leaf a => exact ⟨a, rfl⟩
        | pair _ _ => cases hi
      obtain ⟨a, rfl⟩ := hown
      rw [val_leaf] at h1
      subst h1
      have fo : ∀ t : Tr Nat, (fillP (.leaf true) t).1 = true := by
        intro t
        induction t using Tr.ind with
        | leaf b => rfl
        | pair l r ihl ihr =>
          show (fillHalves (fillP (.leaf true) l) (fillP (.leaf true) r)).1 = true
          rw [fillHalves, if_pos (by rw [ihl, ihr]; rfl)]
      obtain ⟨n, en⟩ := F.leaf (fo ev)
      have ev' : ev = .leaf n := by
        refine leaf_of_val n hp (fun p => ?_)
        have q1 := F.more p
        have q2 := he p
        rw [en, val_leaf] at q1 q2
        omega
      rw [ev'] at hv; cases hv
    · have hi : isLeaf id = false := by simpa using hi
      have di := deep_halves id hi
      have pe : pairsT ev = 0 ∧ pairsT (halfL ev) = 0 ∧ pairsT (halfR ev) = 0 ∨ pairsT ev = 1 + pairsT (halfL ev) + pairsT (halfR ev) := by
        cases hv : isLeaf ev with
        | true => have := leaf_half ev hv; exact Or.inl ⟨this.1, this.2.1, this.2.2.1⟩
        | false => exact Or.inr (pairs_halves ev hv)
      cases gL : (growP (halfL id) (halfL ev)).2 with
      | some u => have := gl u gL; omega
      | none =>
        cases gR : (growP (halfR id) (halfR ev)).2 with
        | some u => have := gr u gR; omega
        | none => rw [gL, gR] at ht; cases ht

def atMostP (a b : Tr Nat) : Bool := allB (fun x y => decide (x ≤ y)) a b
theorem atMost_iff (a b : Tr Nat) : atMostP a b = true ↔ ∀ p, a.val p ≤ b.val p := by
  unfold atMostP; rw [allB_iff]; simp

/-- Event, on trees. -/
def eventP (id : Tr Bool) (ev : Tr Nat) : Option (Tr Nat) := if atMostP (fillP id ev).2 ev = true then (growP id ev).2 else some (fillP id ev).2

/-- What must be so of what comes of an event. -/
structure Evented (id : Tr Bool) (ev t : Tr Nat) : Prop where
  plain : plainT t
  deep : deepT t ≤ 8
  more : ∀ p, ev.val p ≤ t.val p
  rest : ∀ p, id.val p = false → t.val p = ev.val p
  some : ∃ p, id.val p = true ∧ ev.val p < t.val p
  high : highest t ≤ highest ev + 1
  cap : highest t ≤ 1099511627776
  pairs : pairsT t ≤ pairsT ev + deepT id

theorem event_some (id : Tr Bool) (ev t : Tr Nat) (hp : plainT ev) (d1 : deepT id ≤ 8) (d2 : deepT ev ≤ 8) (hc : highest ev ≤ 1099511627776) (h : eventP id ev = some t) : Evented id ev t := by
  unfold eventP at h
  by_cases ha : atMostP (fillP id ev).2 ev = true
  · rw [if_pos ha] at h
    have G := grown id ev hp t h
    refine ⟨G.plain, G.deep 8 d1 d2, G.more, G.rest, G.some, ?_, ?_, grown_pairs id ev hp ((atMost_iff _ _).1 ha) t h⟩
    · exact highest_le t _ (fun p => by have := G.one p; have := le_highest ev p; omega)
    · exact highest_le t _ (fun p => G.cap p (Nat.le_trans (le_highest ev p) hc))
  · rw [if_neg ha] at h
    injection h with h
    have F := filled id ev
    have F1 := F.plain
    have F2 := F.deep 8 d1 d2
    have F3 := F.more
    have F4 := F.rest
    have F5 := F.high
    have F6 := F.pairs
    clear F
    rw [h] at ha F1 F2 F3 F4 F5 F6
    have hs : ∃ p, ¬ t.val p ≤ ev.val p := Classical.byContradiction fun hn => ha ((atMost_iff _ _).2 fun p => Classical.byContradiction fun hq => hn ⟨p, hq⟩)
    obtain ⟨p, hq⟩ := hs
    have hh : highest t ≤ highest ev := highest_le t _ F5
    refine ⟨F1, F2, F3, F4, ⟨p, ?_, by omega⟩, by omega, by omega, by omega⟩
    cases hi : id.val p with
    | true => rfl
    | false => exact absurd (Nat.le_of_eq (F4 p hi)) hq
theorem event_none (id : Tr Bool) (ev : Tr Nat) (hp : plainT ev) (hc : highest ev ≤ 1099511627776) : eventP id ev = none ↔ ∀ p, id.val p = true → ev.val p = 1099511627776 := by
  have GN := grow_none id ev hp
  have hle : ∀ p, ev.val p ≤ 1099511627776 := fun p => Nat.le_trans (le_highest ev p) hc
  constructor
  · intro h
    unfold eventP at h
    by_cases ha : atMostP (fillP id ev).2 ev = true
    · rw [if_pos ha] at h
      intro p hi
      have := GN.1 h p hi
      have := hle p
      omega
    · rw [if_neg ha] at h; cases h
  · intro h
    have F := filled id ev
    have ha : atMostP (fillP id ev).2 ev = true := by
      rw [atMost_iff]
      intro p
      cases hi : id.val p with
      | true => rw [h p hi]; exact Nat.le_trans (F.high p) hc
      | false => exact Nat.le_of_eq (F.rest p hi)
    unfold eventP
    rw [if_pos ha]
    exact GN.2 (fun p hi => Nat.le_of_eq (h p hi).symm)

end Go.Proofs.YtoebmfhgaalcdaaGreatDoor
