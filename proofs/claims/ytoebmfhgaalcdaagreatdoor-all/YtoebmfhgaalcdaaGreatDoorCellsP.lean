/-
  Our own. Rows of cells against trees, as plain functions: the plain tree of a row of cells; what is counted, cut and compared cell by cell.
-/
import Derived.Test.YtoebmfhgaalcdaaGreatDoorTreesAll
import Derived.Test.YtoebmfhgaalcdaaGreatDoorRefOneAll
namespace Go.Proofs.YtoebmfhgaalcdaaGreatDoor

/-- The road to a cell, 2^h of them. -/
def roadOf : Nat → Nat → Nat → Bool
  | 0, _ => fun _ => false
  | h + 1, k => if k < 2 ^ h then road false (roadOf h k) else road true (roadOf h (k - 2 ^ h))

/-- What a tree says of a cell. -/
def cellT {α : Type} (t : Tr α) (h k : Nat) : α := t.val (roadOf h k)

section
variable {α : Type}
theorem cellT_leaf (a : α) (h k : Nat) : cellT (.leaf a) h k = a := rfl
theorem cellT_half (t : Tr α) (h k : Nat) : cellT t (h + 1) k = if k < 2 ^ h then cellT (halfL t) h k else cellT (halfR t) h (k - 2 ^ h) := by
  unfold cellT
  rw [roadOf]
  by_cases c : k < 2 ^ h
  · rw [if_pos c, if_pos c, val_halfL]
  · rw [if_neg c, if_neg c, val_halfR]
theorem cellT_left (l r : Tr α) (h k : Nat) (hk : k < 2 ^ h) : cellT (.pair l r) (h + 1) k = cellT l h k := by
  rw [cellT_half, if_pos hk]; rfl
theorem cellT_right (l r : Tr α) (h k : Nat) (hk : ¬ k < 2 ^ h) : cellT (.pair l r) (h + 1) k = cellT r h (k - 2 ^ h) := by
  rw [cellT_half, if_neg hk]; rfl
theorem leaf_of_deep {t : Tr α} (h : deepT t ≤ 0) : ∃ a, t = .leaf a := by
  cases t using Tr.cs with
  | leaf a => exact ⟨a, rfl⟩
  | pair l r => have : max (deepT l) (deepT r) + 1 ≤ 0 := h; omega
end

/-- Each road leads to a cell. -/
theorem road_cell : ∀ (h : Nat) (p : Nat → Bool), ∃ k, k < 2 ^ h ∧ ∀ {β : Type} (t : Tr β), deepT t ≤ h → t.val p = cellT t h k
  | 0, p => ⟨0, by decide, fun t hd => by obtain ⟨a, rfl⟩ := leaf_of_deep hd; rfl⟩
  | h + 1, p => by
    obtain ⟨k, hk, hv⟩ := road_cell h (fun j => p (j + 1))
    have e : 2 ^ (h + 1) = 2 ^ h + 2 ^ h := by rw [Nat.pow_succ]; omega
    by_cases c : p 0 = true
    · refine ⟨2 ^ h + k, by omega, fun t hd => ?_⟩
      rw [val_half, if_pos c, cellT_half, if_neg (by omega), show 2 ^ h + k - 2 ^ h = k by omega]
      exact hv _ (deep_halfR t h hd)
    · refine ⟨k, by omega, fun t hd => ?_⟩
      rw [val_half, if_neg c, cellT_half, if_pos hk]
      exact hv _ (deep_halfL t h hd)

theorem cellB_T (t : Tr Bool) : ∀ h k, deepT t ≤ h → k < 2 ^ h → cellB t (2 ^ h) k = cellT t h k := by
  induction t using Tr.ind with
  | leaf a => intro h k _ _; rfl
  | pair l r ihl ihr =>
    intro h k hd hk
    have hd : max (deepT l) (deepT r) + 1 ≤ h := hd
    cases h with
    | zero => omega
    | succ h =>
      show (if k < 2 ^ (h + 1) / 2 then cellB l (2 ^ (h + 1) / 2) k else cellB r (2 ^ (h + 1) / 2) (k - 2 ^ (h + 1) / 2)) = _
      rw [half_pow]
      by_cases c : k < 2 ^ h
      · rw [if_pos c, cellT_left _ _ _ _ c, ihl h k (by omega) c]
      · rw [if_neg c, cellT_right _ _ _ _ c, ihr h _ (by omega) (by rw [Nat.pow_succ] at hk; omega)]
theorem cellI_T (t : Tr Nat) : ∀ h k, deepT t ≤ h → k < 2 ^ h → cellI t (2 ^ h) k = cellT t h k := by
  induction t using Tr.ind with
  | leaf a => intro h k _ _; rfl
  | pair l r ihl ihr =>
    intro h k hd hk
    have hd : max (deepT l) (deepT r) + 1 ≤ h := hd
    cases h with
    | zero => omega
    | succ h =>
      show (if k < 2 ^ (h + 1) / 2 then cellI l (2 ^ (h + 1) / 2) k else cellI r (2 ^ (h + 1) / 2) (k - 2 ^ (h + 1) / 2)) = _
      rw [half_pow]
      by_cases c : k < 2 ^ h
      · rw [if_pos c, cellT_left _ _ _ _ c, ihl h k (by omega) c]
      · rw [if_neg c, cellT_right _ _ _ _ c, ihr h _ (by omega) (by rw [Nat.pow_succ] at hk; omega)]

section
variable {α : Type} [BEq α]
/-- The plain tree of 2^h cells from i on. -/
def ofCells (f : Nat → α) : Nat → Nat → Tr α
  | 0, i => .leaf (f i)
  | h + 1, i => merge (ofCells f h i) (ofCells f h (i + 2 ^ h))
theorem ofCells_plain (f : Nat → α) : ∀ h i, plainT (ofCells f h i)
  | 0, _ => trivial
  | h + 1, i => plain_merge (ofCells_plain f h i) (ofCells_plain f h _)
theorem ofCells_deep (f : Nat → α) : ∀ h i, deepT (ofCells f h i) ≤ h
  | 0, _ => Nat.le_refl _
  | h + 1, i => by
    have a := ofCells_deep f h i
    have b := ofCells_deep f h (i + 2 ^ h)
    have := deep_merge (ofCells f h i) (ofCells f h (i + 2 ^ h))
    show deepT (merge _ _) ≤ _
    omega
theorem ofCells_cell [LawfulBEq α] (f : Nat → α) : ∀ (h i : Nat) (t : Tr α), plainT t → deepT t ≤ h → (∀ k, k < 2 ^ h → f (i + k) = cellT t h k) → ofCells f h i = t
  | 0, i, t, _, hd, e => by
    obtain ⟨a, rfl⟩ := leaf_of_deep hd
    have := e 0 (by decide)
    show Tr.leaf (f i) = _
    rw [Nat.add_zero] at this
    rw [this]; rfl
  | h + 1, i, t, hp, hd, e => by
    have e2 : 2 ^ (h + 1) = 2 ^ h + 2 ^ h := by rw [Nat.pow_succ]; omega
    have a := ofCells_cell f h i (halfL t) (plain_halfL t hp) (deep_halfL t h hd) (fun k hk => by
      have := e k (by omega); rw [cellT_half, if_pos hk] at this; exact this)
    have b := ofCells_cell f h (i + 2 ^ h) (halfR t) (plain_halfR t hp) (deep_halfR t h hd) (fun k hk => by
      have := e (2 ^ h + k) (by omega)
      rw [cellT_half, if_neg (by omega), show 2 ^ h + k - 2 ^ h = k by omega, ← Nat.add_assoc] at this; exact this)
    show merge _ _ = _
    rw [a, b, merge_halves t hp]
theorem cell_ofCells [LawfulBEq α] (f : Nat → α) : ∀ (h i k : Nat), k < 2 ^ h → cellT (ofCells f h i) h k = f (i + k)
  | 0, i, k, hk => by
    have : k = 0 := by have : (2 : Nat) ^ 0 = 1 := rfl; omega
    subst this; rfl
  | h + 1, i, k, hk => by
    have e2 : 2 ^ (h + 1) = 2 ^ h + 2 ^ h := by rw [Nat.pow_succ]; omega
    unfold cellT
    show (merge _ _).val _ = _
    rw [val_merge, roadOf]
    by_cases c : k < 2 ^ h
    · rw [if_pos c]
      exact cell_ofCells f h i k c
    · rw [if_neg c]
      have := cell_ofCells f h (i + 2 ^ h) (k - 2 ^ h) (by omega)
      rw [show i + 2 ^ h + (k - 2 ^ h) = i + k by omega] at this
      exact this
theorem ofCells_congr [LawfulBEq α] (f g : Nat → α) (h i : Nat) (e : ∀ k, k < 2 ^ h → f (i + k) = g (i + k)) : ofCells f h i = ofCells g h i :=
  ofCells_cell f h i _ (ofCells_plain g h i) (ofCells_deep g h i) fun k hk => by rw [cell_ofCells g h i k hk]; exact e k hk
theorem ofCells_const [LawfulBEq α] (f : Nat → α) (h i : Nat) (a : α) (e : ∀ k, k < 2 ^ h → f (i + k) = a) : ofCells f h i = .leaf a :=
  ofCells_cell f h i (.leaf a) trivial (Nat.zero_le _) e
theorem ofCells_leaf [LawfulBEq α] {f : Nat → α} {h i : Nat} {a : α} (e : ofCells f h i = .leaf a) : ∀ k, k < 2 ^ h → f (i + k) = a := fun k hk => by
  rw [← cell_ofCells f h i k hk, e]; rfl
theorem ofCells_mix [LawfulBEq α] (f : Nat → α) (h i : Nat) (e : ¬ ∃ a, ∀ k, k < 2 ^ (h + 1) → f (i + k) = a) : ofCells f (h + 1) i = .pair (ofCells f h i) (ofCells f h (i + 2 ^ h)) := by
  show merge _ _ = _
  unfold merge
  by_cases c : same (ofCells f h i) (ofCells f h (i + 2 ^ h)) = true
  · exfalso
    obtain ⟨a, e1, e2⟩ := same_leaves c
    have e3 : 2 ^ (h + 1) = 2 ^ h + 2 ^ h := by rw [Nat.pow_succ]; omega
    refine e ⟨a, fun k hk => ?_⟩
    by_cases d : k < 2 ^ h
    · exact ofCells_leaf e1 k d
    · have := ofCells_leaf e2 (k - 2 ^ h) (by omega)
      rw [show i + 2 ^ h + (k - 2 ^ h) = i + k by omega] at this
      exact this
  · rw [if_neg c]
end

/-- How many of n cells from a on. -/
def cnt (f : Nat → Bool) (a : Nat) : Nat → Nat
  | 0 => 0
  | n + 1 => cnt f a n + (if f (a + n) = true then 1 else 0)
theorem cnt_le (f : Nat → Bool) (a : Nat) : ∀ n, cnt f a n ≤ n
  | 0 => Nat.le_refl _
  | n + 1 => by have := cnt_le f a n; show cnt f a n + _ ≤ _; split <;> omega
theorem cnt_add (f : Nat → Bool) (a n : Nat) : ∀ m, cnt f a (n + m) = cnt f a n + cnt f (a + n) m
  | 0 => rfl
  | m + 1 => by
    show cnt f a (n + m) + (if f (a + (n + m)) = true then 1 else 0) = cnt f a n + (cnt f (a + n) m + (if f (a + n + m) = true then 1 else 0))
    rw [cnt_add f a n m, Nat.add_assoc a n m]; omega
theorem cnt_zero (f : Nat → Bool) (a : Nat) : ∀ n, cnt f a n = 0 ↔ ∀ k, k < n → f (a + k) = false
  | 0 => ⟨fun _ k h => by omega, fun _ => rfl⟩
  | n + 1 => by
    have ih := cnt_zero f a n
    show cnt f a n + (if f (a + n) = true then 1 else 0) = 0 ↔ _
    constructor
    · intro h k hk
      by_cases e : k = n
      · subst e
        cases g : f (a + k) with
        | false => rfl
        | true => rw [if_pos g] at h; omega
      · exact ih.1 (by omega) k (by omega)
    · intro h
      rw [if_neg (by rw [h n (by omega)]; exact Bool.false_ne_true), ih.2 (fun k hk => h k (by omega))]
theorem cnt_full (f : Nat → Bool) (a : Nat) : ∀ n, cnt f a n = n ↔ ∀ k, k < n → f (a + k) = true
  | 0 => ⟨fun _ k h => by omega, fun _ => rfl⟩
  | n + 1 => by
    have ih := cnt_full f a n
    have hl := cnt_le f a n
    show cnt f a n + (if f (a + n) = true then 1 else 0) = n + 1 ↔ _
    constructor
    · intro h k hk
      have g : f (a + n) = true := by
        cases g : f (a + n) with
        | true => rfl
        | false => rw [if_neg (by rw [g]; exact Bool.false_ne_true)] at h; omega
      rw [if_pos g] at h
      by_cases e : k = n
      · subst e; exact g
      · exact ih.1 (by omega) k (by omega)
    · intro h
      rw [if_pos (h n (by omega)), ih.2 (fun k hk => h k (by omega))]
theorem cnt_congr (f g : Nat → Bool) (a b : Nat) : ∀ n, (∀ k, k < n → f (a + k) = g (b + k)) → cnt f a n = cnt g b n
  | 0, _ => rfl
  | n + 1, h => by
    show cnt f a n + _ = cnt g b n + _
    rw [cnt_congr f g a b n (fun k hk => h k (by omega)), h n (by omega)]

theorem shareT_halves (t : Tr Bool) (h : Nat) : shareP t (2 ^ (h + 1)) = shareP (halfL t) (2 ^ h) + shareP (halfR t) (2 ^ h) := by
  cases t using Tr.cs with
  | leaf a =>
    cases a
    · rfl
    · show 2 ^ (h + 1) = 2 ^ h + 2 ^ h; rw [Nat.pow_succ]; omega
  | pair l r => exact share_pair l r h
/-- A piece's share is how many cells it has. -/
theorem cnt_share (f : Nat → Bool) : ∀ (h i : Nat) (t : Tr Bool), deepT t ≤ h → (∀ k, k < 2 ^ h → f (i + k) = cellT t h k) → cnt f i (2 ^ h) = shareP t (2 ^ h)
  | 0, i, t, hd, e => by
    obtain ⟨a, rfl⟩ := leaf_of_deep hd
    have := e 0 (by decide)
    have e1 : f i = a := this
    show 0 + (if f (i + 0) = true then 1 else 0) = _
    rw [Nat.add_zero, e1]
    cases a <;> rfl
  | h + 1, i, t, hd, e => by
    have e2 : 2 ^ (h + 1) = 2 ^ h + 2 ^ h := by rw [Nat.pow_succ]; omega
    have a := cnt_share f h i (halfL t) (deep_halfL t h hd) (fun k hk => by
      have := e k (by omega); rw [cellT_half, if_pos hk] at this; exact this)
    have b := cnt_share f h (i + 2 ^ h) (halfR t) (deep_halfR t h hd) (fun k hk => by
      have := e (2 ^ h + k) (by omega)
      rw [cellT_half, if_neg (by omega), show 2 ^ h + k - 2 ^ h = k by omega, ← Nat.add_assoc] at this; exact this)
    rw [shareT_halves, ← a, ← b, e2, cnt_add]

/-- The ID of some cells, by counting them. -/
theorem ofCells_none (f : Nat → Bool) (h i : Nat) (e : cnt f i (2 ^ h) = 0) : ofCells f h i = .leaf false := ofCells_const f h i false ((cnt_zero f i _).1 e)
theorem ofCells_all (f : Nat → Bool) (h i : Nat) (e : cnt f i (2 ^ h) = 2 ^ h) : ofCells f h i = .leaf true := ofCells_const f h i true ((cnt_full f i _).1 e)
theorem ofCells_some (f : Nat → Bool) (h i : Nat) (e0 : cnt f i (2 ^ (h + 1)) ≠ 0) (e1 : cnt f i (2 ^ (h + 1)) ≠ 2 ^ (h + 1)) : ofCells f (h + 1) i = .pair (ofCells f h i) (ofCells f h (i + 2 ^ h)) := by
  refine ofCells_mix f h i ?_
  rintro ⟨a, ha⟩
  cases a
  · exact e0 ((cnt_zero f i _).2 ha)
  · exact e1 ((cnt_full f i _).2 ha)

/-- The least of the first number and n numbers. -/
def minTo (f : Nat → Nat) : Nat → Nat
  | 0 => f 0
  | n + 1 => min (minTo f n) (f n)
theorem minTo_le (f : Nat → Nat) : ∀ (n i : Nat), i < n → minTo f n ≤ f i
  | 0, i, h => by omega
  | n + 1, i, h => by
    show min (minTo f n) (f n) ≤ f i
    by_cases g : i = n
    · subst g; omega
    · have := minTo_le f n i (by omega); omega
theorem minTo_at (f : Nat → Nat) : ∀ n, 0 < n → ∃ i, i < n ∧ minTo f n = f i
  | 0, h => by omega
  | 1, _ => ⟨0, by omega, by show min (f 0) (f 0) = _; omega⟩
  | n + 2, _ => by
    obtain ⟨i, hi, e⟩ := minTo_at f (n + 1) (by omega)
    show ∃ i, _ ∧ min (minTo f (n + 1)) (f (n + 1)) = f i
    by_cases g : minTo f (n + 1) ≤ f (n + 1)
    · exact ⟨i, by omega, by omega⟩
    · exact ⟨n + 1, by omega, by omega⟩
theorem maxTo_at (f : Nat → Nat) : ∀ n, 0 < n → ∃ i, i < n ∧ maxTo f n = f i
  | 0, h => by omega
  | 1, _ => ⟨0, by omega, by show max 0 (f 0) = _; omega⟩
  | n + 2, _ => by
    obtain ⟨i, hi, e⟩ := maxTo_at f (n + 1) (by omega)
    show ∃ i, _ ∧ max (maxTo f (n + 1)) (f (n + 1)) = f i
    by_cases g : f (n + 1) ≤ maxTo f (n + 1)
    · exact ⟨i, by omega, by omega⟩
    · exact ⟨n + 1, by omega, by omega⟩

theorem lowest_at (t : Tr Nat) : ∃ p, t.val p = lowest t := by
  induction t using Tr.ind with
  | leaf a => exact ⟨fun _ => false, rfl⟩
  | pair l r ihl ihr =>
    obtain ⟨p, hp⟩ := ihl
    obtain ⟨q, hq⟩ := ihr
    by_cases h : lowest r ≤ lowest l
    · refine ⟨road true q, ?_⟩
      rw [val_right, hq]; show _ = min _ _; omega
    · refine ⟨road false p, ?_⟩
      rw [val_left, hp]; show _ = min _ _; omega

/-- The least and the greatest number of some cells are those of their tree. -/
theorem low_cells (f : Nat → Nat) (h i : Nat) : minTo (fun k => f (i + k)) (2 ^ h) = lowest (ofCells f h i) := by
  obtain ⟨j, hj, e⟩ := minTo_at (fun k => f (i + k)) (2 ^ h) (Nat.two_pow_pos h)
  obtain ⟨p, hp⟩ := lowest_at (ofCells f h i)
  obtain ⟨k, hk, hv⟩ := road_cell h p
  have e1 := hv (ofCells f h i) (ofCells_deep f h i)
  rw [cell_ofCells f h i k hk] at e1
  have l1 := minTo_le (fun k => f (i + k)) (2 ^ h) k hk
  have l2 := lowest_le (ofCells f h i) (roadOf h j)
  have e2 := cell_ofCells f h i j hj
  unfold cellT at e2
  have e : minTo (fun k => f (i + k)) (2 ^ h) = f (i + j) := e
  have l1 : minTo (fun k => f (i + k)) (2 ^ h) ≤ f (i + k) := l1
  omega
theorem high_cells (f : Nat → Nat) (h i : Nat) : maxTo (fun k => f (i + k)) (2 ^ h) = highest (ofCells f h i) := by
  obtain ⟨j, hj, e⟩ := maxTo_at (fun k => f (i + k)) (2 ^ h) (Nat.two_pow_pos h)
  obtain ⟨p, hp⟩ := highest_at (ofCells f h i)
  obtain ⟨k, hk, hv⟩ := road_cell h p
  have e1 := hv (ofCells f h i) (ofCells_deep f h i)
  rw [cell_ofCells f h i k hk] at e1
  have l1 := le_maxTo (fun k => f (i + k)) (2 ^ h) k hk
  have l2 := le_highest (ofCells f h i) (roadOf h j)
  have e2 := cell_ofCells f h i j hj
  unfold cellT at e2
  have e : maxTo (fun k => f (i + k)) (2 ^ h) = f (i + j) := e
  have l1 : f (i + k) ≤ maxTo (fun k => f (i + k)) (2 ^ h) := l1
  omega
/-- The EV of some cells: one number, or two halves. -/
theorem ofCells_one (f : Nat → Nat) (h i a : Nat) (e1 : minTo (fun k => f (i + k)) (2 ^ h) = a) (e2 : maxTo (fun k => f (i + k)) (2 ^ h) = a) : ofCells f h i = .leaf a := by
  refine ofCells_const f h i a fun k hk => ?_
  have l1 := minTo_le (fun k => f (i + k)) (2 ^ h) k hk
  have l2 := le_maxTo (fun k => f (i + k)) (2 ^ h) k hk
  have l1 : minTo (fun k => f (i + k)) (2 ^ h) ≤ f (i + k) := l1
  have l2 : f (i + k) ≤ maxTo (fun k => f (i + k)) (2 ^ h) := l2
  omega
theorem ofCells_two (f : Nat → Nat) (h i : Nat) (e : minTo (fun k => f (i + k)) (2 ^ (h + 1)) ≠ maxTo (fun k => f (i + k)) (2 ^ (h + 1))) : ofCells f (h + 1) i = .pair (ofCells f h i) (ofCells f h (i + 2 ^ h)) := by
  refine ofCells_mix f h i ?_
  rintro ⟨a, ha⟩
  apply e
  rw [low_cells, high_cells, ofCells_const f (h + 1) i a ha]
  rfl

/-- Where a piece is cut: at this cell of its 2^h. -/
def forkMid : Nat → Tr Bool → Nat
  | 0, _ => 0
  | h + 1, t => if isNoneP (halfL t) = true then 2 ^ h + forkMid h (halfR t) else if isNoneP (halfR t) = true then forkMid h (halfL t) else 2 ^ h

theorem forkMid_le : ∀ (h : Nat) (t : Tr Bool), forkMid h t ≤ 2 ^ h
  | 0, _ => Nat.zero_le _
  | h + 1, t => by
    have e2 : 2 ^ (h + 1) = 2 ^ h + 2 ^ h := by rw [Nat.pow_succ]; omega
    have a := forkMid_le h (halfR t)
    have b := forkMid_le h (halfL t)
    unfold forkMid
    split
    · omega
    · split <;> omega

theorem cut_cells : ∀ (h : Nat) (t : Tr Bool), deepT t ≤ h → plainT t → 2 ≤ shareP t (2 ^ h) → ∀ k, k < 2 ^ h →
    cellT (cutP t).1 h k = (cellT t h k && decide (k < forkMid h t)) ∧ cellT (cutP t).2 h k = (cellT t h k && decide (forkMid h t ≤ k))
  | 0, t, hd, _, hs, k, hk => by
    obtain ⟨a, rfl⟩ := leaf_of_deep hd
    cases a
    · rw [share_false] at hs; omega
    · rw [share_true] at hs; omega
  | h + 1, t, hd, hp, hs, k, hk => by
    have e2 : 2 ^ (h + 1) = 2 ^ h + 2 ^ h := by rw [Nat.pow_succ]; omega
    cases t using Tr.cs with
    | leaf a =>
      cases a
      · rw [share_false] at hs; omega
      · have em : forkMid (h + 1) (.leaf true) = 2 ^ h := rfl
        rw [em]
        have ec : cutP (.leaf true) = (.pair (.leaf true) (.leaf false), .pair (.leaf false) (.leaf true)) := rfl
        rw [ec, cellT_leaf]
        by_cases c : k < 2 ^ h
        · rw [cellT_left _ _ _ _ c, cellT_left _ _ _ _ c]
          simp [c, cellT_leaf]
        · rw [cellT_right _ _ _ _ c, cellT_right _ _ _ _ c]
          simp [c, cellT_leaf]; omega
    | pair l r =>
      have hd : max (deepT l) (deepT r) + 1 ≤ h + 1 := hd
      rw [share_pair] at hs
      have em : forkMid (h + 1) (.pair l r) = if isNoneP l = true then 2 ^ h + forkMid h r else if isNoneP r = true then forkMid h l else 2 ^ h := rfl
      by_cases nl : isNoneP l = true
      · have e : cutP (.pair l r) = (.pair (.leaf false) (cutP r).1, .pair (.leaf false) (cutP r).2) := by show (if isNoneP l = true then _ else _) = _; rw [if_pos nl]
        rw [e, em, if_pos nl]
        have el := (isNone_iff l).1 nl
        subst el
        rw [share_false] at hs
        by_cases c : k < 2 ^ h
        · rw [cellT_left _ _ _ _ c, cellT_left _ _ _ _ c, cellT_left _ _ _ _ c]
          simp [cellT_leaf]
        · have ih := cut_cells h r (by omega) hp.2.2 (by omega) (k - 2 ^ h) (by omega)
          rw [cellT_right _ _ _ _ c, cellT_right _ _ _ _ c, cellT_right _ _ _ _ c, ih.1, ih.2]
          have d1 : decide (k - 2 ^ h < forkMid h r) = decide (k < 2 ^ h + forkMid h r) := by rw [decide_eq_decide]; omega
          have d2 : decide (forkMid h r ≤ k - 2 ^ h) = decide (2 ^ h + forkMid h r ≤ k) := by rw [decide_eq_decide]; omega
          rw [d1, d2]; exact ⟨rfl, rfl⟩
      · by_cases nr : isNoneP r = true
        · have e : cutP (.pair l r) = (.pair (cutP l).1 (.leaf false), .pair (cutP l).2 (.leaf false)) := by show (if isNoneP l = true then _ else _) = _; rw [if_neg nl, if_pos nr]
          rw [e, em, if_neg nl, if_pos nr]
          have er := (isNone_iff r).1 nr
          subst er
          rw [share_false] at hs
          by_cases c : k < 2 ^ h
          · have ih := cut_cells h l (by omega) hp.2.1 (by omega) k c
            rw [cellT_left _ _ _ _ c, cellT_left _ _ _ _ c, cellT_left _ _ _ _ c]
            exact ih
          · rw [cellT_right _ _ _ _ c, cellT_right _ _ _ _ c, cellT_right _ _ _ _ c]
            simp [cellT_leaf]
        · have e : cutP (.pair l r) = (.pair l (.leaf false), .pair (.leaf false) r) := by show (if isNoneP l = true then _ else _) = _; rw [if_neg nl, if_neg nr]
          rw [e, em, if_neg nl, if_neg nr]
          by_cases c : k < 2 ^ h
          · rw [cellT_left _ _ _ _ c, cellT_left _ _ _ _ c, cellT_left _ _ _ _ c]
            simp [c, cellT_leaf]
          · rw [cellT_right _ _ _ _ c, cellT_right _ _ _ _ c, cellT_right _ _ _ _ c]
            simp [c, cellT_leaf]; omega

end Go.Proofs.YtoebmfhgaalcdaaGreatDoor
