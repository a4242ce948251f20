/-
  Our own. What the reader reads, as plain functions: no Go in here.
-/
import Derived.Test.YtoebmfhgaalcdaaGreatDoorBase
namespace Go.Proofs.YtoebmfhgaalcdaaGreatDoor

/-- What comes of reading a NUM. -/
structure Nm where
  out : (Nat × Nat) ⊕ Nat
abbrev Nm.ok (n i : Nat) : Nm := ⟨.inl (n, i)⟩
abbrev Nm.bad (i : Nat) : Nm := ⟨.inr i⟩
theorem Nm.cs {motive : Nm → Prop} (ok : ∀ n i, motive (Nm.ok n i)) (bad : ∀ i, motive (Nm.bad i)) : ∀ o, motive o
  | ⟨.inl (n, i)⟩ => ok n i
  | ⟨.inr i⟩ => bad i
theorem Nm.ok_inj {n i m j : Nat} (h : Nm.ok n i = Nm.ok m j) : n = m ∧ i = j := by
  injection h with h; injection h with h; injection h with h1 h2; exact ⟨h1, h2⟩
theorem Nm.bad_ok {n i j : Nat} (h : Nm.bad i = Nm.ok n j) : False := by
  injection h with h; injection h

/-- The digits from i on, n so far. -/
def numGo (s : ByteArray) : Nat → Nat → Nat → Nm
  | 0, i, n => .ok n i
  | f + 1, i, n => if isDig (nx s i) = true then (if 1099511627776 < 10 * n + (nx s i - 48) then .bad i else numGo s f (i + 1) (10 * n + (nx s i - 48))) else .ok n i

/-- A NUM from i on. -/
def numR (s : ByteArray) (i : Nat) : Nm :=
  if isDig (nx s i) = false then .bad i else if nx s i = 48 then .ok 0 (i + 1) else numGo s (s.size + 1 - i) i 0

theorem isDig_iff (c : Nat) : isDig c = true ↔ 48 ≤ c ∧ c ≤ 57 := by unfold isDig; simp
theorem isDig_no (c : Nat) : isDig c = false ↔ ¬ (48 ≤ c ∧ c ≤ 57) := by unfold isDig; simp

theorem numGo_step (s : ByteArray) (i n : Nat) (hi : i < s.size) (hd : isDig (nx s i) = true) (hn : ¬ 1099511627776 < 10 * n + (nx s i - 48)) :
    numGo s (s.size + 1 - i) i n = numGo s (s.size + 1 - (i + 1)) (i + 1) (10 * n + (nx s i - 48)) := by
  have e : s.size + 1 - i = (s.size + 1 - (i + 1)) + 1 := by omega
  rw [e, numGo, if_pos hd, if_neg hn]
theorem numGo_bad (s : ByteArray) (i n : Nat) (hi : i < s.size) (hd : isDig (nx s i) = true) (hn : 1099511627776 < 10 * n + (nx s i - 48)) :
    numGo s (s.size + 1 - i) i n = .bad i := by
  have e : s.size + 1 - i = (s.size + 1 - (i + 1)) + 1 := by omega
  rw [e, numGo, if_pos hd, if_pos hn]
theorem numGo_end (s : ByteArray) (i n : Nat) (hi : i ≤ s.size) (hd : isDig (nx s i) = false) : numGo s (s.size + 1 - i) i n = .ok n i := by
  have e : s.size + 1 - i = (s.size - i) + 1 := by omega
  rw [e, numGo, if_neg (by rw [hd]; exact Bool.false_ne_true)]

/-- What comes of reading an ID or EV. -/
structure Rs (α : Type) where
  out : (α × Nat × Nat) ⊕ Nat
abbrev Rs.ok {α : Type} (a : α) (i r : Nat) : Rs α := ⟨.inl (a, i, r)⟩
abbrev Rs.bad {α : Type} (i : Nat) : Rs α := ⟨.inr i⟩
theorem Rs.cs {α : Type} {motive : Rs α → Prop} (ok : ∀ a i r, motive (Rs.ok a i r)) (bad : ∀ i, motive (Rs.bad i)) : ∀ o, motive o
  | ⟨.inl (a, i, r)⟩ => ok a i r
  | ⟨.inr i⟩ => bad i

/-- A tree: values in leaves. -/
structure Tr (α : Type) where
  node : α ⊕ (Tr α × Tr α)
abbrev Tr.leaf {α : Type} (a : α) : Tr α := ⟨.inl a⟩
abbrev Tr.pair {α : Type} (l r : Tr α) : Tr α := ⟨.inr (l, r)⟩
theorem Tr.cs {α : Type} {motive : Tr α → Prop} (leaf : ∀ a, motive (Tr.leaf a)) (pair : ∀ l r, motive (Tr.pair l r)) : ∀ t, motive t
  | ⟨.inl a⟩ => leaf a
  | ⟨.inr (l, r)⟩ => pair l r
theorem Tr.ind {α : Type} {motive : Tr α → Prop} (leaf : ∀ a, motive (Tr.leaf a)) (pair : ∀ l r, motive l → motive r → motive (Tr.pair l r)) : ∀ t, motive t
  | ⟨.inl a⟩ => leaf a
  | ⟨.inr (l, r)⟩ => pair l r (Tr.ind leaf pair l) (Tr.ind leaf pair r)

/-- One leaf would do for both. -/
def sameB : Tr Bool → Tr Bool → Bool
  | ⟨.inl a⟩, ⟨.inl b⟩ => a == b
  | _, _ => false
def sameI : Tr Nat → Tr Nat → Bool
  | ⟨.inl a⟩, ⟨.inl b⟩ => a == b
  | _, _ => false

/-- One byte that must be as wanted. -/
def passR {α : Type} (s : ByteArray) (c : Nat) (i : Nat) (go : Nat → Rs α) : Rs α := if nx s i = c then go (i + 1) else .bad i

/-- An ID from i on, so many halvings. -/
def idR (s : ByteArray) : Nat → Nat → Nat → Rs (Tr Bool)
  | 0, i, r => if nx s i = 48 then .ok (.leaf false) (i + 1) r else if nx s i = 49 then .ok (.leaf true) (i + 1) r else .bad i
  | h + 1, i, r =>
    if nx s i = 48 then .ok (.leaf false) (i + 1) r else if nx s i = 49 then .ok (.leaf true) (i + 1) r else
    passR s 40 i fun i1 =>
      match idR s h i1 r with
      | ⟨.inr j⟩ => .bad j
      | ⟨.inl (l, i2, r2)⟩ => passR s 44 i2 fun i3 =>
        match idR s h i3 r2 with
        | ⟨.inr j⟩ => .bad j
        | ⟨.inl (t, i4, r4)⟩ => passR s 41 i4 fun i5 => .ok (.pair l t) i5 (if sameB l t = true then min r4 i else r4)

/-- An EV from i on: the tree, and the NUM in front. -/
def evR (s : ByteArray) : Nat → Nat → Nat → Nat → Rs (Tr Nat × Nat)
  | 0, base, i, r =>
    if nx s i = 40 then .bad i else
    match numR s i with
    | ⟨.inr j⟩ => .bad j
    | ⟨.inl (n, i1)⟩ => .ok (.leaf (base + n), n) i1 r
  | h + 1, base, i, r =>
    if nx s i = 40 then
      match numR s (i + 1) with
      | ⟨.inr j⟩ => .bad j
      | ⟨.inl (n, i1)⟩ => passR s 44 i1 fun i2 =>
        match evR s h (base + n) i2 r with
        | ⟨.inr j⟩ => .bad j
        | ⟨.inl ((l, ln), i3, r3)⟩ => passR s 44 i3 fun i4 =>
          match evR s h (base + n) i4 r3 with
          | ⟨.inr j⟩ => .bad j
          | ⟨.inl ((t, tn), i5, r5)⟩ => passR s 41 i5 fun i6 => .ok (.pair l t, n) i6 (if (decide (0 < ln) && decide (0 < tn) || sameI l t) = true then min r5 i else r5)
    else
    match numR s i with
    | ⟨.inr j⟩ => .bad j
    | ⟨.inl (n, i1)⟩ => .ok (.leaf (base + n), n) i1 r

section
variable {s : ByteArray} {h i r i2 r2 i4 r4 j : Nat} {l t : Tr Bool}
theorem idR_zero (h : Nat) (e : nx s i = 48) : idR s h i r = .ok (.leaf false) (i + 1) r := by
  cases h <;> rw [idR, if_pos e]
theorem idR_one (h : Nat) (e : nx s i = 49) : idR s h i r = .ok (.leaf true) (i + 1) r := by
  cases h <;> rw [idR, if_neg (by omega), if_pos e]
theorem idR_deep (e : nx s i ≠ 48) (e' : nx s i ≠ 49) : idR s 0 i r = .bad i := by
  rw [idR, if_neg e, if_neg e']
theorem idR_bad0 (e : nx s i ≠ 48) (e' : nx s i ≠ 49) (f : nx s i ≠ 40) : idR s (h + 1) i r = .bad i := by
  rw [idR, if_neg e, if_neg e', passR, if_neg f]
theorem idR_bad1 (e : nx s i = 40) (f : idR s h (i + 1) r = .bad j) : idR s (h + 1) i r = .bad j := by
  rw [idR, if_neg (by omega), if_neg (by omega), passR, if_pos e]; simp only [f]
theorem idR_bad2 (e : nx s i = 40) (f : idR s h (i + 1) r = .ok l i2 r2) (g : nx s i2 ≠ 44) : idR s (h + 1) i r = .bad i2 := by
  rw [idR, if_neg (by omega), if_neg (by omega), passR, if_pos e]; simp only [f, passR]; rw [if_neg g]
theorem idR_bad3 (e : nx s i = 40) (f : idR s h (i + 1) r = .ok l i2 r2) (g : nx s i2 = 44) (f2 : idR s h (i2 + 1) r2 = .bad j) : idR s (h + 1) i r = .bad j := by
  rw [idR, if_neg (by omega), if_neg (by omega), passR, if_pos e]; simp only [f, passR]; rw [if_pos g]; simp only [f2]
theorem idR_bad4 (e : nx s i = 40) (f : idR s h (i + 1) r = .ok l i2 r2) (g : nx s i2 = 44) (f2 : idR s h (i2 + 1) r2 = .ok t i4 r4) (g2 : nx s i4 ≠ 41) : idR s (h + 1) i r = .bad i4 := by
  rw [idR, if_neg (by omega), if_neg (by omega), passR, if_pos e]; simp only [f, passR]; rw [if_pos g]; simp only [f2]; rw [if_neg g2]
theorem idR_pair (e : nx s i = 40) (f : idR s h (i + 1) r = .ok l i2 r2) (g : nx s i2 = 44) (f2 : idR s h (i2 + 1) r2 = .ok t i4 r4) (g2 : nx s i4 = 41) :
    idR s (h + 1) i r = .ok (.pair l t) (i4 + 1) (if sameB l t = true then min r4 i else r4) := by
  rw [idR, if_neg (by omega), if_neg (by omega), passR, if_pos e]; simp only [f, passR]; rw [if_pos g]; simp only [f2]; rw [if_pos g2]
end

theorem numGo_ok (s : ByteArray) : ∀ (f i n : Nat), i ≤ s.size → n ≤ 1099511627776 → ∀ m j, numGo s f i n = .ok m j → m ≤ 1099511627776 ∧ i ≤ j ∧ j ≤ s.size
  | 0, i, n, hi, hn, m, j, h => by rw [numGo] at h; obtain ⟨rfl, rfl⟩ := Nm.ok_inj h; exact ⟨hn, Nat.le_refl _, hi⟩
  | f + 1, i, n, hi, hn, m, j, h => by
    rw [numGo] at h
    by_cases hd : isDig (nx s i) = true
    · rw [if_pos hd] at h
      by_cases ho : 1099511627776 < 10 * n + (nx s i - 48)
      · rw [if_pos ho] at h; exact (Nm.bad_ok h).elim
      · rw [if_neg ho] at h
        have hl : i < s.size := lt_of_nx s i (by have := (isDig_iff _).1 hd; omega)
        have := numGo_ok s f (i + 1) _ (by omega) (by omega) m j h
        omega
    · rw [if_neg hd] at h; obtain ⟨rfl, rfl⟩ := Nm.ok_inj h; exact ⟨hn, Nat.le_refl _, hi⟩

theorem numR_ok {s : ByteArray} {i m j : Nat} (hi : i ≤ s.size) (h : numR s i = .ok m j) : m ≤ 1099511627776 ∧ i ≤ j ∧ j ≤ s.size := by
  unfold numR at h
  by_cases hd : isDig (nx s i) = false
  · rw [if_pos hd] at h; exact (Nm.bad_ok h).elim
  · rw [if_neg hd] at h
    by_cases hz : nx s i = 48
    · rw [if_pos hz] at h; obtain ⟨rfl, rfl⟩ := Nm.ok_inj h
      have hl : i < s.size := lt_of_nx s i (by omega)
      omega
    · rw [if_neg hz] at h; exact numGo_ok s _ i 0 hi (by omega) m j h

section
variable {s : ByteArray} {h base n i r i1 i2 r2 i4 r4 j ln tn : Nat} {l t : Tr Nat}
theorem evR_numbad (h : Nat) (e : nx s i ≠ 40) (f : numR s i = .bad j) : evR s h base i r = .bad j := by
  cases h <;> rw [evR, if_neg e] <;> simp only [f]
theorem evR_num (h : Nat) (e : nx s i ≠ 40) (f : numR s i = .ok n i1) : evR s h base i r = .ok (.leaf (base + n), n) i1 r := by
  cases h <;> rw [evR, if_neg e] <;> simp only [f]
theorem evR_deep (e : nx s i = 40) : evR s 0 base i r = .bad i := by
  rw [evR, if_pos e]
theorem evR_bad0 (e : nx s i = 40) (f : numR s (i + 1) = .bad j) : evR s (h + 1) base i r = .bad j := by
  rw [evR, if_pos e]; simp only [f]
theorem evR_bad1 (e : nx s i = 40) (f : numR s (i + 1) = .ok n i1) (g : nx s i1 ≠ 44) : evR s (h + 1) base i r = .bad i1 := by
  rw [evR, if_pos e]; simp only [f, passR]; rw [if_neg g]
theorem evR_bad2 (e : nx s i = 40) (f : numR s (i + 1) = .ok n i1) (g : nx s i1 = 44) (f2 : evR s h (base + n) (i1 + 1) r = .bad j) : evR s (h + 1) base i r = .bad j := by
  rw [evR, if_pos e]; simp only [f, passR]; rw [if_pos g]; simp only [f2]
theorem evR_bad3 (e : nx s i = 40) (f : numR s (i + 1) = .ok n i1) (g : nx s i1 = 44) (f2 : evR s h (base + n) (i1 + 1) r = .ok (l, ln) i2 r2) (g2 : nx s i2 ≠ 44) : evR s (h + 1) base i r = .bad i2 := by
  rw [evR, if_pos e]; simp only [f, passR]; rw [if_pos g]; simp only [f2]; rw [if_neg g2]
theorem evR_bad4 (e : nx s i = 40) (f : numR s (i + 1) = .ok n i1) (g : nx s i1 = 44) (f2 : evR s h (base + n) (i1 + 1) r = .ok (l, ln) i2 r2) (g2 : nx s i2 = 44)
    (f3 : evR s h (base + n) (i2 + 1) r2 = .bad j) : evR s (h + 1) base i r = .bad j := by
  rw [evR, if_pos e]; simp only [f, passR]; rw [if_pos g]; simp only [f2]; rw [if_pos g2]; simp only [f3]
theorem evR_bad5 (e : nx s i = 40) (f : numR s (i + 1) = .ok n i1) (g : nx s i1 = 44) (f2 : evR s h (base + n) (i1 + 1) r = .ok (l, ln) i2 r2) (g2 : nx s i2 = 44)
    (f3 : evR s h (base + n) (i2 + 1) r2 = .ok (t, tn) i4 r4) (g3 : nx s i4 ≠ 41) : evR s (h + 1) base i r = .bad i4 := by
  rw [evR, if_pos e]; simp only [f, passR]; rw [if_pos g]; simp only [f2]; rw [if_pos g2]; simp only [f3]; rw [if_neg g3]
theorem evR_pair (e : nx s i = 40) (f : numR s (i + 1) = .ok n i1) (g : nx s i1 = 44) (f2 : evR s h (base + n) (i1 + 1) r = .ok (l, ln) i2 r2) (g2 : nx s i2 = 44)
    (f3 : evR s h (base + n) (i2 + 1) r2 = .ok (t, tn) i4 r4) (g3 : nx s i4 = 41) :
    evR s (h + 1) base i r = .ok (.pair l t, n) (i4 + 1) (if (decide (0 < ln) && decide (0 < tn) || sameI l t) = true then min r4 i else r4) := by
  rw [evR, if_pos e]; simp only [f, passR]; rw [if_pos g]; simp only [f2]; rw [if_pos g2]; simp only [f3]; rw [if_pos g3]
end

/-- The greatest number in a tree. -/
def highest : Tr Nat → Nat
  | ⟨.inl a⟩ => a
  | ⟨.inr (l, r)⟩ => max (highest l) (highest r)

/-- What reading a text comes to: the stamp, or the error and its place. -/
structure Rd1 where
  out : (Tr Bool × Tr Nat) ⊕ (Nat × Nat)
abbrev Rd1.ok (id : Tr Bool) (ev : Tr Nat) : Rd1 := ⟨.inl (id, ev)⟩
abbrev Rd1.bad (errno place : Nat) : Rd1 := ⟨.inr (errno, place)⟩
theorem Rd1.cs {motive : Rd1 → Prop} (ok : ∀ id ev, motive (Rd1.ok id ev)) (bad : ∀ e p, motive (Rd1.bad e p)) : ∀ o, motive o
  | ⟨.inl (id, ev)⟩ => ok id ev
  | ⟨.inr (e, p)⟩ => bad e p

def readR (s : ByteArray) : Rd1 :=
  if 20000 < s.size then .bad 1 0 else
  match idR s 8 0 s.size with
  | ⟨.inr j⟩ => .bad 2 j
  | ⟨.inl (id, i1, r1)⟩ =>
    if nx s i1 = 59 then
      match evR s 8 0 (i1 + 1) r1 with
      | ⟨.inr j⟩ => .bad 2 j
      | ⟨.inl ((ev, _), i2, r2)⟩ =>
        if i2 < s.size then .bad 2 i2 else
        if 1099511627776 < highest ev then .bad 7 s.size else
        if r2 < s.size then .bad 3 r2 else .ok id ev
    else .bad 2 i1

end Go.Proofs.YtoebmfhgaalcdaaGreatDoor
