/-
  Our own. What package sprigsref reads, as plain functions.
-/
import Derived.Test.YtoebmfhgaalcdaaGreatDoorPlain
namespace Go.Proofs.YtoebmfhgaalcdaaGreatDoor

/-- A NUM as the document's answer reads it: a digit behind a nought fails at once. -/
def numF (s : ByteArray) (i : Nat) : Nm :=
  if isDig (nx s i) = false then .bad i else
  if nx s i = 48 then (if isDig (nx s (i + 1)) = true then .bad (i + 1) else .ok 0 (i + 1)) else numGo s (s.size + 1 - i) i 0

theorem Rs.ok_inj {α : Type} {a b : α} {i r j q : Nat} (h : Rs.ok a i r = Rs.ok b j q) : a = b ∧ i = j ∧ r = q := by
  injection h with h; injection h with h; injection h with h1 h2; injection h2 with h2 h3; exact ⟨h1, h2, h3⟩
theorem Rs.bad_ok {α : Type} {a : α} {i j q : Nat} (h : Rs.bad i = Rs.ok a j q) : False := by
  injection h with h; injection h

/-- What an ID that was read is made of. -/
theorem idR_inv (s : ByteArray) (h i r : Nat) (t : Tr Bool) (j q : Nat) (e : idR s h i r = .ok t j q) :
    (nx s i = 48 ∧ t = .leaf false ∧ j = i + 1 ∧ q = r) ∨ (nx s i = 49 ∧ t = .leaf true ∧ j = i + 1 ∧ q = r) ∨
    ∃ h' l u i2 r2 i4 r4, h = h' + 1 ∧ nx s i = 40 ∧ idR s h' (i + 1) r = .ok l i2 r2 ∧ nx s i2 = 44 ∧ idR s h' (i2 + 1) r2 = .ok u i4 r4 ∧ nx s i4 = 41 ∧ t = .pair l u ∧ j = i4 + 1 ∧
      q = (if sameB l u = true then min r4 i else r4) := by
  by_cases c0 : nx s i = 48
  · rw [idR_zero h c0] at e
    obtain ⟨rfl, rfl, rfl⟩ := Rs.ok_inj e
    exact Or.inl ⟨c0, rfl, rfl, rfl⟩
  · by_cases c1 : nx s i = 49
    · rw [idR_one h c1] at e
      obtain ⟨rfl, rfl, rfl⟩ := Rs.ok_inj e
      exact Or.inr (Or.inl ⟨c1, rfl, rfl, rfl⟩)
    · right; right
      cases h with
      | zero => rw [idR_deep c0 c1] at e; exact (Rs.bad_ok e).elim
      | succ h =>
        by_cases c2 : nx s i = 40
        · cases f1 : idR s h (i + 1) r using Rs.cs with
          | bad k => rw [idR_bad1 c2 f1] at e; exact (Rs.bad_ok e).elim
          | ok l i2 r2 =>
            by_cases g1 : nx s i2 = 44
            · cases f2 : idR s h (i2 + 1) r2 using Rs.cs with
              | bad k => rw [idR_bad3 c2 f1 g1 f2] at e; exact (Rs.bad_ok e).elim
              | ok u i4 r4 =>
                by_cases g2 : nx s i4 = 41
                · rw [idR_pair c2 f1 g1 f2 g2] at e
                  obtain ⟨rfl, rfl, rfl⟩ := Rs.ok_inj e
                  exact ⟨h, l, u, i2, r2, i4, r4, rfl, c2, f1, g1, f2, g2, rfl, rfl, rfl⟩
                · rw [idR_bad4 c2 f1 g1 f2 g2] at e; exact (Rs.bad_ok e).elim
            · rw [idR_bad2 c2 f1 g1] at e; exact (Rs.bad_ok e).elim
        · rw [idR_bad0 c0 c1 c2] at e; exact (Rs.bad_ok e).elim

/-- What an EV that was read is made of. -/
theorem evR_inv (s : ByteArray) (h base i r : Nat) (t : Tr Nat) (n j q : Nat) (e : evR s h base i r = .ok (t, n) j q) :
    (nx s i ≠ 40 ∧ numR s i = .ok n j ∧ t = .leaf (base + n) ∧ q = r) ∨
    ∃ h' i1 l ln u un i2 r2 i4 r4, h = h' + 1 ∧ nx s i = 40 ∧ numR s (i + 1) = .ok n i1 ∧ nx s i1 = 44 ∧ evR s h' (base + n) (i1 + 1) r = .ok (l, ln) i2 r2 ∧ nx s i2 = 44 ∧
      evR s h' (base + n) (i2 + 1) r2 = .ok (u, un) i4 r4 ∧ nx s i4 = 41 ∧ t = .pair l u ∧ j = i4 + 1 ∧ q = (if (decide (0 < ln) && decide (0 < un) || sameI l u) = true then min r4 i else r4) := by
  by_cases c0 : nx s i = 40
  · right
    cases h with
    | zero => rw [evR_deep c0] at e; exact (Rs.bad_ok e).elim
    | succ h =>
      cases f : numR s (i + 1) using Nm.cs with
      | bad k => rw [evR_bad0 c0 f] at e; exact (Rs.bad_ok e).elim
      | ok m i1 =>
        by_cases g0 : nx s i1 = 44
        · cases f1 : evR s h (base + m) (i1 + 1) r using Rs.cs with
          | bad k => rw [evR_bad2 c0 f g0 f1] at e; exact (Rs.bad_ok e).elim
          | ok o i2 r2 =>
            obtain ⟨l, ln⟩ := o
            by_cases g1 : nx s i2 = 44
            · cases f2 : evR s h (base + m) (i2 + 1) r2 using Rs.cs with
              | bad k => rw [evR_bad4 c0 f g0 f1 g1 f2] at e; exact (Rs.bad_ok e).elim
              | ok o i4 r4 =>
                obtain ⟨u, un⟩ := o
                by_cases g2 : nx s i4 = 41
                · rw [evR_pair c0 f g0 f1 g1 f2 g2] at e
                  obtain ⟨e1, rfl, rfl⟩ := Rs.ok_inj e
                  injection e1 with e1 e2
                  subst e1 e2
                  exact ⟨h, i1, l, ln, u, un, i2, r2, i4, r4, rfl, c0, rfl, g0, f1, g1, f2, g2, rfl, rfl, rfl⟩
                · rw [evR_bad5 c0 f g0 f1 g1 f2 g2] at e; exact (Rs.bad_ok e).elim
            · rw [evR_bad3 c0 f g0 f1 g1] at e; exact (Rs.bad_ok e).elim
        · rw [evR_bad1 c0 f g0] at e; exact (Rs.bad_ok e).elim
  · left
    cases f : numR s i using Nm.cs with
    | bad k => rw [evR_numbad h c0 f] at e; exact (Rs.bad_ok e).elim
    | ok m i1 =>
      rw [evR_num h c0 f] at e
      obtain ⟨e1, rfl, rfl⟩ := Rs.ok_inj e
      injection e1 with e1 e2
      subst e1 e2
      exact ⟨c0, rfl, rfl, rfl⟩

theorem idR_le (s : ByteArray) : ∀ (h i r : Nat) (t : Tr Bool) (j q : Nat), idR s h i r = .ok t j q → i < j ∧ j ≤ s.size := by
  intro h
  induction h with
  | zero =>
    intro i r t j q e
    rcases idR_inv s 0 i r t j q e with ⟨c, _, rfl, _⟩ | ⟨c, _, rfl, _⟩ | ⟨h', _, _, _, _, _, _, hh, _⟩
    · have := lt_of_nx s i (by omega); omega
    · have := lt_of_nx s i (by omega); omega
    · omega
  | succ h ih =>
    intro i r t j q e
    rcases idR_inv s (h + 1) i r t j q e with ⟨c, _, rfl, _⟩ | ⟨c, _, rfl, _⟩ | ⟨h', l, u, i2, r2, i4, r4, hh, c, f1, g1, f2, g2, _, rfl, _⟩
    · have := lt_of_nx s i (by omega); omega
    · have := lt_of_nx s i (by omega); omega
    · obtain rfl : h' = h := by omega
      have a1 := ih _ _ _ _ _ f1
      have a2 := ih _ _ _ _ _ f2
      have := lt_of_nx s i4 (by omega)
      omega

end Go.Proofs.YtoebmfhgaalcdaaGreatDoor
