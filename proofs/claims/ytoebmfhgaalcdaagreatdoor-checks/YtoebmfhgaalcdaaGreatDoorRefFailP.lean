/-
  Our own. What sprigsref.Fails tells, as plain functions.
-/
import Derived.Test.YtoebmfhgaalcdaaGreatDoorRefPlEv
namespace Go.Proofs.YtoebmfhgaalcdaaGreatDoor

/-- Where reading an ID ends (or fails). -/
def idJ (s : ByteArray) : Nat → Nat → Nat ⊕ Nat
  | 0, i => if nx s i = 48 ∨ nx s i = 49 then .inl (i + 1) else .inr i
  | h + 1, i =>
    if nx s i = 48 ∨ nx s i = 49 then .inl (i + 1) else
    if nx s i = 40 then
      match idJ s h (i + 1) with
      | .inr j => .inr j
      | .inl i2 => if nx s i2 = 44 then (match idJ s h (i2 + 1) with
        | .inr j => .inr j
        | .inl i4 => if nx s i4 = 41 then .inl (i4 + 1) else .inr i4) else .inr i2
    else .inr i

/-- Where reading an EV ends (or fails). -/
def evJ (s : ByteArray) : Nat → Nat → Nat ⊕ Nat
  | 0, i => if nx s i = 40 then .inr i else (match numF s i with
    | ⟨.inr j⟩ => .inr j
    | ⟨.inl (_, j)⟩ => .inl j)
  | h + 1, i =>
    if nx s i = 40 then
      match numF s (i + 1) with
      | ⟨.inr j⟩ => .inr j
      | ⟨.inl (_, i1)⟩ => if nx s i1 = 44 then (match evJ s h (i1 + 1) with
        | .inr j => .inr j
        | .inl i2 => if nx s i2 = 44 then (match evJ s h (i2 + 1) with
          | .inr j => .inr j
          | .inl i4 => if nx s i4 = 41 then .inl (i4 + 1) else .inr i4) else .inr i2) else .inr i1
    else (match numF s i with
    | ⟨.inr j⟩ => .inr j
    | ⟨.inl (_, j)⟩ => .inl j)

theorem idJ_of (s : ByteArray) : ∀ (h i r : Nat), (∀ t j q, idR s h i r = .ok t j q → idJ s h i = .inl j) ∧ (∀ j, idR s h i r = .bad j → idJ s h i = .inr j) := by
  intro h
  induction h with
  | zero =>
    intro i r
    by_cases c0 : nx s i = 48
    · rw [idR_zero 0 c0, idJ, if_pos (Or.inl c0)]
      exact ⟨fun t j q e => by obtain ⟨_, rfl, _⟩ := Rs.ok_inj e; rfl, fun j e => (Rs.bad_ok e.symm).elim⟩
    · by_cases c1 : nx s i = 49
      · rw [idR_one 0 c1, idJ, if_pos (Or.inr c1)]
        exact ⟨fun t j q e => by obtain ⟨_, rfl, _⟩ := Rs.ok_inj e; rfl, fun j e => (Rs.bad_ok e.symm).elim⟩
      · rw [idR_deep c0 c1, idJ, if_neg (by omega)]
        exact ⟨fun t j q e => (Rs.bad_ok e).elim, fun j e => by injection e with e; injection e with e; rw [e]⟩
  | succ h ih =>
    intro i r
    by_cases c0 : nx s i = 48
    · rw [idR_zero _ c0, idJ, if_pos (Or.inl c0)]
      exact ⟨fun t j q e => by obtain ⟨_, rfl, _⟩ := Rs.ok_inj e; rfl, fun j e => (Rs.bad_ok e.symm).elim⟩
    · by_cases c1 : nx s i = 49
      · rw [idR_one _ c1, idJ, if_pos (Or.inr c1)]
        exact ⟨fun t j q e => by obtain ⟨_, rfl, _⟩ := Rs.ok_inj e; rfl, fun j e => (Rs.bad_ok e.symm).elim⟩
      · by_cases c2 : nx s i = 40
        · rw [idJ, if_neg (by omega), if_pos c2]
          cases f1 : idR s h (i + 1) r using Rs.cs with
          | bad k =>
            rw [(ih (i + 1) r).2 k f1, idR_bad1 c2 f1]
            exact ⟨fun t j q e => (Rs.bad_ok e).elim, fun j e => by injection e with e; injection e with e; rw [e]⟩
          | ok l i2 r2 =>
            rw [(ih (i + 1) r).1 _ _ _ f1]
            by_cases g1 : nx s i2 = 44
            · simp only; rw [if_pos g1]
              cases f2 : idR s h (i2 + 1) r2 using Rs.cs with
              | bad k =>
                rw [(ih (i2 + 1) r2).2 k f2, idR_bad3 c2 f1 g1 f2]
                exact ⟨fun t j q e => (Rs.bad_ok e).elim, fun j e => by injection e with e; injection e with e; rw [e]⟩
              | ok u i4 r4 =>
                rw [(ih (i2 + 1) r2).1 _ _ _ f2]
                by_cases g2 : nx s i4 = 41
                · simp only; rw [if_pos g2, idR_pair c2 f1 g1 f2 g2]
                  exact ⟨fun t j q e => by obtain ⟨_, rfl, _⟩ := Rs.ok_inj e; rfl, fun j e => (Rs.bad_ok e.symm).elim⟩
                · simp only; rw [if_neg g2, idR_bad4 c2 f1 g1 f2 g2]
                  exact ⟨fun t j q e => (Rs.bad_ok e).elim, fun j e => by injection e with e; injection e with e; rw [e]⟩
            · simp only; rw [if_neg g1, idR_bad2 c2 f1 g1]
              exact ⟨fun t j q e => (Rs.bad_ok e).elim, fun j e => by injection e with e; injection e with e; rw [e]⟩
        · rw [idJ, if_neg (by omega), if_neg c2, idR_bad0 c0 c1 c2]
          exact ⟨fun t j q e => (Rs.bad_ok e).elim, fun j e => by injection e with e; injection e with e; rw [e]⟩

theorem numGo_stops (s : ByteArray) : ∀ (f i a n j : Nat), s.size < f + i → numGo s f i a = .ok n j → isDig (nx s j) = true → False
  | 0, i, a, n, j, hf, h, hd => by
    rw [numGo] at h; obtain ⟨_, rfl⟩ := Nm.ok_inj h
    have := lt_of_nx s i (by have := (isDig_iff _).1 hd; omega)
    omega
  | f + 1, i, a, n, j, hf, h, hd => by
    rw [numGo] at h
    by_cases hg : isDig (nx s i) = true
    · rw [if_pos hg] at h
      by_cases ho : 1099511627776 < 10 * a + (nx s i - 48)
      · rw [if_pos ho] at h; exact Nm.bad_ok h
      · rw [if_neg ho] at h
        exact numGo_stops s f (i + 1) _ n j (by omega) h hd
    · rw [if_neg hg] at h; obtain ⟨_, rfl⟩ := Nm.ok_inj h
      exact hg hd

/-- The two ways to read a NUM part at a digit behind a nought alone. -/
theorem numF_numR (s : ByteArray) (i : Nat) : (∀ j, numR s i = .bad j → numF s i = .bad j) ∧ (∀ n j, numR s i = .ok n j → (isDig (nx s j) = false → numF s i = .ok n j) ∧ (isDig (nx s j) = true → numF s i = .bad j)) := by
  unfold numR numF
  by_cases g : isDig (nx s i) = false
  · rw [if_pos g, if_pos g]
    exact ⟨fun j h => h, fun n j h => (Nm.bad_ok h).elim⟩
  · rw [if_neg g, if_neg g]
    by_cases z : nx s i = 48
    · rw [if_pos z, if_pos z]
      refine ⟨fun j h => (Nm.bad_ok h.symm).elim, fun n j h => ?_⟩
      obtain ⟨rfl, rfl⟩ := Nm.ok_inj h
      exact ⟨fun hd => by rw [if_neg (by rw [hd]; decide)], fun hd => by rw [if_pos hd]⟩
    · rw [if_neg z, if_neg z]
      refine ⟨fun j h => h, fun n j h => ⟨fun _ => h, fun hd => ?_⟩⟩
      exfalso
      have hg : isDig (nx s i) = true := by simpa using g
      have hl : i < s.size := lt_of_nx s i (by have := (isDig_iff _).1 hg; omega)
      exact numGo_stops s _ i 0 n j (by omega) h hd

theorem evJ_of (s : ByteArray) : ∀ (h base i r : Nat), i ≤ s.size → (∀ t n j q, evR s h base i r = .ok (t, n) j q → evJ s h i = .inl j ∨ (evJ s h i = .inr j ∧ isDig (nx s j) = true)) ∧ (∀ j, evR s h base i r = .bad j → evJ s h i = .inr j) := by
  have leaf : ∀ (h base i r : Nat), nx s i ≠ 40 → evJ s h i = (match numF s i with | ⟨.inr j⟩ => .inr j | ⟨.inl (_, j)⟩ => .inl j) →
      (∀ t n j q, evR s h base i r = .ok (t, n) j q → evJ s h i = .inl j ∨ (evJ s h i = .inr j ∧ isDig (nx s j) = true)) ∧ (∀ j, evR s h base i r = .bad j → evJ s h i = .inr j) := by
    intro h base i r c0 eJ
    have P := numF_numR s i
    cases f : numR s i using Nm.cs with
    | bad k =>
      rw [evR_numbad h c0 f, eJ, P.1 k f]
      exact ⟨fun t n j q e => (Rs.bad_ok e).elim, fun j e => by injection e with e; injection e with e; rw [e]⟩
    | ok m k =>
      rw [evR_num h c0 f, eJ]
      refine ⟨fun t n j q e => ?_, fun j e => (Rs.bad_ok e.symm).elim⟩
      obtain ⟨_, rfl, _⟩ := Rs.ok_inj e
      cases hd : isDig (nx s k)
      · rw [(P.2 m k f).1 hd]; exact Or.inl rfl
      · rw [(P.2 m k f).2 hd]; exact Or.inr ⟨rfl, rfl⟩
  intro h
  induction h with
  | zero =>
    intro base i r hi
    by_cases c0 : nx s i = 40
    · rw [evR_deep c0, evJ, if_pos c0]
      exact ⟨fun t n j q e => (Rs.bad_ok e).elim, fun j e => by injection e with e; injection e with e; rw [e]⟩
    · exact leaf 0 base i r c0 (by rw [evJ, if_neg c0])
  | succ h ih =>
    intro base i r hi
    by_cases c0 : nx s i = 40
    · have li := lt_of_nx s i (by omega)
      rw [evJ, if_pos c0]
      have P := numF_numR s (i + 1)
      cases f : numR s (i + 1) using Nm.cs with
      | bad k =>
        rw [evR_bad0 c0 f, P.1 k f]
        exact ⟨fun t n j q e => (Rs.bad_ok e).elim, fun j e => by injection e with e; injection e with e; rw [e]⟩
      | ok m i1 =>
        by_cases g0 : nx s i1 = 44
        · rw [(P.2 m i1 f).1 (by rw [g0]; rfl)]
          simp only; rw [if_pos g0]
          have l1 := lt_of_nx s i1 (by omega)
          cases f1 : evR s h (base + m) (i1 + 1) r using Rs.cs with
          | bad k =>
            rw [(ih (base + m) (i1 + 1) r (by omega)).2 k f1, evR_bad2 c0 f g0 f1]
            exact ⟨fun t n j q e => (Rs.bad_ok e).elim, fun j e => by injection e with e; injection e with e; rw [e]⟩
          | ok o i2 r2 =>
            obtain ⟨l, ln⟩ := o
            have J1 := (ih (base + m) (i1 + 1) r (by omega)).1 _ _ _ _ f1
            by_cases g1 : nx s i2 = 44
            · rw [J1.resolve_right (fun h => by rw [g1] at h; exact absurd h.2 (by decide))]
              simp only; rw [if_pos g1]
              have l2 := lt_of_nx s i2 (by omega)
              cases f2 : evR s h (base + m) (i2 + 1) r2 using Rs.cs with
              | bad k =>
                rw [(ih (base + m) (i2 + 1) r2 (by omega)).2 k f2, evR_bad4 c0 f g0 f1 g1 f2]
                exact ⟨fun t n j q e => (Rs.bad_ok e).elim, fun j e => by injection e with e; injection e with e; rw [e]⟩
              | ok o i4 r4 =>
                obtain ⟨u, un⟩ := o
                have J2 := (ih (base + m) (i2 + 1) r2 (by omega)).1 _ _ _ _ f2
                by_cases g2 : nx s i4 = 41
                · rw [J2.resolve_right (fun h => by rw [g2] at h; exact absurd h.2 (by decide))]
                  simp only; rw [if_pos g2, evR_pair c0 f g0 f1 g1 f2 g2]
                  exact ⟨fun t n j q e => by obtain ⟨_, rfl, _⟩ := Rs.ok_inj e; exact Or.inl rfl, fun j e => (Rs.bad_ok e.symm).elim⟩
                · rw [evR_bad5 c0 f g0 f1 g1 f2 g2]
                  refine ⟨fun t n j q e => (Rs.bad_ok e).elim, fun j e => ?_⟩
                  injection e with e; injection e with e; subst e
                  rcases J2 with J2 | ⟨J2, _⟩
                  · rw [J2]; simp only; rw [if_neg g2]
                  · rw [J2]
            · rw [evR_bad3 c0 f g0 f1 g1]
              refine ⟨fun t n j q e => (Rs.bad_ok e).elim, fun j e => ?_⟩
              injection e with e; injection e with e; subst e
              rcases J1 with J1 | ⟨J1, _⟩
              · rw [J1]; simp only; rw [if_neg g1]
              · rw [J1]
        · rw [evR_bad1 c0 f g0]
          refine ⟨fun t n j q e => (Rs.bad_ok e).elim, fun j e => ?_⟩
          injection e with e; injection e with e; subst e
          cases hd : isDig (nx s i1)
          · rw [(P.2 m i1 f).1 hd]; simp only; rw [if_neg g0]
          · rw [(P.2 m i1 f).2 hd]
    · exact leaf (h + 1) base i r c0 (by rw [evJ, if_neg c0])

/-- What a list of symbols says from a place on: where it fails. -/
def den (s : ByteArray) : List (Nat × Nat) → Nat → Option Nat
  | [], i => if i < s.size then some i else none
  | (x, d) :: L, i =>
    if x = 105 then (match idJ s (8 - d) i with
      | .inr j => some j
      | .inl j => den s L j)
    else if x = 101 then (match evJ s (8 - d) i with
      | .inr j => some j
      | .inl j => den s L j)
    else if x = 110 then (match numF s i with
      | ⟨.inr j⟩ => some j
      | ⟨.inl (_, j)⟩ => den s L j)
    else if nx s i = x then den s L (i + 1) else some i

/-- What Fails answers. -/
def failsR (s : ByteArray) : Option Nat := den s [(105, 0), (59, 0), (101, 0)] 0

end Go.Proofs.YtoebmfhgaalcdaaGreatDoor
