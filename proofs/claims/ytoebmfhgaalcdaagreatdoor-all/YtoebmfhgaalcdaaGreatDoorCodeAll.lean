/-
  Our own. Codes, bit by bit, as plain functions: what is read of them, what is written, and that the one is the other's turn. No Go in here.
-/
import Derived.Test.YtoebmfhgaalcdaaGreatDoorTreesAll
namespace Go.Proofs.YtoebmfhgaalcdaaGreatDoor

/-- A bit of a code. -/
def bitAt (s : ByteArray) (k : Nat) : Bool := (nx s (k / 8)).testBit (7 - k % 8)

/-- What comes of reading an ID or EV of a code. -/
structure Rc (α : Type) where
  out : (α × Nat × Bool) ⊕ Nat
abbrev Rc.ok {α : Type} (a : α) (k : Nat) (r : Bool) : Rc α := ⟨.inl (a, k, r)⟩
abbrev Rc.bad {α : Type} (j : Nat) : Rc α := ⟨.inr j⟩
theorem Rc.cs {α : Type} {motive : Rc α → Prop} (ok : ∀ a k r, motive (Rc.ok a k r)) (bad : ∀ j, motive (Rc.bad j)) : ∀ o, motive o
  | ⟨.inl (a, k, r)⟩ => ok a k r
  | ⟨.inr j⟩ => bad j
theorem Rc.ok_inj {α : Type} {a b : α} {k l : Nat} {r q : Bool} (h : Rc.ok a k r = Rc.ok b l q) : a = b ∧ k = l ∧ r = q := by
  injection h with h; injection h with h; injection h with h1 h2; injection h2 with h2 h3; exact ⟨h1, h2, h3⟩
theorem Rc.bad_ok {α : Type} {a : α} {k j : Nat} {r : Bool} (h : (Rc.bad j : Rc α) = Rc.ok a k r) : False := by
  injection h with h; injection h
theorem Nm.bad_inj {i j : Nat} (h : Nm.bad i = Nm.bad j) : i = j := by
  injection h with h; injection h
theorem Rc.bad_inj {α : Type} {i j : Nat} (h : (Rc.bad i : Rc α) = Rc.bad j) : i = j := by
  injection h with h; injection h

def zerosR (s : ByteArray) : Nat → Nat → Nat → Nm
  | 0, _, _ => .bad 0
  | f + 1, k, d => if 8 * s.size ≤ k then .bad s.size else if bitAt s k = true then .ok d (k + 1) else if d = 41 then .bad (k / 8) else zerosR s f (k + 1) (d + 1)
def restR (s : ByteArray) : Nat → Nat → Nat → Nm
  | 0, k, m => .ok m k
  | f + 1, k, m => if 8 * s.size ≤ k then .bad s.size else restR s f (k + 1) (2 * m + (bitAt s k).toNat)
/-- A number. -/
def gammaR (s : ByteArray) (k : Nat) : Nm :=
  match zerosR s 41 k 1 with
  | ⟨.inr j⟩ => .bad j
  | ⟨.inl (d, k1)⟩ =>
    match restR s (d - 1) k1 1 with
    | ⟨.inr j⟩ => .bad j
    | ⟨.inl (m, k2)⟩ => if 1099511627776 < m - 1 then .bad ((k2 - 1) / 8) else .ok (m - 1) k2

def leafC (s : ByteArray) (k : Nat) (r : Bool) : Rc (Tr Bool) := if 8 * s.size ≤ k then .bad s.size else .ok (.leaf (bitAt s k)) (k + 1) r
def idC (s : ByteArray) : Nat → Nat → Bool → Rc (Tr Bool)
  | 0, k, r => if 8 * s.size ≤ k then .bad s.size else if bitAt s k = true then .bad (k / 8) else leafC s (k + 1) r
  | h + 1, k, r => if 8 * s.size ≤ k then .bad s.size else if bitAt s k = true then
      match idC s h (k + 1) r with
      | ⟨.inr j⟩ => .bad j
      | ⟨.inl (l, k1, r1)⟩ =>
        match idC s h k1 r1 with
        | ⟨.inr j⟩ => .bad j
        | ⟨.inl (t, k2, r2)⟩ => .ok (.pair l t) k2 (r2 || sameB l t)
    else leafC s (k + 1) r
def evC (s : ByteArray) : Nat → Nat → Nat → Bool → Rc (Tr Nat × Nat)
  | 0, base, k, r => if 8 * s.size ≤ k then .bad s.size else if bitAt s k = true then .bad (k / 8) else
      match gammaR s (k + 1) with
      | ⟨.inr j⟩ => .bad j
      | ⟨.inl (n, k1)⟩ => .ok (.leaf (base + n), n) k1 r
  | h + 1, base, k, r => if 8 * s.size ≤ k then .bad s.size else
      match gammaR s (k + 1) with
      | ⟨.inr j⟩ => .bad j
      | ⟨.inl (n, k1)⟩ => if bitAt s k = true then
          match evC s h (base + n) k1 r with
          | ⟨.inr j⟩ => .bad j
          | ⟨.inl ((l, ln), k2, r2)⟩ =>
            match evC s h (base + n) k2 r2 with
            | ⟨.inr j⟩ => .bad j
            | ⟨.inl ((t, tn), k3, r3)⟩ => .ok (.pair l t, n) k3 (r3 || (decide (0 < ln) && decide (0 < tn) || sameI l t))
        else .ok (.leaf (base + n), n) k1 r
def padR (s : ByteArray) : Nat → Nat → Nm
  | 0, k => .ok 0 k
  | f + 1, k => if bitAt s k = true then .bad (k / 8) else padR s f (k + 1)
def endR (s : ByteArray) (k : Nat) : Nm :=
  match padR s ((8 - k % 8) % 8) k with
  | ⟨.inr j⟩ => .bad j
  | ⟨.inl (_, k1)⟩ => if k1 / 8 < s.size then .bad (k1 / 8) else .ok 0 k1
/-- What reading a code comes to. -/
def readC (s : ByteArray) : Rd1 :=
  if 20000 < s.size then .bad 1 0 else
  match idC s 8 0 false with
  | ⟨.inr j⟩ => .bad 2 j
  | ⟨.inl (id, k1, r1)⟩ =>
    match evC s 8 0 k1 r1 with
    | ⟨.inr j⟩ => .bad 2 j
    | ⟨.inl ((ev, _), k2, r2)⟩ =>
      match endR s k2 with
      | ⟨.inr j⟩ => .bad 2 j
      | ⟨.inl _⟩ => if 1099511627776 < highest ev then .bad 7 0 else if r2 = true then .bad 3 0 else .ok id ev

/-- What is written. -/
def digitsB (x : Nat) : Nat → List Bool
  | 0 => []
  | d + 1 => x.testBit d :: digitsB x d
def gammaB (n : Nat) : List Bool := List.replicate (n + 1).log2 false ++ true :: digitsB (n + 1) (n + 1).log2
def wid : Tr Bool → List Bool
  | ⟨.inl a⟩ => [false, a]
  | ⟨.inr (l, r)⟩ => true :: (wid l ++ wid r)
def wev : Tr Nat → Nat → List Bool
  | ⟨.inl a⟩, base => false :: gammaB (a - base)
  | ⟨.inr (l, r)⟩, base => true :: (gammaB (min (lowest l) (lowest r) - base) ++ (wev l (min (lowest l) (lowest r)) ++ wev r (min (lowest l) (lowest r))))
def wbits (id : Tr Bool) (ev : Tr Nat) : List Bool := wid id ++ wev ev 0

theorem digitsB_len (x : Nat) : ∀ d, (digitsB x d).length = d
  | 0 => rfl
  | d + 1 => by rw [digitsB, List.length_cons, digitsB_len x d]

/-- As far as the code goes, its bits from k on are these. -/
def preB (s : ByteArray) : Nat → List Bool → Prop
  | _, [] => True
  | k, b :: l => k < 8 * s.size → bitAt s k = b ∧ preB s (k + 1) l
theorem preB_out (s : ByteArray) (k : Nat) (l : List Bool) (h : 8 * s.size ≤ k) : preB s k l := by
  cases l with
  | nil => trivial
  | cons b l => intro h2; omega
theorem preB_append (s : ByteArray) : ∀ (a : List Bool) (b : List Bool) (k : Nat), preB s k (a ++ b) ↔ preB s k a ∧ preB s (k + a.length) b
  | [], b, k => by simp [preB]
  | x :: a, b, k => by
    rw [List.cons_append, List.length_cons]
    by_cases hk : k < 8 * s.size
    · have IH := preB_append s a b (k + 1)
      simp only [preB]
      rw [show k + (a.length + 1) = k + 1 + a.length by omega]
      constructor
      · intro h; obtain ⟨h1, h2⟩ := h hk; rw [IH] at h2; exact ⟨fun _ => ⟨h1, h2.1⟩, h2.2⟩
      · rintro ⟨h1, h2⟩ _; exact ⟨(h1 hk).1, IH.2 ⟨(h1 hk).2, h2⟩⟩
    · exact ⟨fun _ => ⟨preB_out _ _ _ (by omega), preB_out _ _ _ (by omega)⟩, fun _ => preB_out _ _ _ (by omega)⟩

theorem zerosR_reads (s : ByteArray) : ∀ (z k d f : Nat), preB s k (List.replicate z false ++ [true]) → d + z ≤ 41 → z < f →
    zerosR s f k d = if k + z + 1 ≤ 8 * s.size then .ok (d + z) (k + z + 1) else .bad s.size := by
  intro z
  induction z with
  | zero =>
    intro k d f hp hd hf
    cases f with
    | zero => omega
    | succ f =>
      rw [zerosR]
      by_cases hk : 8 * s.size ≤ k
      · rw [if_pos hk, if_neg (by omega)]
      · have h1 := (hp (by omega)).1
        rw [if_neg hk, if_pos h1, if_pos (by omega)]; rfl
  | succ z ih =>
    intro k d f hp hd hf
    cases f with
    | zero => omega
    | succ f =>
      rw [zerosR]
      by_cases hk : 8 * s.size ≤ k
      · rw [if_pos hk, if_neg (by omega)]
      · rw [List.replicate_succ, List.cons_append] at hp
        obtain ⟨h1, h2⟩ := hp (by omega)
        rw [if_neg hk, if_neg (by rw [h1]; exact Bool.false_ne_true), if_neg (by omega), ih (k + 1) (d + 1) f h2 (by omega) (by omega)]
        rw [show k + 1 + z + 1 = k + (z + 1) + 1 by omega, show d + 1 + z = d + (z + 1) by omega]
theorem restR_reads (s : ByteArray) (x : Nat) : ∀ (d k m : Nat), preB s k (digitsB x d) → k ≤ 8 * s.size →
    restR s d k m = if k + d ≤ 8 * s.size then .ok (m * 2 ^ d + x % 2 ^ d) (k + d) else .bad s.size := by
  intro d
  induction d with
  | zero => intro k m _ hk; rw [restR, if_pos (by omega)]; simp [Nat.mod_one]
  | succ d ih =>
    intro k m hp hk
    rw [restR]
    by_cases h : 8 * s.size ≤ k
    · rw [if_pos h, if_neg (by omega)]
    · obtain ⟨h1, h2⟩ := hp (by omega)
      rw [if_neg h, ih (k + 1) _ h2 (by omega), h1, show k + 1 + d = k + (d + 1) by omega]
      congr 2
      rw [Nat.pow_succ, Nat.mod_mul, Nat.toNat_testBit, Nat.add_mul, Nat.mul_comm (2 ^ d) (x / 2 ^ d % 2)]
      have : 2 * m * 2 ^ d = m * (2 ^ d * 2) := by rw [Nat.mul_comm 2 m, Nat.mul_assoc, Nat.mul_comm 2]
      omega

theorem log_bounds (n : Nat) (h : n ≤ 1099511627776) : (n + 1).log2 ≤ 40 ∧ 2 ^ (n + 1).log2 ≤ n + 1 ∧ n + 1 < 2 ^ ((n + 1).log2 + 1) := by
  refine ⟨?_, Nat.log2_self_le (by omega), Nat.lt_log2_self⟩
  have : (n + 1).log2 < 41 := (Nat.log2_lt (by omega)).2 (by omega)
  omega
theorem gammaB_len (n : Nat) : (gammaB n).length = 2 * (n + 1).log2 + 1 := by
  rw [gammaB, List.length_append, List.length_cons, List.length_replicate, digitsB_len]; omega
theorem gammaR_reads (s : ByteArray) (k n : Nat) (hp : preB s k (gammaB n)) (hn : n ≤ 1099511627776) :
    gammaR s k = if k + (gammaB n).length ≤ 8 * s.size then .ok n (k + (gammaB n).length) else .bad s.size := by
  obtain ⟨b1, b2, b3⟩ := log_bounds n hn
  have e : gammaB n = (List.replicate (n + 1).log2 false ++ [true]) ++ digitsB (n + 1) (n + 1).log2 := by rw [gammaB]; simp
  rw [e, preB_append] at hp
  obtain ⟨h1, h2⟩ := hp
  rw [List.length_append, List.length_replicate, List.length_singleton] at h2
  rw [gammaB_len]
  generalize (n + 1).log2 = d at *
  rw [gammaR, zerosR_reads s d k 1 41 h1 (by omega) (by omega)]
  by_cases hk : k + d + 1 ≤ 8 * s.size
  · rw [if_pos hk]
    show (match restR s (1 + d - 1) (k + d + 1) 1 with
      | ⟨.inr j⟩ => Nm.bad j
      | ⟨.inl (m, k2)⟩ => if 1099511627776 < m - 1 then .bad ((k2 - 1) / 8) else .ok (m - 1) k2) = _
    rw [show 1 + d - 1 = d by omega, restR_reads s (n + 1) d (k + d + 1) 1 (by rw [show k + d + 1 = k + (d + 1) by omega]; exact h2) hk]
    rw [show k + d + 1 + d = k + (2 * d + 1) by omega]
    by_cases hk2 : k + (2 * d + 1) ≤ 8 * s.size
    · rw [if_pos hk2, if_pos hk2]
      have em : 1 * 2 ^ d + (n + 1) % 2 ^ d = n + 1 := by
        have hq : (n + 1) / 2 ^ d = 1 := by
          rw [Nat.pow_succ] at b3
          have : (n + 1) / 2 ^ d < 2 := by rw [Nat.div_lt_iff_lt_mul (by omega)]; omega
          have : 1 ≤ (n + 1) / 2 ^ d := by rw [Nat.le_div_iff_mul_le (by omega)]; omega
          omega
        have := Nat.div_add_mod (n + 1) (2 ^ d)
        rw [hq] at this
        omega
      rw [em]
      show (if 1099511627776 < n + 1 - 1 then Nm.bad _ else .ok (n + 1 - 1) (k + (2 * d + 1))) = _
      rw [if_neg (by omega), show n + 1 - 1 = n by omega]
    · rw [if_neg hk2, if_neg hk2]
  · rw [if_neg hk, if_neg (by omega)]

theorem wid_len (t : Tr Bool) : 2 ≤ (wid t).length := by
  induction t using Tr.ind with
  | leaf a => show 2 ≤ [false, a].length; simp
  | pair l r ihl _ => show 2 ≤ (true :: (wid l ++ wid r)).length; rw [List.length_cons, List.length_append]; omega

theorem leafC_reads (s : ByteArray) (a : Bool) (k : Nat) (r : Bool) (hp : preB s k [a]) : leafC s k r = if k + 1 ≤ 8 * s.size then .ok (.leaf a) (k + 1) r else .bad s.size := by
  rw [leafC]
  by_cases hk : 8 * s.size ≤ k
  · rw [if_pos hk, if_neg (by omega)]
  · rw [if_neg hk, if_pos (by omega), (hp (by omega)).1]
theorem idC_end {s : ByteArray} {k : Nat} {r : Bool} (h : Nat) (hk : 8 * s.size ≤ k) : idC s h k r = .bad s.size := by
  cases h <;> rw [idC, if_pos hk]
theorem idC_leaf {s : ByteArray} {k : Nat} {r : Bool} (h : Nat) (hk : ¬ 8 * s.size ≤ k) (hb : bitAt s k = false) : idC s h k r = leafC s (k + 1) r := by
  cases h <;> rw [idC, if_neg hk, if_neg (by rw [hb]; exact Bool.false_ne_true)]
theorem idC_reads (s : ByteArray) (t : Tr Bool) : ∀ (h k : Nat) (r : Bool), preB s k (wid t) → deepT t ≤ h → plainT t →
    idC s h k r = if k + (wid t).length ≤ 8 * s.size then .ok t (k + (wid t).length) r else .bad s.size := by
  induction t using Tr.ind with
  | leaf a =>
    intro h k r hp _ _
    have hp : preB s k [false, a] := hp
    show _ = if k + 2 ≤ 8 * s.size then Rc.ok _ (k + 2) r else _
    by_cases hk : 8 * s.size ≤ k
    · rw [idC_end h hk, if_neg (by omega)]
    · obtain ⟨h1, h2⟩ := hp (by omega)
      rw [idC_leaf h hk h1, leafC_reads s a (k + 1) r h2]
  | pair l q ihl ihr =>
    intro h k r hp hd hpl
    have hd : max (deepT l) (deepT q) + 1 ≤ h := hd
    cases h with
    | zero => omega
    | succ h =>
      have hp : preB s k (true :: (wid l ++ wid q)) := hp
      have el : (wid (.pair l q)).length = 1 + (wid l).length + (wid q).length := by show (true :: (wid l ++ wid q)).length = _; rw [List.length_cons, List.length_append]; omega
      rw [el, idC]
      by_cases hk : 8 * s.size ≤ k
      · rw [if_pos hk, if_neg (by omega)]
      · obtain ⟨h1, h2⟩ := hp (by omega)
        rw [preB_append] at h2
        rw [if_neg hk, if_pos h1, ihl h (k + 1) r h2.1 (by omega) hpl.2.1]
        by_cases g : k + 1 + (wid l).length ≤ 8 * s.size
        · rw [if_pos g]
          show (match idC s h (k + 1 + (wid l).length) r with
            | ⟨.inr j⟩ => (Rc.bad j : Rc (Tr Bool))
            | ⟨.inl (t, k2, r2)⟩ => Rc.ok (Tr.pair l t) k2 (r2 || sameB l t)) = _
          rw [ihr h _ r h2.2 (by omega) hpl.2.2, show k + 1 + (wid l).length + (wid q).length = k + (1 + (wid l).length + (wid q).length) by omega]
          by_cases g2 : k + (1 + (wid l).length + (wid q).length) ≤ 8 * s.size
          · rw [if_pos g2, if_pos g2]
            show Rc.ok _ _ (r || sameB l q) = _
            rw [sameB_same, hpl.1, Bool.or_false]
          · rw [if_neg g2, if_neg g2]
        · rw [if_neg g, if_neg (by omega)]

theorem sameI_no {l q : Tr Nat} (h : plainT (Tr.pair l q)) : (decide (0 < lowest l - min (lowest l) (lowest q)) && decide (0 < lowest q - min (lowest l) (lowest q)) || sameI l q) = false := by
  rw [sameI_same, h.1, Bool.or_false, Bool.and_eq_false_iff]
  simp only [decide_eq_false_iff_not]
  omega
theorem evC_reads (s : ByteArray) (t : Tr Nat) : ∀ (h base k : Nat) (r : Bool), preB s k (wev t base) → deepT t ≤ h → plainT t → base ≤ lowest t → highest t ≤ 1099511627776 →
    evC s h base k r = if k + (wev t base).length ≤ 8 * s.size then .ok (t, lowest t - base) (k + (wev t base).length) r else .bad s.size := by
  induction t using Tr.ind with
  | leaf a =>
    intro h base k r hp _ _ hb hh
    have hb : base ≤ a := hb
    have hh : a ≤ 1099511627776 := hh
    have hp : preB s k (false :: gammaB (a - base)) := hp
    have el : (wev (.leaf a) base).length = 1 + (gammaB (a - base)).length := by show (false :: gammaB (a - base)).length = _; rw [List.length_cons]; omega
    rw [el]
    by_cases hk : 8 * s.size ≤ k
    · rw [if_neg (by omega)]
      cases h <;> rw [evC, if_pos hk]
    · obtain ⟨h1, h2⟩ := hp (by omega)
      have G := gammaR_reads s (k + 1) (a - base) h2 (by omega)
      rw [show k + 1 + (gammaB (a - base)).length = k + (1 + (gammaB (a - base)).length) by omega] at G
      show _ = if _ then Rc.ok (Tr.leaf a, a - base) _ r else _
      by_cases g : k + (1 + (gammaB (a - base)).length) ≤ 8 * s.size
      · rw [if_pos g] at G
        rw [if_pos g]
        cases h with
        | zero => rw [evC, if_neg hk, if_neg (by rw [h1]; exact Bool.false_ne_true)]; simp only [G]; rw [show base + (a - base) = a by omega]
        | succ h =>
          rw [evC, if_neg hk]; simp only [G]; rw [if_neg (by rw [h1]; exact Bool.false_ne_true), show base + (a - base) = a by omega]
      · rw [if_neg g] at G
        rw [if_neg g]
        cases h with
        | zero => rw [evC, if_neg hk, if_neg (by rw [h1]; exact Bool.false_ne_true)]; simp only [G]
        | succ h => rw [evC, if_neg hk]; simp only [G]
  | pair l q ihl ihr =>
    intro h base k r hp hd hpl hb hh
    have hd : max (deepT l) (deepT q) + 1 ≤ h := hd
    have hb : base ≤ min (lowest l) (lowest q) := hb
    have hh : max (highest l) (highest q) ≤ 1099511627776 := hh
    have hlow := low_high l
    have hrough := sameI_no hpl
    show evC s h base k r = if _ then Rc.ok (Tr.pair l q, min (lowest l) (lowest q) - base) _ r else _
    have hp : preB s k (true :: (gammaB (min (lowest l) (lowest q) - base) ++ (wev l (min (lowest l) (lowest q)) ++ wev q (min (lowest l) (lowest q))))) := hp
    have el : (wev (.pair l q) base).length = 1 + (gammaB (min (lowest l) (lowest q) - base)).length + (wev l (min (lowest l) (lowest q))).length + (wev q (min (lowest l) (lowest q))).length := by
      show (true :: (gammaB (min (lowest l) (lowest q) - base) ++ (wev l (min (lowest l) (lowest q)) ++ wev q (min (lowest l) (lowest q))))).length = _
      rw [List.length_cons, List.length_append, List.length_append]; omega
    rw [el]
    have m1 := Nat.min_le_left (lowest l) (lowest q)
    have m2 := Nat.min_le_right (lowest l) (lowest q)
    generalize min (lowest l) (lowest q) = m at *
    cases h with
    | zero => omega
    | succ h =>
      rw [evC]
      by_cases hk : 8 * s.size ≤ k
      · rw [if_pos hk, if_neg (by omega)]
      · obtain ⟨h1, h2⟩ := hp (by omega)
        rw [preB_append, preB_append] at h2
        obtain ⟨h2, h3, h4⟩ := h2
        rw [if_neg hk, gammaR_reads s (k + 1) (m - base) h2 (by omega)]
        by_cases g : k + 1 + (gammaB (m - base)).length ≤ 8 * s.size
        · rw [if_pos g]
          simp only []
          rw [if_pos h1, show base + (m - base) = m by omega, ihl h m _ r h3 (by omega) hpl.2.1 m1 (by omega)]
          by_cases g2 : k + 1 + (gammaB (m - base)).length + (wev l m).length ≤ 8 * s.size
          · rw [if_pos g2]
            simp only []
            rw [ihr h m _ r h4 (by omega) hpl.2.2 m2 (by omega), show k + 1 + (gammaB (m - base)).length + (wev l m).length + (wev q m).length = k + (1 + (gammaB (m - base)).length + (wev l m).length + (wev q m).length) by omega]
            by_cases g3 : k + (1 + (gammaB (m - base)).length + (wev l m).length + (wev q m).length) ≤ 8 * s.size
            · rw [if_pos g3, if_pos g3]
              show Rc.ok _ _ (r || _) = _
              rw [hrough, Bool.or_false]
            · rw [if_neg g3, if_neg g3]
          · rw [if_neg g2, if_neg (by omega)]
        · rw [if_neg g, if_neg (by omega)]

end Go.Proofs.YtoebmfhgaalcdaaGreatDoor

namespace Go.Proofs.YtoebmfhgaalcdaaGreatDoor

/-- These bits lie there, all of them. -/
def hasB (s : ByteArray) (k : Nat) (l : List Bool) : Prop := preB s k l ∧ k + l.length ≤ 8 * s.size
theorem hasB_append {s : ByteArray} {k : Nat} {a b : List Bool} (h : hasB s k a) (g : hasB s (k + a.length) b) : hasB s k (a ++ b) :=
  ⟨(preB_append s a b k).2 ⟨h.1, g.1⟩, by rw [List.length_append]; have := g.2; omega⟩
theorem hasB_cons {s : ByteArray} {k : Nat} {b : Bool} {l : List Bool} (h : bitAt s k = b) (g : hasB s (k + 1) l) : hasB s k (b :: l) :=
  ⟨fun _ => ⟨h, g.1⟩, by rw [List.length_cons]; have := g.2; omega⟩
theorem hasB_nil {s : ByteArray} {k : Nat} (h : k ≤ 8 * s.size) : hasB s k [] := ⟨trivial, h⟩

theorem zerosR_ok (s : ByteArray) : ∀ (f k d d' k' : Nat), d ≤ 41 → zerosR s f k d = .ok d' k' → d ≤ d' ∧ d' ≤ 41 ∧ k' = k + (d' - d) + 1 ∧ hasB s k (List.replicate (d' - d) false ++ [true]) := by
  intro f
  induction f with
  | zero => intro k d d' k' _ h; rw [zerosR] at h; exact (Nm.bad_ok h).elim
  | succ f ih =>
    intro k d d' k' hd h
    rw [zerosR] at h
    by_cases hk : 8 * s.size ≤ k
    · rw [if_pos hk] at h; exact (Nm.bad_ok h).elim
    · rw [if_neg hk] at h
      by_cases hb : bitAt s k = true
      · rw [if_pos hb] at h
        obtain ⟨rfl, rfl⟩ := Nm.ok_inj h
        rw [Nat.sub_self]
        exact ⟨Nat.le_refl _, hd, by omega, hasB_cons hb (hasB_nil (by omega))⟩
      · rw [if_neg hb] at h
        by_cases h41 : d = 41
        · rw [if_pos h41] at h; exact (Nm.bad_ok h).elim
        · rw [if_neg h41] at h
          obtain ⟨g1, g2, g3, g4⟩ := ih (k + 1) (d + 1) d' k' (by omega) h
          refine ⟨by omega, g2, by omega, ?_⟩
          rw [show d' - d = d' - (d + 1) + 1 by omega, List.replicate_succ, List.cons_append]
          exact hasB_cons (by simpa using hb) g4
theorem zerosR_bad (s : ByteArray) : ∀ (f k d j : Nat), zerosR s f k d = .bad j → j ≤ s.size := by
  intro f
  induction f with
  | zero => intro k d j h; rw [zerosR] at h; have := Nm.bad_inj h; omega
  | succ f ih =>
    intro k d j h
    rw [zerosR] at h
    by_cases hk : 8 * s.size ≤ k
    · rw [if_pos hk] at h; have := Nm.bad_inj h; omega
    · rw [if_neg hk] at h
      by_cases hb : bitAt s k = true
      · rw [if_pos hb] at h; injection h with h; injection h
      · rw [if_neg hb] at h
        by_cases h41 : d = 41
        · rw [if_pos h41] at h; have := Nm.bad_inj h; omega
        · rw [if_neg h41] at h; exact ih _ _ _ h
theorem restR_ok (s : ByteArray) : ∀ (f k m m' k' : Nat), k ≤ 8 * s.size → restR s f k m = .ok m' k' → k' = k + f ∧ m' / 2 ^ f = m ∧ hasB s k (digitsB m' f) := by
  intro f
  induction f with
  | zero =>
    intro k m m' k' hk h
    rw [restR] at h
    obtain ⟨rfl, rfl⟩ := Nm.ok_inj h
    exact ⟨rfl, by simp, hasB_nil hk⟩
  | succ f ih =>
    intro k m m' k' hk h
    rw [restR] at h
    by_cases hs : 8 * s.size ≤ k
    · rw [if_pos hs] at h; exact (Nm.bad_ok h).elim
    · rw [if_neg hs] at h
      obtain ⟨g1, g2, g3⟩ := ih (k + 1) _ m' k' (by omega) h
      have ht : (bitAt s k).toNat ≤ 1 := by cases bitAt s k <;> decide
      refine ⟨by omega, ?_, ?_⟩
      · rw [Nat.pow_succ, ← Nat.div_div_eq_div_mul, g2]; omega
      · refine hasB_cons ?_ g3
        rw [Nat.testBit_eq_decide_div_mod_eq, g2]
        cases bitAt s k
        · simp
        · simp
theorem restR_bad (s : ByteArray) : ∀ (f k m j : Nat), restR s f k m = .bad j → j ≤ s.size := by
  intro f
  induction f with
  | zero => intro k m j h; rw [restR] at h; injection h with h; injection h
  | succ f ih =>
    intro k m j h
    rw [restR] at h
    by_cases hs : 8 * s.size ≤ k
    · rw [if_pos hs] at h; have := Nm.bad_inj h; omega
    · rw [if_neg hs] at h; exact ih _ _ _ h

theorem gammaR_bad1 {s : ByteArray} {k j : Nat} (h : zerosR s 41 k 1 = .bad j) : gammaR s k = .bad j := by rw [gammaR, h]
theorem gammaR_bad2 {s : ByteArray} {k j d k1 : Nat} (h : zerosR s 41 k 1 = .ok d k1) (g : restR s (d - 1) k1 1 = .bad j) : gammaR s k = .bad j := by rw [gammaR, h]; simp only []; rw [g]
theorem gammaR_bad3 {s : ByteArray} {k d k1 m k2 : Nat} (h : zerosR s 41 k 1 = .ok d k1) (g : restR s (d - 1) k1 1 = .ok m k2) (l : 1099511627776 < m - 1) : gammaR s k = .bad ((k2 - 1) / 8) := by rw [gammaR, h]; simp only []; rw [g]; simp only []; rw [if_pos l]
theorem gammaR_good {s : ByteArray} {k d k1 m k2 : Nat} (h : zerosR s 41 k 1 = .ok d k1) (g : restR s (d - 1) k1 1 = .ok m k2) (l : ¬ 1099511627776 < m - 1) : gammaR s k = .ok (m - 1) k2 := by rw [gammaR, h]; simp only []; rw [g]; simp only []; rw [if_neg l]

theorem gammaR_ok {s : ByteArray} {k n k' : Nat} (h : gammaR s k = .ok n k') : n ≤ 1099511627776 ∧ k' = k + (gammaB n).length ∧ hasB s k (gammaB n) := by
  cases f : zerosR s 41 k 1 using Nm.cs with
  | bad j => rw [gammaR_bad1 f] at h; exact (Nm.bad_ok h).elim
  | ok d k1 =>
    obtain ⟨z1, z2, z3, z4⟩ := zerosR_ok s 41 k 1 d k1 (by omega) f
    have hk1 : k1 ≤ 8 * s.size := by have := z4.2; rw [List.length_append, List.length_replicate, List.length_singleton] at this; omega
    cases g : restR s (d - 1) k1 1 using Nm.cs with
    | bad j => rw [gammaR_bad2 f g] at h; exact (Nm.bad_ok h).elim
    | ok m k2 =>
      obtain ⟨r1, r2, r3⟩ := restR_ok s (d - 1) k1 1 m k2 hk1 g
      by_cases l : 1099511627776 < m - 1
      · rw [gammaR_bad3 f g l] at h; exact (Nm.bad_ok h).elim
      · rw [gammaR_good f g l] at h
        obtain ⟨rfl, rfl⟩ := Nm.ok_inj h
        have hp : 0 < 2 ^ (d - 1) := Nat.two_pow_pos _
        have m1 : 2 ^ (d - 1) ≤ m := by
          have := Nat.div_mul_le_self m (2 ^ (d - 1)); rw [r2] at this; omega
        have m2 : m < 2 ^ (d - 1 + 1) := by
          have := Nat.lt_div_mul_add (a := m) hp; rw [r2] at this; rw [Nat.pow_succ]; omega
        have em : m - 1 + 1 = m := by omega
        have el : (m - 1 + 1).log2 = d - 1 := by rw [em, Nat.log2_eq_iff (by omega)]; exact ⟨m1, m2⟩
        refine ⟨by omega, ?_, ?_⟩
        · rw [gammaB_len, el]; omega
        · rw [gammaB, el, em, List.append_cons]
          refine hasB_append z4 ?_
          rw [List.length_append, List.length_replicate, List.length_singleton, show k + (d - 1 + 1) = k1 by omega]
          exact r3
theorem gammaR_bad {s : ByteArray} {k j : Nat} (h : gammaR s k = .bad j) : j ≤ s.size := by
  cases f : zerosR s 41 k 1 using Nm.cs with
  | bad i => rw [gammaR_bad1 f] at h; have := Nm.bad_inj h; have := zerosR_bad _ _ _ _ _ f; omega
  | ok d k1 =>
    obtain ⟨z1, z2, z3, z4⟩ := zerosR_ok s 41 k 1 d k1 (by omega) f
    have hk1 : k1 ≤ 8 * s.size := by have := z4.2; rw [List.length_append, List.length_replicate, List.length_singleton] at this; omega
    cases g : restR s (d - 1) k1 1 using Nm.cs with
    | bad i => rw [gammaR_bad2 f g] at h; have := Nm.bad_inj h; have := restR_bad _ _ _ _ _ g; omega
    | ok m k2 =>
      obtain ⟨r1, r2, r3⟩ := restR_ok s (d - 1) k1 1 m k2 hk1 g
      have := r3.2
      rw [digitsB_len] at this
      by_cases l : 1099511627776 < m - 1
      · rw [gammaR_bad3 f g l] at h; have := Nm.bad_inj h; omega
      · rw [gammaR_good f g l] at h; injection h with h; injection h

section
variable {s : ByteArray} {h k k1 k2 j : Nat} {r r1 r2 : Bool} {l t : Tr Bool}
theorem idC_deep (hk : ¬ 8 * s.size ≤ k) (hb : bitAt s k = true) : idC s 0 k r = .bad (k / 8) := by rw [idC, if_neg hk, if_pos hb]
theorem idC_bad1 (hk : ¬ 8 * s.size ≤ k) (hb : bitAt s k = true) (f : idC s h (k + 1) r = .bad j) : idC s (h + 1) k r = .bad j := by rw [idC, if_neg hk, if_pos hb, f]
theorem idC_bad2 (hk : ¬ 8 * s.size ≤ k) (hb : bitAt s k = true) (f : idC s h (k + 1) r = .ok l k1 r1) (g : idC s h k1 r1 = .bad j) : idC s (h + 1) k r = .bad j := by rw [idC, if_neg hk, if_pos hb, f]; simp only []; rw [g]
theorem idC_pair (hk : ¬ 8 * s.size ≤ k) (hb : bitAt s k = true) (f : idC s h (k + 1) r = .ok l k1 r1) (g : idC s h k1 r1 = .ok t k2 r2) : idC s (h + 1) k r = .ok (.pair l t) k2 (r2 || sameB l t) := by rw [idC, if_neg hk, if_pos hb, f]; simp only []; rw [g]
end

theorem leafC_ok {s : ByteArray} {k k' : Nat} {r r' : Bool} {t : Tr Bool} (h : leafC s k r = .ok t k' r') : k < 8 * s.size ∧ k' = k + 1 ∧ r' = r ∧ t = .leaf (bitAt s k) := by
  rw [leafC] at h
  by_cases hk : 8 * s.size ≤ k
  · rw [if_pos hk] at h; exact (Rc.bad_ok h).elim
  · rw [if_neg hk] at h
    obtain ⟨rfl, rfl, rfl⟩ := Rc.ok_inj h
    exact ⟨by omega, rfl, rfl, rfl⟩
theorem leafC_bad {s : ByteArray} {k j : Nat} {r : Bool} (h : leafC s k r = .bad j) : j ≤ s.size := by
  rw [leafC] at h
  by_cases hk : 8 * s.size ≤ k
  · rw [if_pos hk] at h; have := Rc.bad_inj h; omega
  · rw [if_neg hk] at h; injection h with h; injection h

theorem idC_bad (s : ByteArray) : ∀ (h k : Nat) (r : Bool) (j : Nat), idC s h k r = .bad j → j ≤ s.size := by
  intro h
  induction h with
  | zero =>
    intro k r j e
    by_cases hk : 8 * s.size ≤ k
    · rw [idC_end 0 hk] at e; have := Rc.bad_inj e; omega
    · cases hb : bitAt s k with
      | true => rw [idC_deep hk hb] at e; have := Rc.bad_inj e; omega
      | false => rw [idC_leaf 0 hk hb] at e; exact leafC_bad e
  | succ h ih =>
    intro k r j e
    by_cases hk : 8 * s.size ≤ k
    · rw [idC_end _ hk] at e; have := Rc.bad_inj e; omega
    · cases hb : bitAt s k with
      | true =>
        cases f : idC s h (k + 1) r using Rc.cs with
        | bad i => rw [idC_bad1 hk hb f] at e; rw [← Rc.bad_inj e]; exact ih _ _ _ f
        | ok l k1 r1 =>
          cases g : idC s h k1 r1 using Rc.cs with
          | bad i => rw [idC_bad2 hk hb f g] at e; rw [← Rc.bad_inj e]; exact ih _ _ _ g
          | ok t k2 r2 => rw [idC_pair hk hb f g] at e; injection e with e; injection e
      | false => rw [idC_leaf _ hk hb] at e; exact leafC_bad e

theorem idC_ok (s : ByteArray) : ∀ (h k : Nat) (r : Bool) (t : Tr Bool) (k' : Nat) (r' : Bool), idC s h k r = .ok t k' r' →
    k' = k + (wid t).length ∧ hasB s k (wid t) ∧ deepT t ≤ h ∧ (r' = false → r = false ∧ plainT t) := by
  have LF : ∀ (h k : Nat) (r : Bool) (t : Tr Bool) (k' : Nat) (r' : Bool), bitAt s k = false → leafC s (k + 1) r = .ok t k' r' →
      k' = k + (wid t).length ∧ hasB s k (wid t) ∧ deepT t ≤ h ∧ (r' = false → r = false ∧ plainT t) := by
    intro h k r t k' r' hb e
    obtain ⟨e1, e2, rfl, rfl⟩ := leafC_ok e
    exact ⟨e2, hasB_cons hb (hasB_cons rfl (hasB_nil (by omega))), Nat.zero_le _, fun e => ⟨e, trivial⟩⟩
  intro h
  induction h with
  | zero =>
    intro k r t k' r' e
    by_cases hk : 8 * s.size ≤ k
    · rw [idC_end 0 hk] at e; exact (Rc.bad_ok e).elim
    · cases hb : bitAt s k with
      | true => rw [idC_deep hk hb] at e; exact (Rc.bad_ok e).elim
      | false => rw [idC_leaf 0 hk hb] at e; exact LF 0 k r t k' r' hb e
  | succ h ih =>
    intro k r t k' r' e
    by_cases hk : 8 * s.size ≤ k
    · rw [idC_end _ hk] at e; exact (Rc.bad_ok e).elim
    · cases hb : bitAt s k with
      | false => rw [idC_leaf _ hk hb] at e; exact LF _ k r t k' r' hb e
      | true =>
        cases f : idC s h (k + 1) r using Rc.cs with
        | bad i => rw [idC_bad1 hk hb f] at e; exact (Rc.bad_ok e).elim
        | ok l k1 r1 =>
          cases g : idC s h k1 r1 using Rc.cs with
          | bad i => rw [idC_bad2 hk hb f g] at e; exact (Rc.bad_ok e).elim
          | ok q k2 r2 =>
            rw [idC_pair hk hb f g] at e
            obtain ⟨rfl, rfl, rfl⟩ := Rc.ok_inj e
            obtain ⟨a1, a2, a3, a4⟩ := ih _ _ _ _ _ f
            obtain ⟨b1, b2, b3, b4⟩ := ih _ _ _ _ _ g
            have el : (wid (.pair l q)).length = 1 + (wid l).length + (wid q).length := by show (true :: (wid l ++ wid q)).length = _; rw [List.length_cons, List.length_append]; omega
            refine ⟨by omega, ?_, ?_, ?_⟩
            · show hasB s k (true :: (wid l ++ wid q))
              refine hasB_cons hb (hasB_append a2 ?_)
              rw [← a1]; exact b2
            · show max (deepT l) (deepT q) + 1 ≤ h + 1; omega
            · intro e
              rw [Bool.or_eq_false_iff] at e
              obtain ⟨c1, c2⟩ := b4 e.1
              obtain ⟨d1, d2⟩ := a4 c1
              exact ⟨d1, by rw [← sameB_same]; exact e.2, d2, c2⟩

section
variable {s : ByteArray} {h base n k k1 k2 k3 j ln tn : Nat} {r r2 r3 : Bool} {l t : Tr Nat}
theorem evC_end (h : Nat) (hk : 8 * s.size ≤ k) : evC s h base k r = .bad s.size := by cases h <;> rw [evC, if_pos hk]
theorem evC_deep (hk : ¬ 8 * s.size ≤ k) (hb : bitAt s k = true) : evC s 0 base k r = .bad (k / 8) := by rw [evC, if_neg hk, if_pos hb]
theorem evC_num0 (h : Nat) (hk : ¬ 8 * s.size ≤ k) (hb : bitAt s k = false) (f : gammaR s (k + 1) = .bad j) : evC s h base k r = .bad j := by
  cases h with
  | zero => rw [evC, if_neg hk, if_neg (by rw [hb]; exact Bool.false_ne_true), f]
  | succ h => rw [evC, if_neg hk, f]
theorem evC_num (h : Nat) (hk : ¬ 8 * s.size ≤ k) (hb : bitAt s k = false) (f : gammaR s (k + 1) = .ok n k1) : evC s h base k r = .ok (.leaf (base + n), n) k1 r := by
  cases h with
  | zero => rw [evC, if_neg hk, if_neg (by rw [hb]; exact Bool.false_ne_true), f]
  | succ h => rw [evC, if_neg hk, f]; simp only []; rw [if_neg (by rw [hb]; exact Bool.false_ne_true)]
theorem evC_bad0 (hk : ¬ 8 * s.size ≤ k) (f : gammaR s (k + 1) = .bad j) : evC s (h + 1) base k r = .bad j := by rw [evC, if_neg hk, f]
theorem evC_bad1 (hk : ¬ 8 * s.size ≤ k) (hb : bitAt s k = true) (f : gammaR s (k + 1) = .ok n k1) (g : evC s h (base + n) k1 r = .bad j) : evC s (h + 1) base k r = .bad j := by
  rw [evC, if_neg hk, f]; simp only []; rw [if_pos hb, g]
theorem evC_bad2 (hk : ¬ 8 * s.size ≤ k) (hb : bitAt s k = true) (f : gammaR s (k + 1) = .ok n k1) (g : evC s h (base + n) k1 r = .ok (l, ln) k2 r2) (g2 : evC s h (base + n) k2 r2 = .bad j) : evC s (h + 1) base k r = .bad j := by
  rw [evC, if_neg hk, f]; simp only []; rw [if_pos hb, g]; simp only []; rw [g2]
theorem evC_pair (hk : ¬ 8 * s.size ≤ k) (hb : bitAt s k = true) (f : gammaR s (k + 1) = .ok n k1) (g : evC s h (base + n) k1 r = .ok (l, ln) k2 r2) (g2 : evC s h (base + n) k2 r2 = .ok (t, tn) k3 r3) :
    evC s (h + 1) base k r = .ok (.pair l t, n) k3 (r3 || (decide (0 < ln) && decide (0 < tn) || sameI l t)) := by
  rw [evC, if_neg hk, f]; simp only []; rw [if_pos hb, g]; simp only []; rw [g2]
end

theorem evC_bad (s : ByteArray) : ∀ (h base k : Nat) (r : Bool) (j : Nat), evC s h base k r = .bad j → j ≤ s.size := by
  intro h
  induction h with
  | zero =>
    intro base k r j e
    by_cases hk : 8 * s.size ≤ k
    · rw [evC_end 0 hk] at e; have := Rc.bad_inj e; omega
    · cases hb : bitAt s k with
      | true => rw [evC_deep hk hb] at e; have := Rc.bad_inj e; omega
      | false =>
        cases f : gammaR s (k + 1) using Nm.cs with
        | bad i => rw [evC_num0 0 hk hb f] at e; rw [← Rc.bad_inj e]; exact gammaR_bad f
        | ok n k1 => rw [evC_num 0 hk hb f] at e; injection e with e; injection e
  | succ h ih =>
    intro base k r j e
    by_cases hk : 8 * s.size ≤ k
    · rw [evC_end _ hk] at e; have := Rc.bad_inj e; omega
    · cases f : gammaR s (k + 1) using Nm.cs with
      | bad i => rw [evC_bad0 hk f] at e; rw [← Rc.bad_inj e]; exact gammaR_bad f
      | ok n k1 =>
        cases hb : bitAt s k with
        | false => rw [evC_num _ hk hb f] at e; injection e with e; injection e
        | true =>
          cases g : evC s h (base + n) k1 r using Rc.cs with
          | bad i => rw [evC_bad1 hk hb f g] at e; rw [← Rc.bad_inj e]; exact ih _ _ _ _ g
          | ok o k2 r2 =>
            obtain ⟨l, ln⟩ := o
            cases g2 : evC s h (base + n) k2 r2 using Rc.cs with
            | bad i => rw [evC_bad2 hk hb f g g2] at e; rw [← Rc.bad_inj e]; exact ih _ _ _ _ g2
            | ok o k3 r3 => obtain ⟨t, tn⟩ := o; rw [evC_pair hk hb f g g2] at e; injection e with e; injection e

theorem evC_ok (s : ByteArray) : ∀ (h base k : Nat) (r : Bool) (t : Tr Nat) (n k' : Nat) (r' : Bool), evC s h base k r = .ok (t, n) k' r' →
    k' ≤ 8 * s.size ∧ deepT t ≤ h ∧ (r' = false → r = false ∧ plainT t ∧ lowest t = base + n ∧ hasB s k (wev t base) ∧ k' = k + (wev t base).length) := by
  have LF : ∀ (h base k : Nat) (r : Bool) (t : Tr Nat) (n k' : Nat) (r' : Bool) (m k1 : Nat), bitAt s k = false → gammaR s (k + 1) = .ok m k1 → Rc.ok (Tr.leaf (base + m), m) k1 r = .ok (t, n) k' r' →
      k' ≤ 8 * s.size ∧ deepT t ≤ h ∧ (r' = false → r = false ∧ plainT t ∧ lowest t = base + n ∧ hasB s k (wev t base) ∧ k' = k + (wev t base).length) := by
    intro h base k r t n k' r' m k1 hb f e
    obtain ⟨e1, rfl, rfl⟩ := Rc.ok_inj e
    injection e1 with e1 e2
    subst e1 e2
    obtain ⟨g1, g2, g3⟩ := gammaR_ok f
    have ew : wev (.leaf (base + m)) base = false :: gammaB m := by show false :: gammaB (base + m - base) = _; rw [show base + m - base = m by omega]
    refine ⟨by have := g3.2; omega, Nat.zero_le _, fun e => ⟨e, trivial, rfl, ?_, ?_⟩⟩
    · rw [ew]; exact hasB_cons hb g3
    · rw [ew, List.length_cons]; omega
  intro h
  induction h with
  | zero =>
    intro base k r t n k' r' e
    by_cases hk : 8 * s.size ≤ k
    · rw [evC_end 0 hk] at e; exact (Rc.bad_ok e).elim
    · cases hb : bitAt s k with
      | true => rw [evC_deep hk hb] at e; exact (Rc.bad_ok e).elim
      | false =>
        cases f : gammaR s (k + 1) using Nm.cs with
        | bad i => rw [evC_num0 0 hk hb f] at e; exact (Rc.bad_ok e).elim
        | ok m k1 => rw [evC_num 0 hk hb f] at e; exact LF 0 base k r t n k' r' m k1 hb f e
  | succ h ih =>
    intro base k r t n k' r' e
    by_cases hk : 8 * s.size ≤ k
    · rw [evC_end _ hk] at e; exact (Rc.bad_ok e).elim
    · cases f : gammaR s (k + 1) using Nm.cs with
      | bad i => rw [evC_bad0 hk f] at e; exact (Rc.bad_ok e).elim
      | ok m k1 =>
        cases hb : bitAt s k with
        | false => rw [evC_num _ hk hb f] at e; exact LF _ base k r t n k' r' m k1 hb f e
        | true =>
          cases g : evC s h (base + m) k1 r using Rc.cs with
          | bad i => rw [evC_bad1 hk hb f g] at e; exact (Rc.bad_ok e).elim
          | ok o k2 r2 =>
            obtain ⟨l, ln⟩ := o
            cases g2 : evC s h (base + m) k2 r2 using Rc.cs with
            | bad i => rw [evC_bad2 hk hb f g g2] at e; exact (Rc.bad_ok e).elim
            | ok o k3 r3 =>
              obtain ⟨q, tn⟩ := o
              rw [evC_pair hk hb f g g2] at e
              obtain ⟨e1, rfl, rfl⟩ := Rc.ok_inj e
              injection e1 with e1 e2
              subst e1 e2
              obtain ⟨f1, f2, f3⟩ := gammaR_ok f
              obtain ⟨a1, a2, a3⟩ := ih _ _ _ _ _ _ _ g
              obtain ⟨b1, b2, b3⟩ := ih _ _ _ _ _ _ _ g2
              refine ⟨b1, ?_, ?_⟩
              · show max (deepT l) (deepT q) + 1 ≤ h + 1; omega
              · intro e
                rw [Bool.or_eq_false_iff, Bool.or_eq_false_iff] at e
                obtain ⟨e1, e2, e3⟩ := e
                obtain ⟨c1, c2, c3, c4, c5⟩ := b3 e1
                obtain ⟨d1, d2, d3, d4, d5⟩ := a3 c1
                have hm : min (lowest l) (lowest q) = base + m := by
                  rw [Bool.and_eq_false_iff] at e2
                  simp only [decide_eq_false_iff_not] at e2
                  omega
                have ew : wev (.pair l q) base = true :: (gammaB m ++ (wev l (base + m) ++ wev q (base + m))) := by
                  show true :: (gammaB (min (lowest l) (lowest q) - base) ++ (wev l (min (lowest l) (lowest q)) ++ wev q (min (lowest l) (lowest q)))) = _
                  rw [hm, show base + m - base = m by omega]
                refine ⟨d1, ⟨by rw [← sameI_same]; exact e3, d2, c2⟩, hm, ?_, ?_⟩
                · rw [ew]
                  refine hasB_cons hb (hasB_append f3 ?_)
                  rw [← f2]
                  refine hasB_append d4 ?_
                  rw [← d5]; exact c4
                · rw [ew, List.length_cons, List.length_append, List.length_append]; omega

theorem padR_ok (s : ByteArray) : ∀ (f k a k' : Nat), padR s f k = .ok a k' → k' = k + f ∧ ∀ j, k ≤ j → j < k + f → bitAt s j = false := by
  intro f
  induction f with
  | zero => intro k a k' h; rw [padR] at h; obtain ⟨_, rfl⟩ := Nm.ok_inj h; exact ⟨rfl, fun j h1 h2 => by omega⟩
  | succ f ih =>
    intro k a k' h
    rw [padR] at h
    by_cases hb : bitAt s k = true
    · rw [if_pos hb] at h; exact (Nm.bad_ok h).elim
    · rw [if_neg hb] at h
      obtain ⟨g1, g2⟩ := ih _ _ _ h
      refine ⟨by omega, fun j h1 h2 => ?_⟩
      by_cases e : j = k
      · rw [e]; simpa using hb
      · exact g2 j (by omega) (by omega)
theorem padR_bad (s : ByteArray) : ∀ (f k j : Nat), k + f ≤ 8 * s.size → padR s f k = .bad j → j ≤ s.size := by
  intro f
  induction f with
  | zero => intro k j _ h; rw [padR] at h; injection h with h; injection h
  | succ f ih =>
    intro k j hk h
    rw [padR] at h
    by_cases hb : bitAt s k = true
    · rw [if_pos hb] at h; have := Nm.bad_inj h; omega
    · rw [if_neg hb] at h; exact ih _ _ (by omega) h
theorem padR_zero (s : ByteArray) : ∀ (f k : Nat), (∀ j, k ≤ j → j < k + f → bitAt s j = false) → padR s f k = .ok 0 (k + f) := by
  intro f
  induction f with
  | zero => intro k _; rfl
  | succ f ih =>
    intro k h
    rw [padR, if_neg (by rw [h k (by omega) (by omega)]; exact Bool.false_ne_true), ih (k + 1) (fun j h1 h2 => h j (by omega) (by omega)), show k + 1 + f = k + (f + 1) by omega]

theorem endR_bad1 {s : ByteArray} {k j : Nat} (f : padR s ((8 - k % 8) % 8) k = .bad j) : endR s k = .bad j := by rw [endR, f]
theorem endR_bad2 {s : ByteArray} {k a k1 : Nat} (f : padR s ((8 - k % 8) % 8) k = .ok a k1) (l : k1 / 8 < s.size) : endR s k = .bad (k1 / 8) := by rw [endR, f]; simp only []; rw [if_pos l]
theorem endR_good {s : ByteArray} {k a k1 : Nat} (f : padR s ((8 - k % 8) % 8) k = .ok a k1) (l : ¬ k1 / 8 < s.size) : endR s k = .ok 0 k1 := by rw [endR, f]; simp only []; rw [if_neg l]

theorem getD_out {l : List Bool} {j : Nat} (h : l.length ≤ j) : l.getD j false = false := by
  rw [List.getD_eq_getElem?_getD, List.getElem?_eq_none h]; rfl
theorem preB_get (s : ByteArray) : ∀ (l : List Bool) (k j : Nat), preB s k l → j < l.length → k + j < 8 * s.size → bitAt s (k + j) = l.getD j false
  | [], _, _, _, h, _ => by simp at h
  | b :: l, k, 0, h, _, h2 => (h h2).1
  | b :: l, k, j + 1, h, h1, h2 => by
    rw [List.getD_cons_succ, ← preB_get s l (k + 1) j (h (by omega)).2 (by simpa using h1) (by omega), show k + 1 + j = k + (j + 1) by omega]
theorem preB_of (s : ByteArray) : ∀ (l : List Bool) (k : Nat), (∀ j, j < l.length → k + j < 8 * s.size → bitAt s (k + j) = l.getD j false) → preB s k l
  | [], _, _ => trivial
  | b :: l, k, h => fun hk => ⟨h 0 (by simp) hk, preB_of s l (k + 1) fun j h1 h2 => by
      have := h (j + 1) (by simpa using h1) (by omega)
      rw [List.getD_cons_succ] at this
      rw [← this, show k + 1 + j = k + (j + 1) by omega]⟩

/-- A code of these bits, filled up with 0s. -/
def Packed (s : ByteArray) (l : List Bool) : Prop := s.size = (l.length + 7) / 8 ∧ ∀ k, k < 8 * s.size → bitAt s k = l.getD k false

theorem nx_ext {s t : ByteArray} (h : s.size = t.size) (g : ∀ i, i < s.size → nx s i = nx t i) : s = t := by
  apply ByteArray.ext
  apply Array.ext
  · exact h
  · intro i h1 h2
    have := g i h1
    rw [nx_in s i h1, nx_in t i h2] at this
    exact UInt8.toNat_inj.1 this
theorem Packed.ext {s t : ByteArray} {l : List Bool} (h : Packed s l) (g : Packed t l) : s = t := by
  have hs : s.size = t.size := h.1.trans g.1.symm
  refine nx_ext hs fun i hi => Nat.eq_of_testBit_eq fun j => ?_
  by_cases hj : j < 8
  · have h1 := h.2 (8 * i + (7 - j)) (by omega)
    have h2 := g.2 (8 * i + (7 - j)) (by omega)
    have e := h1.trans h2.symm
    unfold bitAt at e
    rw [show (8 * i + (7 - j)) / 8 = i by omega, show 7 - (8 * i + (7 - j)) % 8 = j by omega] at e
    exact e
  · have e : 2 ^ 8 ≤ 2 ^ j := Nat.pow_le_pow_right (by omega) (by omega)
    have h1 := nx_lt s i
    have h2 := nx_lt t i
    rw [Nat.testBit_lt_two_pow (by omega), Nat.testBit_lt_two_pow (by omega)]
theorem Packed.pre {s : ByteArray} {l : List Bool} (h : Packed s l) : preB s 0 l := preB_of s l 0 fun j _ h2 => h.2 _ (by omega) |>.trans (by rw [Nat.zero_add])

/-- Codes are short. -/
theorem wid_le (t : Tr Bool) : ∀ h, deepT t ≤ h → (wid t).length + 1 ≤ 3 * 2 ^ h := by
  induction t using Tr.ind with
  | leaf a => intro h _; have : 1 ≤ 2 ^ h := Nat.one_le_two_pow; show 2 + 1 ≤ _; omega
  | pair l r ihl ihr =>
    intro h hd
    have hd : max (deepT l) (deepT r) + 1 ≤ h := hd
    cases h with
    | zero => omega
    | succ h =>
      have a1 := ihl h (by omega)
      have a2 := ihr h (by omega)
      show (true :: (wid l ++ wid r)).length + 1 ≤ _
      rw [List.length_cons, List.length_append, Nat.pow_succ]; omega
theorem gammaB_le (n : Nat) (h : n ≤ 1099511627776) : (gammaB n).length ≤ 81 := by rw [gammaB_len]; have := (log_bounds n h).1; omega
theorem wev_le (t : Tr Nat) : ∀ h base, deepT t ≤ h → highest t ≤ 1099511627776 → (wev t base).length + 82 ≤ 164 * 2 ^ h := by
  induction t using Tr.ind with
  | leaf a =>
    intro h base _ hh
    have hh : a ≤ 1099511627776 := hh
    have : 1 ≤ 2 ^ h := Nat.one_le_two_pow
    have := gammaB_le (a - base) (by omega)
    show (false :: gammaB (a - base)).length + 82 ≤ _
    rw [List.length_cons]; omega
  | pair l r ihl ihr =>
    intro h base hd hh
    have hd : max (deepT l) (deepT r) + 1 ≤ h := hd
    have hh : max (highest l) (highest r) ≤ 1099511627776 := hh
    have hlow := low_high l
    cases h with
    | zero => omega
    | succ h =>
      have a1 := ihl h (min (lowest l) (lowest r)) (by omega) (by omega)
      have a2 := ihr h (min (lowest l) (lowest r)) (by omega) (by omega)
      have a3 := gammaB_le (min (lowest l) (lowest r) - base) (by omega)
      show (true :: (gammaB (min (lowest l) (lowest r) - base) ++ (wev l (min (lowest l) (lowest r)) ++ wev r (min (lowest l) (lowest r))))).length + 82 ≤ _
      rw [List.length_cons, List.length_append, List.length_append, Nat.pow_succ]; omega
theorem PT.bits {id : Tr Bool} {ev : Tr Nat} (h : PT id ev) : (wbits id ev).length ≤ 42669 ∧ 4 ≤ (wbits id ev).length := by
  have a1 := wid_le id 8 h.di
  have a2 := wev_le ev 8 0 h.de h.hi
  have a3 := wid_len id
  have a4 : 2 ≤ (wev ev 0).length := by
    cases ev using Tr.cs with
    | leaf a => show 2 ≤ (false :: gammaB (a - 0)).length; rw [List.length_cons, gammaB_len]; omega
    | pair l r => show 2 ≤ (true :: (gammaB (min (lowest l) (lowest r) - 0) ++ _)).length; rw [List.length_cons, List.length_append, gammaB_len]; omega
  rw [wbits, List.length_append]
  omega

section
variable {s : ByteArray} {id : Tr Bool} {ev : Tr Nat} {n k1 k2 k3 a j : Nat} {r1 r2 : Bool}
theorem readC_long (h : 20000 < s.size) : readC s = .bad 1 0 := by rw [readC, if_pos h]
theorem readC_bad0 (hs : s.size ≤ 20000) (f : idC s 8 0 false = .bad j) : readC s = .bad 2 j := by rw [readC, if_neg (by omega), f]
theorem readC_bad1 (hs : s.size ≤ 20000) (f : idC s 8 0 false = .ok id k1 r1) (g : evC s 8 0 k1 r1 = .bad j) : readC s = .bad 2 j := by rw [readC, if_neg (by omega), f]; simp only []; rw [g]
theorem readC_bad2 (hs : s.size ≤ 20000) (f : idC s 8 0 false = .ok id k1 r1) (g : evC s 8 0 k1 r1 = .ok (ev, n) k2 r2) (e : endR s k2 = .bad j) : readC s = .bad 2 j := by
  rw [readC, if_neg (by omega), f]; simp only []; rw [g]; simp only []; rw [e]
theorem readC_bad3 (hs : s.size ≤ 20000) (f : idC s 8 0 false = .ok id k1 r1) (g : evC s 8 0 k1 r1 = .ok (ev, n) k2 r2) (e : endR s k2 = .ok a k3) (m : 1099511627776 < highest ev) : readC s = .bad 7 0 := by
  rw [readC, if_neg (by omega), f]; simp only []; rw [g]; simp only []; rw [e]; simp only []; rw [if_pos m]
theorem readC_bad4 (hs : s.size ≤ 20000) (f : idC s 8 0 false = .ok id k1 r1) (g : evC s 8 0 k1 r1 = .ok (ev, n) k2 r2) (e : endR s k2 = .ok a k3) (m : ¬ 1099511627776 < highest ev) (q : r2 = true) : readC s = .bad 3 0 := by
  rw [readC, if_neg (by omega), f]; simp only []; rw [g]; simp only []; rw [e]; simp only []; rw [if_neg m, if_pos q]
theorem readC_good (hs : s.size ≤ 20000) (f : idC s 8 0 false = .ok id k1 r1) (g : evC s 8 0 k1 r1 = .ok (ev, n) k2 r2) (e : endR s k2 = .ok a k3) (m : ¬ 1099511627776 < highest ev) (q : ¬ r2 = true) : readC s = .ok id ev := by
  rw [readC, if_neg (by omega), f]; simp only []; rw [g]; simp only []; rw [e]; simp only []; rw [if_neg m, if_neg q]
end

/-- A code that is cut off ahead of its last bit. -/
theorem readC_cut {s : ByteArray} {id : Tr Bool} {ev : Tr Nat} (P : PT id ev) (hs : s.size ≤ 20000) (hp : preB s 0 (wbits id ev)) (hl : 8 * s.size < (wbits id ev).length) : readC s = .bad 2 s.size := by
  rw [wbits, preB_append] at hp
  rw [wbits, List.length_append] at hl
  have F := idC_reads s id 8 0 false hp.1 P.di P.pi
  have G := evC_reads s ev 8 0 (0 + (wid id).length) false hp.2 P.de P.pe (Nat.zero_le _) P.hi
  by_cases h1 : 0 + (wid id).length ≤ 8 * s.size
  · rw [if_pos h1] at F
    rw [if_neg (by omega)] at G
    exact readC_bad1 hs F G
  · rw [if_neg h1] at F
    exact readC_bad0 hs F
/-- A code that is whole: what is behind it. -/
theorem readC_whole {s : ByteArray} {id : Tr Bool} {ev : Tr Nat} (P : PT id ev) (hs : s.size ≤ 20000) (hp : preB s 0 (wbits id ev)) (hl : (wbits id ev).length ≤ 8 * s.size)
    (hz : ∀ j, (wbits id ev).length ≤ j → j < 8 * (((wbits id ev).length + 7) / 8) → bitAt s j = false) :
    readC s = if ((wbits id ev).length + 7) / 8 < s.size then .bad 2 (((wbits id ev).length + 7) / 8) else .ok id ev := by
  rw [wbits, preB_append] at hp
  have F := idC_reads s id 8 0 false hp.1 P.di P.pi
  have G := evC_reads s ev 8 0 (0 + (wid id).length) false hp.2 P.de P.pe (Nat.zero_le _) P.hi
  have e : 0 + (wid id).length + (wev ev 0).length = (wbits id ev).length := by rw [wbits, List.length_append]; omega
  rw [e] at G
  rw [if_pos (by omega)] at F G
  generalize (wbits id ev).length = L at *
  have Z := padR_zero s ((8 - L % 8) % 8) L fun j h1 h2 => hz j h1 (by omega)
  have e2 : (L + (8 - L % 8) % 8) / 8 = (L + 7) / 8 := by omega
  by_cases l : (L + 7) / 8 < s.size
  · rw [if_pos l]
    have E := endR_bad2 Z (by omega)
    rw [e2] at E
    exact readC_bad2 hs F G E
  · rw [if_neg l]
    exact readC_good hs F G (endR_good Z (by omega)) (by have := P.hi; omega) Bool.false_ne_true

/-- Whatever is read was written so. -/
theorem readC_ok {s : ByteArray} {id : Tr Bool} {ev : Tr Nat} (h : readC s = .ok id ev) : s.size ≤ 20000 ∧ PT id ev ∧ Packed s (wbits id ev) := by
  have NO : ∀ e p, Rd1.bad e p = Rd1.ok id ev → False := fun e p h => by injection h with h; injection h
  by_cases hs : 20000 < s.size
  · rw [readC_long hs] at h; exact (NO _ _ h).elim
  have hs : s.size ≤ 20000 := by omega
  refine ⟨hs, ?_⟩
  cases f : idC s 8 0 false using Rc.cs with
  | bad j => rw [readC_bad0 hs f] at h; exact (NO _ _ h).elim
  | ok i k1 r1 =>
    cases g : evC s 8 0 k1 r1 using Rc.cs with
    | bad j => rw [readC_bad1 hs f g] at h; exact (NO _ _ h).elim
    | ok o k2 r2 =>
      obtain ⟨v, n⟩ := o
      cases p : padR s ((8 - k2 % 8) % 8) k2 using Nm.cs with
      | bad j => rw [readC_bad2 hs f g (endR_bad1 p)] at h; exact (NO _ _ h).elim
      | ok a k3 =>
        by_cases l : k3 / 8 < s.size
        · rw [readC_bad2 hs f g (endR_bad2 p l)] at h; exact (NO _ _ h).elim
        by_cases m : 1099511627776 < highest v
        · rw [readC_bad3 hs f g (endR_good p l) m] at h; exact (NO _ _ h).elim
        by_cases q : r2 = true
        · rw [readC_bad4 hs f g (endR_good p l) m q] at h; exact (NO _ _ h).elim
        rw [readC_good hs f g (endR_good p l) m q] at h
        injection h with h
        injection h with h
        injection h with h1 h2
        subst h1 h2
        obtain ⟨a1, a2, a3, a4⟩ := idC_ok s _ _ _ _ _ _ f
        obtain ⟨b1, b2, b3⟩ := evC_ok s _ _ _ _ _ _ _ _ g
        obtain ⟨c1, c2, c3, c4, c5⟩ := b3 (by simpa using q)
        obtain ⟨d1, d2⟩ := a4 c1
        obtain ⟨p1, p2⟩ := padR_ok s _ _ _ _ p
        rw [a1] at c4
        have H := hasB_append a2 c4
        have el : (wbits i v).length = k2 := by rw [wbits, List.length_append]; omega
        refine ⟨⟨d2, a3, c2, b2, by omega⟩, by omega, fun k hk => ?_⟩
        by_cases hk2 : k < k2
        · have := preB_get s (wbits i v) 0 k H.1 (by omega) (by omega)
          rwa [Nat.zero_add] at this
        · rw [p2 k (by omega) (by omega), getD_out (by omega)]
theorem readC_bad {s : ByteArray} {e p : Nat} (h : readC s = .bad e p) : p ≤ s.size ∧ e ≠ 0 := by
  have YES : ∀ a b, Rd1.bad a b = Rd1.bad e p → b ≤ s.size → a ≠ 0 → p ≤ s.size ∧ e ≠ 0 := fun a b h hb ha => by injection h with h; injection h with h; injection h with h1 h2; subst h1 h2; exact ⟨hb, ha⟩
  by_cases hs : 20000 < s.size
  · rw [readC_long hs] at h; exact YES _ _ h (by omega) (by omega)
  have hs : s.size ≤ 20000 := by omega
  cases f : idC s 8 0 false using Rc.cs with
  | bad j => rw [readC_bad0 hs f] at h; exact YES _ _ h (idC_bad _ _ _ _ _ f) (by omega)
  | ok i k1 r1 =>
    cases g : evC s 8 0 k1 r1 using Rc.cs with
    | bad j => rw [readC_bad1 hs f g] at h; exact YES _ _ h (evC_bad _ _ _ _ _ _ g) (by omega)
    | ok o k2 r2 =>
      obtain ⟨v, n⟩ := o
      obtain ⟨b1, b2, b3⟩ := evC_ok s _ _ _ _ _ _ _ _ g
      cases q : padR s ((8 - k2 % 8) % 8) k2 using Nm.cs with
      | bad j => rw [readC_bad2 hs f g (endR_bad1 q)] at h; exact YES _ _ h (padR_bad s _ _ _ (by omega) q) (by omega)
      | ok a k3 =>
        by_cases l : k3 / 8 < s.size
        · rw [readC_bad2 hs f g (endR_bad2 q l)] at h; exact YES _ _ h (by omega) (by omega)
        by_cases m : 1099511627776 < highest v
        · rw [readC_bad3 hs f g (endR_good q l) m] at h; exact YES _ _ h (by omega) (by omega)
        by_cases r : r2 = true
        · rw [readC_bad4 hs f g (endR_good q l) m r] at h; exact YES _ _ h (by omega) (by omega)
        rw [readC_good hs f g (endR_good q l) m r] at h
        injection h with h; injection h

theorem nx_extract (s : ByteArray) (k i : Nat) (h : i < k) : nx (s.extract 0 k) i = nx s i := by
  unfold nx
  rw [ByteArray.data_extract]
  simp [List.getD_eq_getElem?_getD, h]
theorem nx_append (s t : ByteArray) (i : Nat) (h : i < s.size) : nx (s ++ t) i = nx s i := by
  unfold nx
  rw [ByteArray.data_append]
  simp [List.getD_eq_getElem?_getD, List.getElem?_append]
  rw [if_pos h]

theorem Packed.read {c : ByteArray} {id : Tr Bool} {ev : Tr Nat} (P : PT id ev) (h : Packed c (wbits id ev)) : readC c = .ok id ev := by
  have L := P.bits
  rw [readC_whole P (by have := h.1; omega) h.pre (by have := h.1; omega) fun j h1 h2 => ?_, if_neg (by have := h.1; omega)]
  rw [h.2 j (by have := h.1; omega), getD_out h1]
theorem Packed.cut {c : ByteArray} {id : Tr Bool} {ev : Tr Nat} (P : PT id ev) (h : Packed c (wbits id ev)) {k : Nat} (hk : k < c.size) : readC (c.extract 0 k) = .bad 2 k := by
  have L := P.bits
  have es : (c.extract 0 k).size = k := by rw [ByteArray.size_extract]; omega
  have H := readC_cut (s := c.extract 0 k) P (by have := h.1; omega) (preB_of _ _ _ fun j h1 h2 => ?_) (by have := h.1; omega)
  · rw [es] at H; exact H
  · unfold bitAt
    rw [nx_extract _ _ _ (by omega)]
    have := h.2 (0 + j) (by omega)
    rw [Nat.zero_add] at this ⊢
    exact this
theorem Packed.more {c x : ByteArray} {id : Tr Bool} {ev : Tr Nat} (P : PT id ev) (h : Packed c (wbits id ev)) (hx : x.size = 1) : readC (c ++ x) = .bad 2 c.size := by
  have L := P.bits
  have es : (c ++ x).size = c.size + 1 := by rw [ByteArray.size_append]; omega
  have B : ∀ j, j < 8 * c.size → bitAt (c ++ x) j = (wbits id ev).getD j false := fun j hj => by
    unfold bitAt; rw [nx_append _ _ _ (by omega)]; exact h.2 j hj
  rw [readC_whole P (by have := h.1; omega) (preB_of _ _ _ fun j h1 h2 => by rw [Nat.zero_add]; exact B j (by have := h.1; omega)) (by have := h.1; omega) fun j h1 h2 => ?_, if_pos (by have := h.1; omega), ← h.1]
  rw [B j (by have := h.1; omega), getD_out h1]

end Go.Proofs.YtoebmfhgaalcdaaGreatDoor
