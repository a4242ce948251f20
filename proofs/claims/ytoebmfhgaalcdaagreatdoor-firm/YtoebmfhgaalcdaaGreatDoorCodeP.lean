/-
  Our own. Codes, bit by bit, as plain functions: what is read of them, what is written, and that the one is the other's turn. No Go in here.
-/
import Derived.Test.YtoebmfhgaalcdaaGreatDoorWriteP
namespace Go.Proofs.YtoebmfhgaalcdaaGreatDoor

/-- A bit of a code. -/
def bitAt (s : ByteArray) (k : Nat) : Bool := (nx s (k / 8)).testBit (7 - k % 8)

/-- What comes of reading an ID or EV of a code. -/
structure Rc (α : Type) where
  out : (α × Nat × Bool) ⊕ Nat
abbrev Rc.ok {α : Type} (a : α) (k : Nat) (r : Bool) : Rc α := ⟨.inl (a, k, r)⟩
abbrev Rc.bad {α : Type} (j : Nat) : Rc α := ⟨.inr j⟩
theorem Rc.cs {α : Type} {motive : Rc α → Prop} (ok : ∀ a k r, motive (Rc.ok a k r)) (bad : ∀ j, motive (Rc.bad j)) : ∀ o, motive o
  | ⟨.inl (a, k, r)⟩ => ok a k r
  | ⟨.inr j⟩ => bad j
theorem Rc.ok_inj {α : Type} {a b : α} {k l : Nat} {r q : Bool} (h : Rc.ok a k r = Rc.ok b l q) : a = b ∧ k = l ∧ r = q := by
  injection h with h; injection h with h; injection h with h1 h2; injection h2 with h2 h3; exact ⟨h1, h2, h3⟩
theorem Rc.bad_ok {α : Type} {a : α} {k j : Nat} {r : Bool} (h : (Rc.bad j : Rc α) = Rc.ok a k r) : False := by
  injection h with h; injection h
theorem Nm.bad_inj {i j : Nat} (h : Nm.bad i = Nm.bad j) : i = j := by
  injection h with h; injection h
theorem Rc.bad_inj {α : Type} {i j : Nat} (h : (Rc.bad i : Rc α) = Rc.bad j) : i = j := by
  injection h with h; injection h

def zerosR (s : ByteArray) : Nat → Nat → Nat → Nm
  | 0, _, _ => .bad 0
  | f + 1, k, d => if 8 * s.size ≤ k then .bad s.size else if bitAt s k = true then .ok d (k + 1) else if d = 41 then .bad (k / 8) else zerosR s f (k + 1) (d + 1)
def restR (s : ByteArray) : Nat → Nat → Nat → Nm
  | 0, k, m => .ok m k
  | f + 1, k, m => if 8 * s.size ≤ k then .bad s.size else restR s f (k + 1) (2 * m + (bitAt s k).toNat)
/-- A number. -/
def gammaR (s : ByteArray) (k : Nat) : Nm :=
  match zerosR s 41 k 1 with
  | ⟨.inr j⟩ => .bad j
  | ⟨.inl (d, k1)⟩ =>
    match restR s (d - 1) k1 1 with
    | ⟨.inr j⟩ => .bad j
    | ⟨.inl (m, k2)⟩ => if 1099511627776 < m - 1 then .bad ((k2 - 1) / 8) else .ok (m - 1) k2

def leafC (s : ByteArray) (k : Nat) (r : Bool) : Rc (Tr Bool) := if 8 * s.size ≤ k then .bad s.size else .ok (.leaf (bitAt s k)) (k + 1) r
def idC (s : ByteArray) : Nat → Nat → Bool → Rc (Tr Bool)
  | 0, k, r => if 8 * s.size ≤ k then .bad s.size else if bitAt s k = true then .bad (k / 8) else leafC s (k + 1) r
  | h + 1, k, r => if 8 * s.size ≤ k then .bad s.size else if bitAt s k = true then
      match idC s h (k + 1) r with
      | ⟨.inr j⟩ => .bad j
      | ⟨.inl (l, k1, r1)⟩ =>
        match idC s h k1 r1 with
        | ⟨.inr j⟩ => .bad j
        | ⟨.inl (t, k2, r2)⟩ => .ok (.pair l t) k2 (r2 || sameB l t)
    else leafC s (k + 1) r
def evC (s : ByteArray) : Nat → Nat → Nat → Bool → Rc (Tr Nat × Nat)
  | 0, base, k, r => if 8 * s.size ≤ k then .bad s.size else if bitAt s k = true then .bad (k / 8) else
      match gammaR s (k + 1) with
      | ⟨.inr j⟩ => .bad j
      | ⟨.inl (n, k1)⟩ => .ok (.leaf (base + n), n) k1 r
  | h + 1, base, k, r => if 8 * s.size ≤ k then .bad s.size else
      match gammaR s (k + 1) with
      | ⟨.inr j⟩ => .bad j
      | ⟨.inl (n, k1)⟩ => if bitAt s k = true then
          match evC s h (base + n) k1 r with
          | ⟨.inr j⟩ => .bad j
          | ⟨.inl ((l, ln), k2, r2)⟩ =>
            match evC s h (base + n) k2 r2 with
            | ⟨.inr j⟩ => .bad j
            | ⟨.inl ((t, tn), k3, r3)⟩ => .ok (.pair l t, n) k3 (r3 || (decide (0 < ln) && decide (0 < tn) || sameI l t))
        else .ok (.leaf (base + n), n) k1 r
def padR (s : ByteArray) : Nat → Nat → Nm
  | 0, k => .ok 0 k
  | f + 1, k => if bitAt s k = true then .bad (k / 8) else padR s f (k + 1)
def endR (s : ByteArray) (k : Nat) : Nm :=
  match padR s ((8 - k % 8) % 8) k with
  | ⟨.inr j⟩ => .bad j
  | ⟨.inl (_, k1)⟩ => if k1 / 8 < s.size then .bad (k1 / 8) else .ok 0 k1
/-- What reading a code comes to. -/
def readC (s : ByteArray) : Rd1 :=
  if 20000 < s.size then .bad 1 0 else
  match idC s 8 0 false with
  | ⟨.inr j⟩ => .bad 2 j
  | ⟨.inl (id, k1, r1)⟩ =>
    match evC s 8 0 k1 r1 with
    | ⟨.inr j⟩ => .bad 2 j
    | ⟨.inl ((ev, _), k2, r2)⟩ =>
      match endR s k2 with
      | ⟨.inr j⟩ => .bad 2 j
      | ⟨.inl _⟩ => if 1099511627776 < highest ev then .bad 7 0 else if r2 = true then .bad 3 0 else .ok id ev

/-- What is written. -/
def digitsB (x : Nat) : Nat → List Bool
  | 0 => []
  | d + 1 => x.testBit d :: digitsB x d
def gammaB (n : Nat) : List Bool := List.replicate (n + 1).log2 false ++ true :: digitsB (n + 1) (n + 1).log2
def wid : Tr Bool → List Bool
  | ⟨.inl a⟩ => [false, a]
  | ⟨.inr (l, r)⟩ => true :: (wid l ++ wid r)
def wev : Tr Nat → Nat → List Bool
  | ⟨.inl a⟩, base => false :: gammaB (a - base)
  | ⟨.inr (l, r)⟩, base => true :: (gammaB (min (lowest l) (lowest r) - base) ++ (wev l (min (lowest l) (lowest r)) ++ wev r (min (lowest l) (lowest r))))
def wbits (id : Tr Bool) (ev : Tr Nat) : List Bool := wid id ++ wev ev 0

theorem digitsB_len (x : Nat) : ∀ d, (digitsB x d).length = d
  | 0 => rfl
  | d + 1 => by rw [digitsB, List.length_cons, digitsB_len x d]

/-- As far as the code goes, its bits from k on are these. -/
def preB (s : ByteArray) : Nat → List Bool → Prop
  | _, [] => True
  | k, b :: l => k < 8 * s.size → bitAt s k = b ∧ preB s (k + 1) l
theorem preB_out (s : ByteArray) (k : Nat) (l : List Bool) (h : 8 * s.size ≤ k) : preB s k l := by
  cases l with
  | nil => trivial
  | cons b l => intro h2; omega
theorem preB_append (s : ByteArray) : ∀ (a : List Bool) (b : List Bool) (k : Nat), preB s k (a ++ b) ↔ preB s k a ∧ preB s (k + a.length) b
  | [], b, k => by simp [preB]
  | x :: a, b, k => by
    rw [List.cons_append, List.length_cons]
    by_cases hk : k < 8 * s.size
    · have IH := preB_append s a b (k + 1)
      simp only [preB]
      rw [show k + (a.length + 1) = k + 1 + a.length by omega]
      constructor
      · intro h; obtain ⟨h1, h2⟩ := h hk; rw [IH] at h2; exact ⟨fun _ => ⟨h1, h2.1⟩, h2.2⟩
      · rintro ⟨h1, h2⟩ _; exact ⟨(h1 hk).1, IH.2 ⟨(h1 hk).2, h2⟩⟩
    · exact ⟨fun _ => ⟨preB_out _ _ _ (by omega), preB_out _ _ _ (by omega)⟩, fun _ => preB_out _ _ _ (by omega)⟩

theorem zerosR_reads (s : ByteArray) : ∀ (z k d f : Nat), preB s k (List.replicate z false ++ [true]) → d + z ≤ 41 → z < f →
    zerosR s f k d = if k + z + 1 ≤ 8 * s.size then .ok (d + z) (k + z + 1) else .bad s.size := by
  intro z
  induction z with
  | zero =>
    intro k d f hp hd hf
    cases f with
    | zero => omega
    | succ f =>
      rw [zerosR]
      by_cases hk : 8 * s.size ≤ k
      · rw [if_pos hk, if_neg (by omega)]
      · have h1 := (hp (by omega)).1
        rw [if_neg hk, if_pos h1, if_pos (by omega)]; rfl
  | succ z ih =>
    intro k d f hp hd hf
    cases f with
    | zero => omega
    | succ f =>
      rw [zerosR]
      by_cases hk : 8 * s.size ≤ k
      · rw [if_pos hk, if_neg (by omega)]
      · rw [List.replicate_succ, List.cons_append] at hp
        obtain ⟨h1, h2⟩ := hp (by omega)
        rw [if_neg hk, if_neg (by rw [h1]; exact Bool.false_ne_true), if_neg (by omega), ih (k + 1) (d + 1) f h2 (by omega) (by omega)]
        rw [show k + 1 + z + 1 = k + (z + 1) + 1 by omega, show d + 1 + z = d + (z + 1) by omega]
theorem restR_reads (s : ByteArray) (x : Nat) : ∀ (d k m : Nat), preB s k (digitsB x d) → k ≤ 8 * s.size →
    restR s d k m = if k + d ≤ 8 * s.size then .ok (m * 2 ^ d + x % 2 ^ d) (k + d) else .bad s.size := by
  intro d
  induction d with
  | zero => intro k m _ hk; rw [restR, if_pos (by omega)]; simp [Nat.mod_one]
  | succ d ih =>
    intro k m hp hk
    rw [restR]
    by_cases h : 8 * s.size ≤ k
    · rw [if_pos h, if_neg (by omega)]
    · obtain ⟨h1, h2⟩ := hp (by omega)
      rw [if_neg h, ih (k + 1) _ h2 (by omega), h1, show k + 1 + d = k + (d + 1) by omega]
      congr 2
      rw [Nat.pow_succ, Nat.mod_mul, Nat.toNat_testBit, Nat.add_mul, Nat.mul_comm (2 ^ d) (x / 2 ^ d % 2)]
      have : 2 * m * 2 ^ d = m * (2 ^ d * 2) := by rw [Nat.mul_comm 2 m, Nat.mul_assoc, Nat.mul_comm 2]
      omega

theorem log_bounds (n : Nat) (h : n ≤ 1099511627776) : (n + 1).log2 ≤ 40 ∧ 2 ^ (n + 1).log2 ≤ n + 1 ∧ n + 1 < 2 ^ ((n + 1).log2 + 1) := by
  refine ⟨?_, Nat.log2_self_le (by omega), Nat.lt_log2_self⟩
  have : (n + 1).log2 < 41 := (Nat.log2_lt (by omega)).2 (by omega)
  omega
theorem gammaB_len (n : Nat) : (gammaB n).length = 2 * (n + 1).log2 + 1 := by
  rw [gammaB, List.length_append, List.length_cons, List.length_replicate, digitsB_len]; omega
theorem gammaR_reads (s : ByteArray) (k n : Nat) (hp : preB s k (gammaB n)) (hn : n ≤ 1099511627776) :
    gammaR s k = if k + (gammaB n).length ≤ 8 * s.size then .ok n (k + (gammaB n).length) else .bad s.size := by
  obtain ⟨b1, b2, b3⟩ := log_bounds n hn
  have e : gammaB n = (List.replicate (n + 1).log2 false ++ [true]) ++ digitsB (n + 1) (n + 1).log2 := by rw [gammaB]; simp
  rw [e, preB_append] at hp
  obtain ⟨h1, h2⟩ := hp
  rw [List.length_append, List.length_replicate, List.length_singleton] at h2
  rw [gammaB_len]
  generalize (n + 1).log2 = d at *
  rw [gammaR, zerosR_reads s d k 1 41 h1 (by omega) (by omega)]
  by_cases hk : k + d + 1 ≤ 8 * s.size
  · rw [if_pos hk]
    show (match restR s (1 + d - 1) (k + d + 1) 1 with
      | ⟨.inr j⟩ => Nm.bad j
      | ⟨.inl (m, k2)⟩ => if 1099511627776 < m - 1 then .bad ((k2 - 1) / 8) else .ok (m - 1) k2) = _
    rw [show 1 + d - 1 = d by omega, restR_reads s (n + 1) d (k + d + 1) 1 (by rw [show k + d + 1 = k + (d + 1) by omega]; exact h2) hk]
    rw [show k + d + 1 + d = k + (2 * d + 1) by omega]
    by_cases hk2 : k + (2 * d + 1) ≤ 8 * s.size
    · rw [if_pos hk2, if_pos hk2]
      have em : 1 * 2 ^ d + (n + 1) % 2 ^ d = n + 1 := by
        have hq : (n + 1) / 2 ^ d = 1 := by
          rw [Nat.pow_succ] at b3
          have : (n + 1) / 2 ^ d < 2 := by rw [Nat.div_lt_iff_lt_mul (by omega)]; omega
          have : 1 ≤ (n + 1) / 2 ^ d := by rw [Nat.le_div_iff_mul_le (by omega)]; omega
          omega
        have := Nat.div_add_mod (n + 1) (2 ^ d)
        rw [hq] at this
        omega
      rw [em]
      show (if 1099511627776 < n + 1 - 1 then Nm.bad _ else .ok (n + 1 - 1) (k + (2 * d + 1))) = _
      rw [if_neg (by omega), show n + 1 - 1 = n by omega]
    · rw [if_neg hk2, if_neg hk2]
  · rw [if_neg hk, if_neg (by omega)]

theorem wid_len (t : Tr Bool) : 2 ≤ (wid t).length := by
  induction t using Tr.ind with
  | leaf a => show 2 ≤ [false, a].length; simp
  | pair l r ihl _ => show 2 ≤ (true :: (wid l ++ wid r)).length; rw [List.length_cons, List.length_append]; omega

theorem leafC_reads (s : ByteArray) (a : Bool) (k : Nat) (r : Bool) (hp : preB s k [a]) : leafC s k r = if k + 1 ≤ 8 * s.size then .ok (.leaf a) (k + 1) r else .bad s.size := by
  rw [leafC]
  by_cases hk : 8 * s.size ≤ k
  · rw [if_pos hk, if_neg (by omega)]
  · rw [if_neg hk, if_pos (by omega), (hp (by omega)).1]
theorem idC_end {s : ByteArray} {k : Nat} {r : Bool} (h : Nat) (hk : 8 * s.size ≤ k) : idC s h k r = .bad s.size := by
  cases h <;> rw [idC, if_pos hk]
theorem idC_leaf {s : ByteArray} {k : Nat} {r : Bool} (h : Nat) (hk : ¬ 8 * s.size ≤ k) (hb : bitAt s k = false) : idC s h k r = leafC s (k + 1) r := by
  cases h <;> rw [idC, if_neg hk, if_neg (by rw [hb]; exact Bool.false_ne_true)]
theorem idC_reads (s : ByteArray) (t : Tr Bool) : ∀ (h k : Nat) (r : Bool), preB s k (wid t) → deepT t ≤ h → plainT t →
    idC s h k r = if k + (wid t).length ≤ 8 * s.size then .ok t (k + (wid t).length) r else .bad s.size := by
  induction t using Tr.ind with
  | leaf a =>
    intro h k r hp _ _
    have hp : preB s k [false, a] := hp
    show _ = if k + 2 ≤ 8 * s.size then Rc.ok _ (k + 2) r else _
    by_cases hk : 8 * s.size ≤ k
    · rw [idC_end h hk, if_neg (by omega)]
    · obtain ⟨h1, h2⟩ := hp (by omega)
      rw [idC_leaf h hk h1, leafC_reads s a (k + 1) r h2]
  | pair l q ihl ihr =>
    intro h k r hp hd hpl
    have hd : max (deepT l) (deepT q) + 1 ≤ h := hd
    cases h with
    | zero => omega
    | succ h =>
      have hp : preB s k (true :: (wid l ++ wid q)) := hp
      have el : (wid (.pair l q)).length = 1 + (wid l).length + (wid q).length := by show (true :: (wid l ++ wid q)).length = _; rw [List.length_cons, List.length_append]; omega
      rw [el, idC]
      by_cases hk : 8 * s.size ≤ k
      · rw [if_pos hk, if_neg (by omega)]
      · obtain ⟨h1, h2⟩ := hp (by omega)
        rw [preB_append] at h2
        rw [if_neg hk, if_pos h1, ihl h (k + 1) r h2.1 (by omega) hpl.2.1]
        by_cases g : k + 1 + (wid l).length ≤ 8 * s.size
        · rw [if_pos g]
          show (match idC s h (k + 1 + (wid l).length) r with
            | ⟨.inr j⟩ => (Rc.bad j : Rc (Tr Bool))
            | ⟨.inl (t, k2, r2)⟩ => Rc.ok (Tr.pair l t) k2 (r2 || sameB l t)) = _
          rw [ihr h _ r h2.2 (by omega) hpl.2.2, show k + 1 + (wid l).length + (wid q).length = k + (1 + (wid l).length + (wid q).length) by omega]
          by_cases g2 : k + (1 + (wid l).length + (wid q).length) ≤ 8 * s.size
          · rw [if_pos g2, if_pos g2]
            show Rc.ok _ _ (r || sameB l q) = _
            rw [sameB_same, hpl.1, Bool.or_false]
          · rw [if_neg g2, if_neg g2]
        · rw [if_neg g, if_neg (by omega)]

theorem sameI_no {l q : Tr Nat} (h : plainT (Tr.pair l q)) : (decide (0 < lowest l - min (lowest l) (lowest q)) && decide (0 < lowest q - min (lowest l) (lowest q)) || sameI l q) = false := by
  rw [sameI_same, h.1, Bool.or_false, Bool.and_eq_false_iff]
  simp only [decide_eq_false_iff_not]
  omega
theorem evC_reads (s : ByteArray) (t : Tr Nat) : ∀ (h base k : Nat) (r : Bool), preB s k (wev t base) → deepT t ≤ h → plainT t → base ≤ lowest t → highest t ≤ 1099511627776 →
    evC s h base k r = if k + (wev t base).length ≤ 8 * s.size then .ok (t, lowest t - base) (k + (wev t base).length) r else .bad s.size := by
  induction t using Tr.ind with
  | leaf a =>
    intro h base k r hp _ _ hb hh
    have hb : base ≤ a := hb
    have hh : a ≤ 1099511627776 := hh
    have hp : preB s k (false :: gammaB (a - base)) := hp
    have el : (wev (.leaf a) base).length = 1 + (gammaB (a - base)).length := by show (false :: gammaB (a - base)).length = _; rw [List.length_cons]; omega
    rw [el]
    by_cases hk : 8 * s.size ≤ k
    · rw [if_neg (by omega)]
      cases h <;> rw [evC, if_pos hk]
    · obtain ⟨h1, h2⟩ := hp (by omega)
      have G := gammaR_reads s (k + 1) (a - base) h2 (by omega)
      rw [show k + 1 + (gammaB (a - base)).length = k + (1 + (gammaB (a - base)).length) by omega] at G
      show _ = if _ then Rc.ok (Tr.leaf a, a - base) _ r else _
      by_cases g : k + (1 + (gammaB (a - base)).length) ≤ 8 * s.size
      · rw [if_pos g] at G
        rw [if_pos g]
        cases h with
        | zero => rw [evC, if_neg hk, if_neg (by rw [h1]; exact Bool.false_ne_true)]; simp only [G]; rw [show base + (a - base) = a by omega]
        | succ h =>
          rw [evC, if_neg hk]; simp only [G]; rw [if_neg (by rw [h1]; exact Bool.false_ne_true), show base + (a - base) = a by omega]
      · rw [if_neg g] at G
        rw [if_neg g]
        cases h with
        | zero => rw [evC, if_neg hk, if_neg (by rw [h1]; exact Bool.false_ne_true)]; simp only [G]
        | succ h => rw [evC, if_neg hk]; simp only [G]
  | pair l q ihl ihr =>
    intro h base k r hp hd hpl hb hh
    have hd : max (deepT l) (deepT q) + 1 ≤ h := hd
    have hb : base ≤ min (lowest l) (lowest q) := hb
    have hh : max (highest l) (highest q) ≤ 1099511627776 := hh
    have hlow := low_high l
    have hrough := sameI_no hpl
    show evC s h base k r = if _ then Rc.ok (Tr.pair l q, min (lowest l) (lowest q) - base) _ r else _
    have hp : preB s k (true :: (gammaB (min (lowest l) (lowest q) - base) ++ (wev l (min (lowest l) (lowest q)) ++ wev q (min (lowest l) (lowest q))))) := hp
    have el : (wev (.pair l q) base).length = 1 + (gammaB (min (lowest l) (lowest q) - base)).length + (wev l (min (lowest l) (lowest q))).length + (wev q (min (lowest l) (lowest q))).length := by
      show (true :: (gammaB (min (lowest l) (lowest q) - base) ++ (wev l (min (lowest l) (lowest q)) ++ wev q (min (lowest l) (lowest q))))).length = _
      rw [List.length_cons, List.length_append, List.length_append]; omega
    rw [el]
    have m1 := Nat.min_le_left (lowest l) (lowest q)
    have m2 := Nat.min_le_right (lowest l) (lowest q)
    generalize min (lowest l) (lowest q) = m at *
    cases h with
    | zero => omega
    | succ h =>
      rw [evC]
      by_cases hk : 8 * s.size ≤ k
      · rw [if_pos hk, if_neg (by omega)]
      · obtain ⟨h1, h2⟩ := hp (by omega)
        rw [preB_append, preB_append] at h2
        obtain ⟨h2, h3, h4⟩ := h2
        rw [if_neg hk, gammaR_reads s (k + 1) (m - base) h2 (by omega)]
        by_cases g : k + 1 + (gammaB (m - base)).length ≤ 8 * s.size
        · rw [if_pos g]
          simp only []
          rw [if_pos h1, show base + (m - base) = m by omega, ihl h m _ r h3 (by omega) hpl.2.1 m1 (by omega)]
          by_cases g2 : k + 1 + (gammaB (m - base)).length + (wev l m).length ≤ 8 * s.size
          · rw [if_pos g2]
            simp only []
            rw [ihr h m _ r h4 (by omega) hpl.2.2 m2 (by omega), show k + 1 + (gammaB (m - base)).length + (wev l m).length + (wev q m).length = k + (1 + (gammaB (m - base)).length + (wev l m).length + (wev q m).length) by omega]
            by_cases g3 : k + (1 + (gammaB (m - base)).length + (wev l m).length + (wev q m).length) ≤ 8 * s.size
            · rw [if_pos g3, if_pos g3]
              show Rc.ok _ _ (r || _) = _
              rw [hrough, Bool.or_false]
            · rw [if_neg g3, if_neg g3]
          · rw [if_neg g2, if_neg (by omega)]
        · rw [if_neg g, if_neg (by omega)]

end Go.Proofs.YtoebmfhgaalcdaaGreatDoor
