/-
  Our own. What package sprigskeep makes out of raw numbers, as plain functions.
-/
import Derived.Test.YtoebmfhgaalcdaaGreatDoorPlain
namespace Go.Proofs.YtoebmfhgaalcdaaGreatDoor

/-- Which of n things a raw number speaks of. -/
def pickP (c : Int) (n : Nat) : Nat := ((if c < 0 then -(c + 1) else c) % (n : Int)).toNat

theorem pickP_lt (c : Int) (n : Nat) (h : 0 < n) : pickP c n < n := by
  unfold pickP
  have h1 := Int.emod_nonneg (if c < 0 then -(c + 1) else c) (show (n : Int) ≠ 0 by omega)
  have h2 := Int.emod_lt_of_pos (if c < 0 then -(c + 1) else c) (show (0 : Int) < n by omega)
  omega

/-- The next raw number: 0 behind the last one. -/
def rawP (l : List Int) (i n : Nat) : Nat := if i < l.length then pickP (l.getD i 0) n else 0
def rawI (l : List Int) (i : Nat) : Nat := if i < l.length then i + 1 else i

theorem rawP_lt (l : List Int) (i n : Nat) (h : 0 < n) : rawP l i n < n := by
  unfold rawP; split
  · exact pickP_lt _ _ h
  · exact h
theorem rawI_le (l : List Int) (i : Nat) (h : i ≤ l.length) : rawI l i ≤ l.length := by unfold rawI; split <;> omega

/-- A number as it is written. -/
def digsF : Nat → Nat → List UInt8
  | 0, n => [UInt8.ofNat (48 + n)]
  | f + 1, n => if n < 10 then [UInt8.ofNat (48 + n)] else digsF f (n / 10) ++ [UInt8.ofNat (48 + n % 10)]
def digs (n : Nat) : List UInt8 := digsF n n
theorem digsF_any : ∀ (f g n : Nat), n ≤ f → n ≤ g → digsF f n = digsF g n
  | 0, 0, _, _, _ => rfl
  | 0, g + 1, n, h, _ => by rw [digsF, digsF, if_pos (by omega)]
  | f + 1, 0, n, _, h => by rw [digsF, digsF, if_pos (by omega)]
  | f + 1, g + 1, n, h1, h2 => by
    rw [digsF, digsF]
    by_cases g0 : n < 10
    · rw [if_pos g0, if_pos g0]
    · rw [if_neg g0, if_neg g0, digsF_any f g (n / 10) (by omega) (by omega)]
theorem digs_one (n : Nat) (h : n < 10) : digs n = [UInt8.ofNat (48 + n)] := by
  unfold digs
  cases n with
  | zero => rfl
  | succ n => rw [digsF, if_pos h]
theorem digs_more (n : Nat) (h : ¬ n < 10) : digs n = digs (n / 10) ++ [UInt8.ofNat (48 + n % 10)] := by
  unfold digs
  cases n with
  | zero => omega
  | succ n => rw [digsF, if_neg h, digsF_any n ((n + 1) / 10) ((n + 1) / 10) (by omega) (by omega)]

/-- An ID's text. -/
def idText : Tr Bool → List UInt8
  | ⟨.inl false⟩ => [48]
  | ⟨.inl true⟩ => [49]
  | ⟨.inr (l, r)⟩ => 40 :: idText l ++ 44 :: idText r ++ [41]

/-- EVs as they are written. -/
structure Ev where
  val : Nat
  kids : Option (Ev × Ev)
abbrev Ev.num (n : Nat) : Ev := ⟨n, none⟩
abbrev Ev.br (n : Nat) (l r : Ev) : Ev := ⟨n, some (l, r)⟩
theorem Ev.cs {motive : Ev → Prop} (num : ∀ n, motive (Ev.num n)) (br : ∀ n l r, motive (Ev.br n l r)) : ∀ e, motive e
  | ⟨n, none⟩ => num n
  | ⟨n, some (l, r)⟩ => br n l r

def evText : Ev → List UInt8
  | ⟨n, none⟩ => digs n
  | ⟨n, some (l, r)⟩ => 40 :: digs n ++ 44 :: evText l ++ 44 :: evText r ++ [41]

/-- Both are the same leaf. -/
def joinB (a b : Tr Bool) : Tr Bool :=
  match a, b with
  | ⟨.inl x⟩, ⟨.inl y⟩ => if x = y then .leaf x else .pair a b
  | _, _ => .pair a b

/-- A plain ID out of raw numbers from place i on; the place behind. -/
def anIdP (l : List Int) : Nat → Nat → Tr Bool × Nat
  | 0, i => (.leaf (rawP l (rawI l i) 2 == 1), rawI l (rawI l i))
  | h + 1, i =>
    if rawP l i 5 < 2 then (.leaf (rawP l (rawI l i) 2 == 1), rawI l (rawI l i)) else
    let a := anIdP l h (rawI l i)
    let b := anIdP l h a.2
    (joinB a.1 b.1, b.2)

/-- Both are 0. -/
def isZero : Ev → Bool
  | ⟨0, none⟩ => true
  | _ => false

def joinE (n : Nat) (a b : Ev) : Ev := if (isZero a && isZero b) = true then .num n else .br n a b

/-- A plain EV out of raw numbers. -/
def anEvP (l : List Int) : Nat → Bool → Nat → Ev × Nat
  | 0, low, i => (.num (if low then 0 else rawP l i 60), rawI l (rawI l i))
  | h + 1, low, i =>
    if rawP l (rawI l i) 5 < 2 then (.num (if low then 0 else rawP l i 60), rawI l (rawI l i)) else
    let left := rawP l (rawI l (rawI l i)) 2 == 0
    let a := anEvP l h left (rawI l (rawI l (rawI l i)))
    let b := anEvP l h (!left) a.2
    (joinE (if low then 0 else rawP l i 60) a.1 b.1, b.2)

/-- A stamp's text out of raw numbers. -/
def stampId (l : List Int) : Tr Bool := (anIdP l 8 0).1
def stampEv (l : List Int) : Ev := (anEvP l 8 false (anIdP l 8 0).2).1
def stampText (l : List Int) : List UInt8 := idText (stampId l) ++ 59 :: evText (stampEv l)

end Go.Proofs.YtoebmfhgaalcdaaGreatDoor
