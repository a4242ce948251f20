/-
  Our own. What package sprigskeep makes out of raw numbers, as plain functions.
-/
import Derived.Test.YtoebmfhgaalcdaaGreatDoorPlain
import Derived.Test.YtoebmfhgaalcdaaGreatDoorBase
namespace Go.Proofs.YtoebmfhgaalcdaaGreatDoor

/-- Which of n things a raw number speaks of. -/
def pickP (c : Int) (n : Nat) : Nat := ((if c < 0 then -(c + 1) else c) % (n : Int)).toNat

theorem pickP_lt (c : Int) (n : Nat) (h : 0 < n) : pickP c n < n := by
  unfold pickP
  have h1 := Int.emod_nonneg (if c < 0 then -(c + 1) else c) (show (n : Int) ≠ 0 by omega)
  have h2 := Int.emod_lt_of_pos (if c < 0 then -(c + 1) else c) (show (0 : Int) < n by omega)
  omega

/-- The next raw number: 0 behind the last one. -/
def rawP (l : List Int) (i n : Nat) : Nat := if i < l.length then pickP (l.getD i 0) n else 0
def rawI (l : List Int) (i : Nat) : Nat := if i < l.length then i + 1 else i

theorem rawP_lt (l : List Int) (i n : Nat) (h : 0 < n) : rawP l i n < n := by
  unfold rawP; split
  · exact pickP_lt _ _ h
  · exact h
theorem rawI_le (l : List Int) (i : Nat) (h : i ≤ l.length) : rawI l i ≤ l.length := by unfold rawI; split <;> omega

/-- A number as it is written. -/
def digsF : Nat → Nat → List UInt8
  | 0, n => [UInt8.ofNat (48 + n)]
  | f + 1, n => if n < 10 then [UInt8.ofNat (48 + n)] else digsF f (n / 10) ++ [UInt8.ofNat (48 + n % 10)]
def digs (n : Nat) : List UInt8 := digsF n n
theorem digsF_any : ∀ (f g n : Nat), n ≤ f → n ≤ g → digsF f n = digsF g n
  | 0, 0, _, _, _ => rfl
  | 0, g + 1, n, h, _ => by rw [digsF, digsF, if_pos (by omega)]
  | f + 1, 0, n, _, h => by rw [digsF, digsF, if_pos (by omega)]
  | f + 1, g + 1, n, h1, h2 => by
    rw [digsF, digsF]
    by_cases g0 : n < 10
    · rw [if_pos g0, if_pos g0]
    · rw [if_neg g0, if_neg g0, digsF_any f g (n / 10) (by omega) (by omega)]
theorem digs_one (n : Nat) (h : n < 10) : digs n = [UInt8.ofNat (48 + n)] := by
  unfold digs
  cases n with
  | zero => rfl
  | succ n => rw [digsF, if_pos h]
theorem digs_more (n : Nat) (h : ¬ n < 10) : digs n = digs (n / 10) ++ [UInt8.ofNat (48 + n % 10)] := by
  unfold digs
  cases n with
  | zero => omega
  | succ n => rw [digsF, if_neg h, digsF_any n ((n + 1) / 10) ((n + 1) / 10) (by omega) (by omega)]

/-- An ID's text. -/
def idText : Tr Bool → List UInt8
  | ⟨.inl false⟩ => [48]
  | ⟨.inl true⟩ => [49]
  | ⟨.inr (l, r)⟩ => 40 :: idText l ++ 44 :: idText r ++ [41]

/-- EVs as they are written. -/
structure Ev where
  val : Nat
  kids : Option (Ev × Ev)
abbrev Ev.num (n : Nat) : Ev := ⟨n, none⟩
abbrev Ev.br (n : Nat) (l r : Ev) : Ev := ⟨n, some (l, r)⟩
theorem Ev.cs {motive : Ev → Prop} (num : ∀ n, motive (Ev.num n)) (br : ∀ n l r, motive (Ev.br n l r)) : ∀ e, motive e
  | ⟨n, none⟩ => num n
  | ⟨n, some (l, r)⟩ => br n l r

def evText : Ev → List UInt8
  | ⟨n, none⟩ => digs n
  | ⟨n, some (l, r)⟩ => 40 :: digs n ++ 44 :: evText l ++ 44 :: evText r ++ [41]

/-- Both are the same leaf. -/
def joinB (a b : Tr Bool) : Tr Bool :=
  match a, b with
  | ⟨.inl x⟩, ⟨.inl y⟩ => if x = y then .leaf x else .pair a b
  | _, _ => .pair a b

/-- A plain ID out of raw numbers from place i on; the place behind. -/
def anIdP (l : List Int) : Nat → Nat → Tr Bool × Nat
  | 0, i => (.leaf (rawP l (rawI l i) 2 == 1), rawI l (rawI l i))
  | h + 1, i =>
    if rawP l i 5 < 2 then (.leaf (rawP l (rawI l i) 2 == 1), rawI l (rawI l i)) else
    let a := anIdP l h (rawI l i)
    let b := anIdP l h a.2
    (joinB a.1 b.1, b.2)

/-- Both are 0. -/
def isZero : Ev → Bool
  | ⟨0, none⟩ => true
  | _ => false

def joinE (n : Nat) (a b : Ev) : Ev := if (isZero a && isZero b) = true then .num n else .br n a b

/-- A plain EV out of raw numbers. -/
def anEvP (l : List Int) : Nat → Bool → Nat → Ev × Nat
  | 0, low, i => (.num (if low then 0 else rawP l i 60), rawI l (rawI l i))
  | h + 1, low, i =>
    if rawP l (rawI l i) 5 < 2 then (.num (if low then 0 else rawP l i 60), rawI l (rawI l i)) else
    let left := rawP l (rawI l (rawI l i)) 2 == 0
    let a := anEvP l h left (rawI l (rawI l (rawI l i)))
    let b := anEvP l h (!left) a.2
    (joinE (if low then 0 else rawP l i 60) a.1 b.1, b.2)

/-- A stamp's text out of raw numbers. -/
def stampId (l : List Int) : Tr Bool := (anIdP l 8 0).1
def stampEv (l : List Int) : Ev := (anEvP l 8 false (anIdP l 8 0).2).1
def stampText (l : List Int) : List UInt8 := idText (stampId l) ++ 59 :: evText (stampEv l)

end Go.Proofs.YtoebmfhgaalcdaaGreatDoor

namespace Go.Proofs.YtoebmfhgaalcdaaGreatDoor

theorem idText_pos (t : Tr Bool) : 1 ≤ (idText t).length := by
  cases t using Tr.cs with
  | leaf a => cases a <;> simp [idText]
  | pair l r => simp [idText]

theorem idText_leaf (t : Tr Bool) (h : (idText t).length = 1) : ∃ x, t = .leaf x := by
  cases t using Tr.cs with
  | leaf a => exact ⟨a, rfl⟩
  | pair l r => have := idText_pos l; simp [idText] at h

theorem joinB_same (a b : Tr Bool) (he : idText a = idText b) (hl : (idText a).length = 1) : idText (joinB a b) = idText a := by
  obtain ⟨x, rfl⟩ := idText_leaf a hl
  obtain ⟨y, rfl⟩ := idText_leaf b (by rw [← he]; exact hl)
  cases x <;> cases y <;> simp [idText, joinB] at *

theorem joinB_diff (a b : Tr Bool) (h : ¬ (idText a = idText b ∧ (idText a).length = 1)) : joinB a b = .pair a b := by
  cases a using Tr.cs with
  | pair l r => rfl
  | leaf x =>
    cases b using Tr.cs with
    | pair l r => rfl
    | leaf y =>
      unfold joinB
      by_cases e : x = y
      · exfalso; apply h; subst e; exact ⟨rfl, by cases x <;> rfl⟩
      · simp [e]

theorem anIdP_place (l : List Int) : ∀ (h i : Nat), i ≤ l.length → (anIdP l h i).2 ≤ l.length
  | 0, i, hi => rawI_le l _ (rawI_le l _ hi)
  | h + 1, i, hi => by
    rw [anIdP]
    split
    · exact rawI_le l _ (rawI_le l _ hi)
    · exact anIdP_place l h _ (anIdP_place l h _ (rawI_le l _ hi))

theorem idText_join_le (a b : Tr Bool) (n : Nat) (ha : (idText a).length ≤ n) (hb : (idText b).length ≤ n) : (idText (joinB a b)).length ≤ 2 * n + 3 := by
  by_cases h : idText a = idText b ∧ (idText a).length = 1
  · rw [joinB_same a b h.1 h.2]; omega
  · rw [joinB_diff a b h]; simp [idText]; omega

theorem anIdP_len (l : List Int) : ∀ (h i : Nat), (idText (anIdP l h i).1).length ≤ 4 * 2 ^ h - 3
  | 0, i => by
    rw [anIdP]; simp only
    cases (rawP l (rawI l i) 2 == 1) <;> simp [idText]
  | h + 1, i => by
    have hp : 1 ≤ 2 ^ h := Nat.one_le_two_pow
    have e : 2 ^ (h + 1) = 2 * 2 ^ h := by rw [Nat.pow_succ]; omega
    rw [anIdP]
    split
    · have : (idText (.leaf (rawP l (rawI l i) 2 == 1))).length = 1 := by cases (rawP l (rawI l i) 2 == 1) <;> simp [idText]
      simp only [this]; omega
    · have h1 := anIdP_len l h (rawI l i)
      have h2 := anIdP_len l h (anIdP l h (rawI l i)).2
      have := idText_join_le _ _ _ h1 h2
      simp only
      omega

theorem anIdP_len8 (l : List Int) (h i : Nat) (hh : h ≤ 8) : (idText (anIdP l h i).1).length ≤ 1021 := by
  have := anIdP_len l h i
  have h2 : 2 ^ h ≤ 2 ^ 8 := Nat.pow_le_pow_right (by omega) hh
  omega

theorem anIdP_low (l : List Int) (h i : Nat) (hk : h = 0 ∨ rawP l i 5 < 2) : anIdP l h i = (.leaf (rawP l (rawI l i) 2 == 1), rawI l (rawI l i)) := by
  cases h with
  | zero => rfl
  | succ h => rw [anIdP, if_pos (by rcases hk with h | h; omega; exact h)]

theorem anIdP_high (l : List Int) (h i : Nat) (hk : ¬ rawP l i 5 < 2) : anIdP l (h + 1) i = (joinB (anIdP l h (rawI l i)).1 (anIdP l h (anIdP l h (rawI l i)).2).1, (anIdP l h (anIdP l h (rawI l i)).2).2) := by
  rw [anIdP, if_neg hk]

theorem idText_bit (n : Nat) (h : n < 2) : idText (.leaf (n == 1)) = digs n := by
  have : n = 0 ∨ n = 1 := by omega
  rcases this with rfl | rfl
  · rw [digs_one 0 (by omega)]; rfl
  · rw [digs_one 1 (by omega)]; rfl

/-- A text as a byte array. -/
def strOf (l : List UInt8) : ByteArray := ⟨l.toArray⟩
theorem strOf_size (l : List UInt8) : (strOf l).size = l.length := by simp [strOf, ByteArray.size]
theorem strOf_append (a b : List UInt8) : strOf a ++ strOf b = strOf (a ++ b) := by
  apply ByteArray.ext
  simp [strOf, ByteArray.data_append]
theorem strOf_inj {a b : List UInt8} (h : strOf a = strOf b) : a = b := by
  have := congrArg (fun x => x.data.toList) h
  simpa [strOf] using this

theorem strOf_list (l : List UInt8) : (strOf l).toList = l := by
  rw [ByteArray.toList_eq]; simp [strOf]
theorem str_same {a b : List UInt8} (h : a = b) : ((strOf a).toList == (strOf b).toList) = true := by simp [h]
theorem str_diff {a b : List UInt8} (h : a ≠ b) : ((strOf a).toList == (strOf b).toList) = false := by
  rw [strOf_list, strOf_list]; simpa using h

end Go.Proofs.YtoebmfhgaalcdaaGreatDoor

namespace Go.Proofs.YtoebmfhgaalcdaaGreatDoor

theorem digs_pos (n : Nat) : 1 ≤ (digs n).length := by
  by_cases g : n < 10
  · rw [digs_one n g]; simp
  · rw [digs_more n g]; simp
theorem digs_zero (n : Nat) : digs n = [48] ↔ n = 0 := by
  constructor
  · intro h
    by_cases g : n < 10
    · rw [digs_one n g] at h
      injection h with h1 _
      have h2 := congrArg UInt8.toNat h1
      rw [UInt8.toNat_ofNat_of_lt' (by show 48 + n < 256; omega)] at h2
      have : (48 : UInt8).toNat = 48 := rfl
      omega
    · rw [digs_more n g] at h
      have := congrArg List.length h
      have p := digs_pos (n / 10)
      simp only [List.length_append, List.length_cons, List.length_nil] at this
      omega
  · rintro rfl; rw [digs_one 0 (by omega)]; rfl

theorem isZero_iff (e : Ev) : isZero e = true ↔ evText e = [48] := by
  cases e using Ev.cs with
  | num n =>
    cases n with
    | zero => simp [isZero, evText, digs_zero]
    | succ n => simp [isZero, evText, digs_zero]
  | br n l r => simp [isZero, evText]

theorem joinE_zero (n : Nat) (a b : Ev) (ha : evText a = [48]) (hb : evText b = [48]) : joinE n a b = .num n := by
  unfold joinE; rw [(isZero_iff a).2 ha, (isZero_iff b).2 hb]; rfl
theorem joinE_diff (n : Nat) (a b : Ev) (h : ¬ (evText a = [48] ∧ evText b = [48])) : joinE n a b = .br n a b := by
  unfold joinE
  rw [if_neg]
  intro g
  rw [Bool.and_eq_true, isZero_iff, isZero_iff] at g
  exact h g

theorem anEvP_place (l : List Int) : ∀ (h : Nat) (low : Bool) (i : Nat), i ≤ l.length → (anEvP l h low i).2 ≤ l.length
  | 0, low, i, hi => rawI_le l _ (rawI_le l _ hi)
  | h + 1, low, i, hi => by
    rw [anEvP]
    split
    · exact rawI_le l _ (rawI_le l _ hi)
    · exact anEvP_place l h _ _ (anEvP_place l h _ _ (rawI_le l _ (rawI_le l _ (rawI_le l _ hi))))

theorem digs_len60 (n : Nat) (h : n < 60) : (digs n).length ≤ 2 := by
  by_cases g : n < 10
  · rw [digs_one n g]; simp
  · rw [digs_more n g, digs_one _ (by omega)]; simp

theorem evText_join_le (n : Nat) (a b : Ev) (m : Nat) (hn : n < 60) (ha : (evText a).length ≤ m) (hb : (evText b).length ≤ m) : (evText (joinE n a b)).length ≤ 2 * m + 6 := by
  have hd := digs_len60 n hn
  by_cases h : evText a = [48] ∧ evText b = [48]
  · rw [joinE_zero n a b h.1 h.2]; simp only [evText]; omega
  · rw [joinE_diff n a b h]; simp [evText]; omega

theorem low60 (low : Bool) (l : List Int) (i : Nat) : (if low = true then 0 else rawP l i 60) < 60 := by
  split
  · omega
  · exact rawP_lt _ _ _ (by omega)

theorem anEvP_len (l : List Int) : ∀ (h : Nat) (low : Bool) (i : Nat), (evText (anEvP l h low i).1).length ≤ 8 * 2 ^ h - 6
  | 0, low, i => by
    rw [anEvP]; simp only [evText]
    have := digs_len60 _ (low60 low l i)
    omega
  | h + 1, low, i => by
    have hp : 1 ≤ 2 ^ h := Nat.one_le_two_pow
    have e : 2 ^ (h + 1) = 2 * 2 ^ h := by rw [Nat.pow_succ]; omega
    rw [anEvP]
    split
    · simp only [evText]
      have := digs_len60 _ (low60 low l i)
      omega
    · have h1 := anEvP_len l h (rawP l (rawI l (rawI l i)) 2 == 0) (rawI l (rawI l (rawI l i)))
      have h2 := anEvP_len l h (!(rawP l (rawI l (rawI l i)) 2 == 0)) (anEvP l h (rawP l (rawI l (rawI l i)) 2 == 0) (rawI l (rawI l (rawI l i)))).2
      have := evText_join_le _ _ _ _ (low60 low l i) h1 h2
      simp only
      omega

theorem anEvP_len8 (l : List Int) (h : Nat) (low : Bool) (i : Nat) (hh : h ≤ 8) : (evText (anEvP l h low i).1).length ≤ 2042 := by
  have := anEvP_len l h low i
  have h2 : 2 ^ h ≤ 2 ^ 8 := Nat.pow_le_pow_right (by omega) hh
  omega

theorem anEvP_low (l : List Int) (h : Nat) (low : Bool) (i : Nat) (hk : h = 0 ∨ rawP l (rawI l i) 5 < 2) : anEvP l h low i = (.num (if low then 0 else rawP l i 60), rawI l (rawI l i)) := by
  cases h with
  | zero => rfl
  | succ h => rw [anEvP, if_pos (by rcases hk with h | h; omega; exact h)]

theorem anEvP_high (l : List Int) (h : Nat) (low : Bool) (i : Nat) (hk : ¬ rawP l (rawI l i) 5 < 2) : anEvP l (h + 1) low i =
    (joinE (if low then 0 else rawP l i 60) (anEvP l h (rawP l (rawI l (rawI l i)) 2 == 0) (rawI l (rawI l (rawI l i)))).1
      (anEvP l h (!(rawP l (rawI l (rawI l i)) 2 == 0)) (anEvP l h (rawP l (rawI l (rawI l i)) 2 == 0) (rawI l (rawI l (rawI l i)))).2).1,
      (anEvP l h (!(rawP l (rawI l (rawI l i)) 2 == 0)) (anEvP l h (rawP l (rawI l (rawI l i)) 2 == 0) (rawI l (rawI l (rawI l i)))).2).2) := by
  rw [anEvP, if_neg hk]

end Go.Proofs.YtoebmfhgaalcdaaGreatDoor

namespace Go.Proofs.YtoebmfhgaalcdaaGreatDoor
open Go.RowKit

theorem str_one (N : Nat) (x : Int) (W : World) (h : W.cell? ⟨N, 0, none⟩ = some (.int .u8 x)) : (convert 27 9 (.slice (some ⟨N, 0, none⟩) 1 1)).run Tryz.prog W = .ok (.string ⟨#[UInt8.ofNat x.toNat]⟩) W := by
  have := run_convert_bytes_arg (P := Tryz.prog) W 27 5 Tryz.underlying27 Tryz.underlying5 N 0 1 1 [x] rfl (fun i hi => by
    have e : i = 0 := by omega
    subst e; simpa using h) 9 Tryz.underlying9
  rw [this]
  simp [strOfNums]

theorem cell_of_block {w w' : World} {bl o : Nat} (h : w'.heap[bl]? = w.heap[bl]?) : w'.cell? ⟨bl, o, none⟩ = w.cell? ⟨bl, o, none⟩ := by
  simp only [World.cell?, h]

theorem digs_len : ∀ (k n : Nat), n < 10 ^ (k + 1) → (digs n).length ≤ k + 1
  | 0, n, h => by rw [digs_one n (by simpa using h)]; simp
  | k + 1, n, h => by
    by_cases g : n < 10
    · rw [digs_one n g]; simp
    · rw [digs_more n g]
      have := digs_len k (n / 10) (by rw [Nat.pow_succ] at h; omega)
      simp; omega

theorem bcell {W w1 : World} (hb : Below W.heap.size W w1) : (∀ b o, b < W.heap.size → w1.cell? ⟨b, o, none⟩ = W.cell? ⟨b, o, none⟩) ∧ (∀ b o, b < W.heap.size → w1.frozen? ⟨b, o, none⟩ = W.frozen? ⟨b, o, none⟩) :=
  ⟨fun b o h => hb.cell (p := ⟨b, o, none⟩) h, fun b o h => hb.frozen (p := ⟨b, o, none⟩) h⟩

theorem quo_ten (n : Nat) (hn : n ≤ 4611686018427387904) : IntKind.i64.wrap ((n : Int) / 10) = ((n / 10 : Nat) : Int) := by
  rw [IntKind.wrap_i64]; omega
theorem rem_ten (n : Nat) : IntKind.u8.wrap (IntKind.i64.wrap (48 + (n : Int).tmod 10)) = 48 + (n : Int) % 10 := by
  rw [IntKind.wrap_u8, IntKind.wrap_i64, Int.tmod_eq_emod_of_nonneg (by omega)]; omega

theorem id_join (A C : Tr Bool) : Ending.returned (.string (({ data := #[40] } : ByteArray) ++ strOf (idText A) ++ { data := #[44] } ++ strOf (idText C) ++ { data := #[41] })) = Ending.returned (.string (strOf (idText (.pair A C)))) := by
  have e : ∀ c : UInt8, ({ data := #[c] } : ByteArray) = strOf [c] := fun _ => rfl
  rw [e, e, e, strOf_append, strOf_append, strOf_append, strOf_append]
  simp [idText]

theorem ev_join (n : Nat) (A C : Ev) : Ending.returned (.string (({ data := #[40] } : ByteArray) ++ strOf (digs n) ++ { data := #[44] } ++ strOf (evText A) ++ { data := #[44] } ++ strOf (evText C) ++ { data := #[41] })) = Ending.returned (.string (strOf (evText (.br n A C)))) := by
  have e : ∀ c : UInt8, ({ data := #[c] } : ByteArray) = strOf [c] := fun _ => rfl
  rw [e, e, e, strOf_append, strOf_append, strOf_append, strOf_append, strOf_append, strOf_append]
  simp [evText]

end Go.Proofs.YtoebmfhgaalcdaaGreatDoor
