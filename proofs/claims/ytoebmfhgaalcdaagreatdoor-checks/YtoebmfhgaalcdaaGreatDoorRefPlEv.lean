/-
  Our own. sprigsref.plainEv.
-/
import Derived.Test.YtoebmfhgaalcdaaGreatDoorRefFront
namespace Go.Proofs.YtoebmfhgaalcdaaGreatDoor
open Go.RowKit

set_option maxRecDepth 100000 in
set_option maxHeartbeats 1000000 in
theorem pev_leaf (s : ByteArray) (i n j : Nat) (w : World) (hs : s.size ≤ 20000) (hi : i < s.size) (hc : nx s i ≠ 40) (hf : numF s i = .ok n j) :
    Calls Tryz.prog 81 #[.string s, .int .i64 i] w fun e w' => e = .returned (.tuple #[.int .i64 (-1), .int .i64 (j : Nat)]) ∧ w' = w := by
  have e0 := nx_in s i hi
  have hne : ((s[i].toNat : Int) != 40) = true := by rw [bne_iff_ne]; omega
  have N := hide (fun w1 => number_any s i w1 hs)
  rw [hf] at N
  clear e0 hc hf
  go_enter Tryz.func81, Tryz.ntmps81
  go_wp2_with fail
  refine (unhide N _).mono ?_
  rintro e w1 ⟨rfl, rfl⟩
  simp only [numRes]
  go_wp2_with fail
  go_ret2
  exact ⟨rfl, rfl⟩

set_option maxRecDepth 100000 in
set_option maxHeartbeats 4000000 in
theorem pev_both (s : ByteArray) (i i1 i2 i4 n ln un : Nat) (v1 v2 : Int) (w : World) (hs : s.size ≤ 20000) (hi : i < i1) (hi1 : i1 < i2) (hi2 : i2 < i4) (hi4 : i4 < s.size) (hc : nx s i = 40)
    (N : Hid (∀ w1, Calls Tryz.prog 124 #[.string s, .int .i64 ((i + 1 : Nat) : Int)] w1 fun e w' => e = .returned (.tuple #[.int .i64 (n : Nat), .int .i64 (i1 : Nat), .int .i64 (-1)]) ∧ w' = w1))
    (I1 : Hid (∀ w1, Calls Tryz.prog 81 #[.string s, .int .i64 ((i1 + 1 : Nat) : Int)] w1 fun e w' => e = .returned (.tuple #[.int .i64 v1, .int .i64 (i2 : Nat)]) ∧ w' = w1))
    (I2 : Hid (∀ w1, Calls Tryz.prog 81 #[.string s, .int .i64 ((i2 + 1 : Nat) : Int)] w1 fun e w' => e = .returned (.tuple #[.int .i64 v2, .int .i64 (i4 : Nat)]) ∧ w' = w1))
    (F1 : Hid (∀ w1, Calls Tryz.prog 125 #[.string (s.extract (i1 + 1) i2)] w1 fun e w' => e = .returned (.int .i64 (ln : Nat)) ∧ w' = w1))
    (F2 : Hid (∀ w1, Calls Tryz.prog 125 #[.string (s.extract (i2 + 1) i4)] w1 fun e w' => e = .returned (.int .i64 (un : Nat)) ∧ w' = w1))
    (k1 : (((ln : Nat) : Int) != 0) = true) (k2 : (((un : Nat) : Int) != 0) = true) :
    Calls Tryz.prog 81 #[.string s, .int .i64 i] w fun e w' => e = .returned (.tuple #[.int .i64 (i : Nat), .int .i64 ((i4 + 1 : Nat) : Int)]) ∧ w' = w := by
  have e0 := nx_in s i (by omega)
  have hne : ((s[i].toNat : Int) != 40) = false := by rw [bne_eq_false_iff_eq]; omega
  have li : i < s.size := by omega
  clear hc e0
  go_enter Tryz.func81, Tryz.ntmps81
  go_wp2_with fail
  refine (unhide N _).mono ?_
  rintro e w1 ⟨rfl, rfl⟩
  go_wp2_with fail
  refine (unhide I1 _).mono ?_
  rintro e w1 ⟨rfl, rfl⟩
  go_wp2_with fail
  refine (unhide I2 _).mono ?_
  rintro e w1 ⟨rfl, rfl⟩
  go_wp2_with fail
  refine (unhide F1 _).mono ?_
  rintro e w1 ⟨rfl, rfl⟩
  go_wp2_with fail
  refine (unhide F2 _).mono ?_
  rintro e w1 ⟨rfl, rfl⟩
  go_wp2_with fail
  go_ret2
  exact ⟨rfl, rfl⟩

set_option maxRecDepth 100000 in
set_option maxHeartbeats 4000000 in
theorem pev_zeros (s : ByteArray) (i i1 i2 i4 n ln un : Nat) (v1 v2 : Int) (w : World) (hs : s.size ≤ 20000) (hi : i < i1) (hi1 : i1 < i2) (hi2 : i2 < i4) (hi4 : i4 < s.size) (hc : nx s i = 40)
    (N : Hid (∀ w1, Calls Tryz.prog 124 #[.string s, .int .i64 ((i + 1 : Nat) : Int)] w1 fun e w' => e = .returned (.tuple #[.int .i64 (n : Nat), .int .i64 (i1 : Nat), .int .i64 (-1)]) ∧ w' = w1))
    (I1 : Hid (∀ w1, Calls Tryz.prog 81 #[.string s, .int .i64 ((i1 + 1 : Nat) : Int)] w1 fun e w' => e = .returned (.tuple #[.int .i64 v1, .int .i64 (i2 : Nat)]) ∧ w' = w1))
    (I2 : Hid (∀ w1, Calls Tryz.prog 81 #[.string s, .int .i64 ((i2 + 1 : Nat) : Int)] w1 fun e w' => e = .returned (.tuple #[.int .i64 v2, .int .i64 (i4 : Nat)]) ∧ w' = w1))
    (F1 : Hid (∀ w1, Calls Tryz.prog 125 #[.string (s.extract (i1 + 1) i2)] w1 fun e w' => e = .returned (.int .i64 (ln : Nat)) ∧ w' = w1))
    (F2 : Hid (∀ w1, Calls Tryz.prog 125 #[.string (s.extract (i2 + 1) i4)] w1 fun e w' => e = .returned (.int .i64 (un : Nat)) ∧ w' = w1))
    (k : ((((ln : Nat) : Int) != 0) = false ∨ ((((ln : Nat) : Int) != 0) = true ∧ (((un : Nat) : Int) != 0) = false))) (k3 : ((s.extract (i1 + 1) i2).toList == [48]) = true) (k4 : ((s.extract (i2 + 1) i4).toList == [48]) = true) :
    Calls Tryz.prog 81 #[.string s, .int .i64 i] w fun e w' => e = .returned (.tuple #[.int .i64 (i : Nat), .int .i64 ((i4 + 1 : Nat) : Int)]) ∧ w' = w := by
  have e0 := nx_in s i (by omega)
  have hne : ((s[i].toNat : Int) != 40) = false := by rw [bne_eq_false_iff_eq]; omega
  have li : i < s.size := by omega
  clear hc e0
  rcases k with k1 | ⟨k1, k2⟩
  · go_enter Tryz.func81, Tryz.ntmps81
    go_wp2_with fail
    refine (unhide N _).mono ?_
    rintro e w1 ⟨rfl, rfl⟩
    go_wp2_with fail
    refine (unhide I1 _).mono ?_
    rintro e w1 ⟨rfl, rfl⟩
    go_wp2_with fail
    refine (unhide I2 _).mono ?_
    rintro e w1 ⟨rfl, rfl⟩
    go_wp2_with fail
    refine (unhide F1 _).mono ?_
    rintro e w1 ⟨rfl, rfl⟩
    go_wp2_with fail
    refine (unhide F2 _).mono ?_
    rintro e w1 ⟨rfl, rfl⟩
    go_wp2_with fail
    go_ret2
    exact ⟨rfl, rfl⟩
  · go_enter Tryz.func81, Tryz.ntmps81
    go_wp2_with fail
    refine (unhide N _).mono ?_
    rintro e w1 ⟨rfl, rfl⟩
    go_wp2_with fail
    refine (unhide I1 _).mono ?_
    rintro e w1 ⟨rfl, rfl⟩
    go_wp2_with fail
    refine (unhide I2 _).mono ?_
    rintro e w1 ⟨rfl, rfl⟩
    go_wp2_with fail
    refine (unhide F1 _).mono ?_
    rintro e w1 ⟨rfl, rfl⟩
    go_wp2_with fail
    refine (unhide F2 _).mono ?_
    rintro e w1 ⟨rfl, rfl⟩
    go_wp2_with fail
    go_ret2
    exact ⟨rfl, rfl⟩

set_option maxRecDepth 100000 in
set_option maxHeartbeats 4000000 in
theorem pev_first (s : ByteArray) (i i1 i2 i4 n ln un : Nat) (v1 v2 : Int) (w : World) (hs : s.size ≤ 20000) (hi : i < i1) (hi1 : i1 < i2) (hi2 : i2 < i4) (hi4 : i4 < s.size) (hc : nx s i = 40)
    (N : Hid (∀ w1, Calls Tryz.prog 124 #[.string s, .int .i64 ((i + 1 : Nat) : Int)] w1 fun e w' => e = .returned (.tuple #[.int .i64 (n : Nat), .int .i64 (i1 : Nat), .int .i64 (-1)]) ∧ w' = w1))
    (I1 : Hid (∀ w1, Calls Tryz.prog 81 #[.string s, .int .i64 ((i1 + 1 : Nat) : Int)] w1 fun e w' => e = .returned (.tuple #[.int .i64 v1, .int .i64 (i2 : Nat)]) ∧ w' = w1))
    (I2 : Hid (∀ w1, Calls Tryz.prog 81 #[.string s, .int .i64 ((i2 + 1 : Nat) : Int)] w1 fun e w' => e = .returned (.tuple #[.int .i64 v2, .int .i64 (i4 : Nat)]) ∧ w' = w1))
    (F1 : Hid (∀ w1, Calls Tryz.prog 125 #[.string (s.extract (i1 + 1) i2)] w1 fun e w' => e = .returned (.int .i64 (ln : Nat)) ∧ w' = w1))
    (F2 : Hid (∀ w1, Calls Tryz.prog 125 #[.string (s.extract (i2 + 1) i4)] w1 fun e w' => e = .returned (.int .i64 (un : Nat)) ∧ w' = w1))
    (k : ((((ln : Nat) : Int) != 0) = false ∨ ((((ln : Nat) : Int) != 0) = true ∧ (((un : Nat) : Int) != 0) = false))) (k' : ((s.extract (i1 + 1) i2).toList == [48]) = false ∨ (((s.extract (i1 + 1) i2).toList == [48]) = true ∧ ((s.extract (i2 + 1) i4).toList == [48]) = false)) (hv : 0 ≤ v1) :
    Calls Tryz.prog 81 #[.string s, .int .i64 i] w fun e w' => e = .returned (.tuple #[.int .i64 v1, .int .i64 ((i4 + 1 : Nat) : Int)]) ∧ w' = w := by
  have e0 := nx_in s i (by omega)
  have hne : ((s[i].toNat : Int) != 40) = false := by rw [bne_eq_false_iff_eq]; omega
  have li : i < s.size := by omega
  clear hc e0
  rcases k with k1 | ⟨k1, k2⟩ <;> rcases k' with k3 | ⟨k3, k4⟩
  · go_enter Tryz.func81, Tryz.ntmps81
    go_wp2_with fail
    refine (unhide N _).mono ?_
    rintro e w1 ⟨rfl, rfl⟩
    go_wp2_with fail
    refine (unhide I1 _).mono ?_
    rintro e w1 ⟨rfl, rfl⟩
    go_wp2_with fail
    refine (unhide I2 _).mono ?_
    rintro e w1 ⟨rfl, rfl⟩
    go_wp2_with fail
    refine (unhide F1 _).mono ?_
    rintro e w1 ⟨rfl, rfl⟩
    go_wp2_with fail
    refine (unhide F2 _).mono ?_
    rintro e w1 ⟨rfl, rfl⟩
    go_wp2_with fail
    go_ret2
    exact ⟨rfl, rfl⟩
  · go_enter Tryz.func81, Tryz.ntmps81
    go_wp2_with fail
    refine (unhide N _).mono ?_
    rintro e w1 ⟨rfl, rfl⟩
    go_wp2_with fail
    refine (unhide I1 _).mono ?_
    rintro e w1 ⟨rfl, rfl⟩
    go_wp2_with fail
    refine (unhide I2 _).mono ?_
    rintro e w1 ⟨rfl, rfl⟩
    go_wp2_with fail
    refine (unhide F1 _).mono ?_
    rintro e w1 ⟨rfl, rfl⟩
    go_wp2_with fail
    refine (unhide F2 _).mono ?_
    rintro e w1 ⟨rfl, rfl⟩
    go_wp2_with fail
    go_ret2
    exact ⟨rfl, rfl⟩
  · go_enter Tryz.func81, Tryz.ntmps81
    go_wp2_with fail
    refine (unhide N _).mono ?_
    rintro e w1 ⟨rfl, rfl⟩
    go_wp2_with fail
    refine (unhide I1 _).mono ?_
    rintro e w1 ⟨rfl, rfl⟩
    go_wp2_with fail
    refine (unhide I2 _).mono ?_
    rintro e w1 ⟨rfl, rfl⟩
    go_wp2_with fail
    refine (unhide F1 _).mono ?_
    rintro e w1 ⟨rfl, rfl⟩
    go_wp2_with fail
    refine (unhide F2 _).mono ?_
    rintro e w1 ⟨rfl, rfl⟩
    go_wp2_with fail
    go_ret2
    exact ⟨rfl, rfl⟩
  · go_enter Tryz.func81, Tryz.ntmps81
    go_wp2_with fail
    refine (unhide N _).mono ?_
    rintro e w1 ⟨rfl, rfl⟩
    go_wp2_with fail
    refine (unhide I1 _).mono ?_
    rintro e w1 ⟨rfl, rfl⟩
    go_wp2_with fail
    refine (unhide I2 _).mono ?_
    rintro e w1 ⟨rfl, rfl⟩
    go_wp2_with fail
    refine (unhide F1 _).mono ?_
    rintro e w1 ⟨rfl, rfl⟩
    go_wp2_with fail
    refine (unhide F2 _).mono ?_
    rintro e w1 ⟨rfl, rfl⟩
    go_wp2_with fail
    go_ret2
    exact ⟨rfl, rfl⟩

set_option maxRecDepth 100000 in
set_option maxHeartbeats 4000000 in
theorem pev_second (s : ByteArray) (i i1 i2 i4 n ln un : Nat) (v1 v2 : Int) (w : World) (hs : s.size ≤ 20000) (hi : i < i1) (hi1 : i1 < i2) (hi2 : i2 < i4) (hi4 : i4 < s.size) (hc : nx s i = 40)
    (N : Hid (∀ w1, Calls Tryz.prog 124 #[.string s, .int .i64 ((i + 1 : Nat) : Int)] w1 fun e w' => e = .returned (.tuple #[.int .i64 (n : Nat), .int .i64 (i1 : Nat), .int .i64 (-1)]) ∧ w' = w1))
    (I1 : Hid (∀ w1, Calls Tryz.prog 81 #[.string s, .int .i64 ((i1 + 1 : Nat) : Int)] w1 fun e w' => e = .returned (.tuple #[.int .i64 v1, .int .i64 (i2 : Nat)]) ∧ w' = w1))
    (I2 : Hid (∀ w1, Calls Tryz.prog 81 #[.string s, .int .i64 ((i2 + 1 : Nat) : Int)] w1 fun e w' => e = .returned (.tuple #[.int .i64 v2, .int .i64 (i4 : Nat)]) ∧ w' = w1))
    (F1 : Hid (∀ w1, Calls Tryz.prog 125 #[.string (s.extract (i1 + 1) i2)] w1 fun e w' => e = .returned (.int .i64 (ln : Nat)) ∧ w' = w1))
    (F2 : Hid (∀ w1, Calls Tryz.prog 125 #[.string (s.extract (i2 + 1) i4)] w1 fun e w' => e = .returned (.int .i64 (un : Nat)) ∧ w' = w1))
    (k : ((((ln : Nat) : Int) != 0) = false ∨ ((((ln : Nat) : Int) != 0) = true ∧ (((un : Nat) : Int) != 0) = false))) (k' : ((s.extract (i1 + 1) i2).toList == [48]) = false ∨ (((s.extract (i1 + 1) i2).toList == [48]) = true ∧ ((s.extract (i2 + 1) i4).toList == [48]) = false)) (hv : v1 < 0) :
    Calls Tryz.prog 81 #[.string s, .int .i64 i] w fun e w' => e = .returned (.tuple #[.int .i64 v2, .int .i64 ((i4 + 1 : Nat) : Int)]) ∧ w' = w := by
  have e0 := nx_in s i (by omega)
  have hne : ((s[i].toNat : Int) != 40) = false := by rw [bne_eq_false_iff_eq]; omega
  have li : i < s.size := by omega
  clear hc e0
  rcases k with k1 | ⟨k1, k2⟩ <;> rcases k' with k3 | ⟨k3, k4⟩
  · go_enter Tryz.func81, Tryz.ntmps81
    go_wp2_with fail
    refine (unhide N _).mono ?_
    rintro e w1 ⟨rfl, rfl⟩
    go_wp2_with fail
    refine (unhide I1 _).mono ?_
    rintro e w1 ⟨rfl, rfl⟩
    go_wp2_with fail
    refine (unhide I2 _).mono ?_
    rintro e w1 ⟨rfl, rfl⟩
    go_wp2_with fail
    refine (unhide F1 _).mono ?_
    rintro e w1 ⟨rfl, rfl⟩
    go_wp2_with fail
    refine (unhide F2 _).mono ?_
    rintro e w1 ⟨rfl, rfl⟩
    go_wp2_with fail
    go_ret2
    exact ⟨rfl, rfl⟩
  · go_enter Tryz.func81, Tryz.ntmps81
    go_wp2_with fail
    refine (unhide N _).mono ?_
    rintro e w1 ⟨rfl, rfl⟩
    go_wp2_with fail
    refine (unhide I1 _).mono ?_
    rintro e w1 ⟨rfl, rfl⟩
    go_wp2_with fail
    refine (unhide I2 _).mono ?_
    rintro e w1 ⟨rfl, rfl⟩
    go_wp2_with fail
    refine (unhide F1 _).mono ?_
    rintro e w1 ⟨rfl, rfl⟩
    go_wp2_with fail
    refine (unhide F2 _).mono ?_
    rintro e w1 ⟨rfl, rfl⟩
    go_wp2_with fail
    go_ret2
    exact ⟨rfl, rfl⟩
  · go_enter Tryz.func81, Tryz.ntmps81
    go_wp2_with fail
    refine (unhide N _).mono ?_
    rintro e w1 ⟨rfl, rfl⟩
    go_wp2_with fail
    refine (unhide I1 _).mono ?_
    rintro e w1 ⟨rfl, rfl⟩
    go_wp2_with fail
    refine (unhide I2 _).mono ?_
    rintro e w1 ⟨rfl, rfl⟩
    go_wp2_with fail
    refine (unhide F1 _).mono ?_
    rintro e w1 ⟨rfl, rfl⟩
    go_wp2_with fail
    refine (unhide F2 _).mono ?_
    rintro e w1 ⟨rfl, rfl⟩
    go_wp2_with fail
    go_ret2
    exact ⟨rfl, rfl⟩
  · go_enter Tryz.func81, Tryz.ntmps81
    go_wp2_with fail
    refine (unhide N _).mono ?_
    rintro e w1 ⟨rfl, rfl⟩
    go_wp2_with fail
    refine (unhide I1 _).mono ?_
    rintro e w1 ⟨rfl, rfl⟩
    go_wp2_with fail
    refine (unhide I2 _).mono ?_
    rintro e w1 ⟨rfl, rfl⟩
    go_wp2_with fail
    refine (unhide F1 _).mono ?_
    rintro e w1 ⟨rfl, rfl⟩
    go_wp2_with fail
    refine (unhide F2 _).mono ?_
    rintro e w1 ⟨rfl, rfl⟩
    go_wp2_with fail
    go_ret2
    exact ⟨rfl, rfl⟩

/-- The two tests are one. -/
theorem rough_same (base ln un : Nat) (l u : Tr Nat) (zl zu : Bool) (hl : zl = true ↔ l = .leaf base) (hu : zu = true ↔ u = .leaf base) (dl : (∃ a, l = .leaf a) → l = .leaf (base + ln)) (du : (∃ a, u = .leaf a) → u = .leaf (base + un)) :
    (decide (0 < ln) && decide (0 < un) || sameI l u) = true ↔ ((ln ≠ 0 ∧ un ≠ 0) ∨ (zl = true ∧ zu = true)) := by
  rw [Bool.or_eq_true, Bool.and_eq_true, decide_eq_true_iff, decide_eq_true_iff]
  constructor
  · rintro (⟨a, b⟩ | h)
    · exact Or.inl ⟨by omega, by omega⟩
    · cases l using Tr.cs with
      | pair a b => exact absurd h (by show ¬ false = true; decide)
      | leaf a =>
        cases u using Tr.cs with
        | pair c d => exact absurd h (by show ¬ false = true; decide)
        | leaf b =>
          have ea : a = base + ln := by have := dl ⟨a, rfl⟩; injection this with this; injection this
          have eb : b = base + un := by have := du ⟨b, rfl⟩; injection this with this; injection this
          have hab : a = b := by
            have : (a == b) = true := h
            simpa using this
          by_cases z : ln = 0
          · right
            refine ⟨hl.2 ?_, hu.2 ?_⟩
            · rw [ea, z]; rfl
            · rw [eb, show un = 0 by omega]; rfl
          · exact Or.inl ⟨z, by omega⟩
  · rintro (⟨a, b⟩ | ⟨a, b⟩)
    · exact Or.inl ⟨by omega, by omega⟩
    · right
      rw [hl.1 a, hu.1 b]
      show (base == base) = true
      simp

/-- An EV that can be read is the one byte 0 just where it is a leaf of nothing more. -/
theorem ev_zero (s : ByteArray) (h base i r : Nat) (t : Tr Nat) (n j q : Nat) (hi : i ≤ s.size) (e : evR s h base i r = .ok (t, n) j q) :
    (((s.extract i j).toList == [48]) = true ↔ t = .leaf base) ∧ ((∃ a, t = .leaf a) → t = .leaf (base + n)) ∧ (((s.extract i j).toList == [48]) = true → n = 0) := by
  have L := evR_le s h base i r t n j q hi e
  have X := ext_is s i j 48 L.2 L.1 (by omega)
  rw [show UInt8.ofNat 48 = (48 : UInt8) from rfl] at X
  rw [beq_iff_eq, X]
  rcases evR_inv s h base i r t n j q e with ⟨c, f, rfl, _⟩ | ⟨h', i1, l, ln, u, un, i2, r2, i4, r4, hh, c, f, g0, f1, g1, f2, g2, rfl, rfl, _⟩
  · have Z := numR_zero f
    refine ⟨⟨fun h => ?_, fun h => ?_⟩, fun _ => rfl, fun h => Z.2 h⟩
    · rw [Z.2 h]; rfl
    · injection h with h; injection h with h
      exact Z.1 (by omega)
  · refine ⟨⟨fun h => by omega, fun h => ?_⟩, fun ⟨a, h⟩ => ?_, fun h => by omega⟩
    · injection h with h; injection h
    · injection h with h; injection h

/-- plainEv where an EV can be read: the first place that is not plain. -/
theorem plainEv_any (s : ByteArray) (hs : s.size ≤ 20000) : ∀ (h base i r : Nat) (t : Tr Nat) (n j q : Nat), i ≤ s.size → evR s h base i r = .ok (t, n) j q → isDig (nx s j) = false →
    ∃ p : Option Nat, q = mnP r p ∧ (∀ x, p = some x → i ≤ x ∧ x < j) ∧ ∀ w, Calls Tryz.prog 81 #[.string s, .int .i64 i] w fun e w' => e = .returned (.tuple #[.int .i64 (plV p), .int .i64 (j : Nat)]) ∧ w' = w := by
  intro h
  induction h with
  | zero =>
    intro base i r t n j q hi e hd
    rcases evR_inv s 0 base i r t n j q e with ⟨c, f, _, rfl⟩ | ⟨h', _, _, _, _, _, _, _, _, _, hh, _⟩
    · have hl : i < s.size := by
        apply lt_of_nx; intro h0
        unfold numR at f; rw [h0] at f; exact (Nm.bad_ok f).elim
      exact ⟨none, rfl, fun _ h => (by cases h), fun w => pev_leaf s i n j w hs hl c (numF_of f hd)⟩
    · omega
  | succ h ih =>
    intro base i r t n j q hi e hd
    rcases evR_inv s (h + 1) base i r t n j q e with ⟨c, f, _, rfl⟩ | ⟨h', i1, l, ln, u, un, i2, r2, i4, r4, hh, c, f, g0, f1, g1, f2, g2, rfl, rfl, rfl⟩
    · have hl : i < s.size := by
        apply lt_of_nx; intro h0
        unfold numR at f; rw [h0] at f; exact (Nm.bad_ok f).elim
      exact ⟨none, rfl, fun _ h => (by cases h), fun w => pev_leaf s i n j w hs hl c (numF_of f hd)⟩
    · obtain rfl : h' = h := by omega
      have l0 := numR_lt f
      have l1 := lt_of_nx s i1 (by omega)
      have L1 := evR_le _ _ _ _ _ _ _ _ _ (by omega) f1
      have l2 := lt_of_nx s i2 (by omega)
      have L2 := evR_le _ _ _ _ _ _ _ _ _ (by omega) f2
      have l4 := lt_of_nx s i4 (by omega)
      obtain ⟨p1, m1, b1, c1⟩ := ih _ _ _ _ _ _ _ (by omega) f1 (by rw [g1]; rfl)
      obtain ⟨p2, m2, b2, c2⟩ := ih _ _ _ _ _ _ _ (by omega) f2 (by rw [g2]; rfl)
      have N := fun w1 => number_any s (i + 1) w1 hs
      rw [numF_of f (by rw [g0]; rfl)] at N
      simp only [numRes] at N
      have F1 := fun w1 => front_any s hs _ _ _ _ _ _ _ _ (by omega) f1 w1
      have F2 := fun w1 => front_any s hs _ _ _ _ _ _ _ _ (by omega) f2 w1
      obtain ⟨z1, y1, _⟩ := ev_zero s _ _ _ _ _ _ _ _ (by omega) f1
      obtain ⟨z2, y2, _⟩ := ev_zero s _ _ _ _ _ _ _ _ (by omega) f2
      have R := rough_same (base + n) ln un l u _ _ z1 z2 y1 y2
      have nz : ∀ m : Nat, (((m : Nat) : Int) != 0) = true ↔ m ≠ 0 := fun m => by rw [bne_iff_ne]; omega
      have nz' : ∀ m : Nat, (((m : Nat) : Int) != 0) = false ↔ m = 0 := fun m => by rw [bne_eq_false_iff_eq]; omega
      by_cases rough : (decide (0 < ln) && decide (0 < un) || sameI l u) = true
      · rw [if_pos rough]
        refine ⟨some i, ?_, fun y hy => by injection hy with hy; omega, fun w => ?_⟩
        · rw [m2, m1]
          cases p1 with
          | none =>
            cases p2 with
            | none => rfl
            | some y => have := b2 y rfl; show min (min r y) i = min r i; omega
          | some x =>
            have := b1 x rfl
            cases p2 with
            | none => show min (min r x) i = min r i; omega
            | some y => have := b2 y rfl; show min (min (min r x) y) i = min r i; omega
        · by_cases both : ln ≠ 0 ∧ un ≠ 0
          · exact pev_both s i i1 i2 i4 n ln un _ _ w hs (by omega) (by omega) (by omega) l4 c (hide N) (hide c1) (hide c2) (hide F1) (hide F2) ((nz ln).2 both.1) ((nz un).2 both.2)
          · have zz : _ ∧ _ := (R.1 rough).resolve_left both
            refine pev_zeros s i i1 i2 i4 n ln un _ _ w hs (by omega) (by omega) (by omega) l4 c (hide N) (hide c1) (hide c2) (hide F1) (hide F2) ?_ zz.1 zz.2
            by_cases q : ln = 0
            · exact Or.inl ((nz' ln).2 q)
            · exact Or.inr ⟨(nz ln).2 q, (nz' un).2 (by omega)⟩
      · rw [if_neg rough]
        have nr := fun h => rough (R.2 h)
        have k : (((ln : Nat) : Int) != 0) = false ∨ ((((ln : Nat) : Int) != 0) = true ∧ (((un : Nat) : Int) != 0) = false) := by
          by_cases q : ln = 0
          · exact Or.inl ((nz' ln).2 q)
          · exact Or.inr ⟨(nz ln).2 q, (nz' un).2 (by
              by_cases q2 : un = 0
              · exact q2
              · exact absurd (Or.inl ⟨q, q2⟩) nr)⟩
        have k' : ((s.extract (i1 + 1) i2).toList == [48]) = false ∨ (((s.extract (i1 + 1) i2).toList == [48]) = true ∧ ((s.extract (i2 + 1) i4).toList == [48]) = false) := by
          cases q : ((s.extract (i1 + 1) i2).toList == [48])
          · exact Or.inl rfl
          · refine Or.inr ⟨rfl, ?_⟩
            cases q2 : ((s.extract (i2 + 1) i4).toList == [48])
            · rfl
            · exact absurd (Or.inr ⟨q, q2⟩) nr
        cases p1 with
        | none =>
          refine ⟨p2, by rw [m2, m1]; rfl, fun x hx => by have := b2 x hx; omega, fun w => ?_⟩
          exact pev_second s i i1 i2 i4 n ln un (-1) (plV p2) w hs (by omega) (by omega) (by omega) l4 c (hide N) (hide c1) (hide c2) (hide F1) (hide F2) k k' (by omega)
        | some x =>
          have bx := b1 x rfl
          refine ⟨some x, ?_, fun y hy => by injection hy with hy; omega, fun w => ?_⟩
          · rw [m2, m1]
            cases p2 with
            | none => rfl
            | some y => have := b2 y rfl; show min (min r x) y = min r x; omega
          · exact pev_first s i i1 i2 i4 n ln un (x : Int) (plV p2) w hs (by omega) (by omega) (by omega) l4 c (hide N) (hide c1) (hide c2) (hide F1) (hide F2) k k' (by omega)

end Go.Proofs.YtoebmfhgaalcdaaGreatDoor
