/-
  Our own. sprigsref.plainId.
-/
import Derived.Test.YtoebmfhgaalcdaaGreatDoorRefMost
namespace Go.Proofs.YtoebmfhgaalcdaaGreatDoor
open Go.RowKit

/-- The first place, or -1. -/
def plV : Option Nat → Int
  | none => -1
  | some x => (x : Int)
/-- The lesser of a place and that. -/
def mnP (r : Nat) : Option Nat → Nat
  | none => r
  | some x => min r x

theorem ext_nil (s : ByteArray) (a b : Nat) : (s.extract a b).toList = (s.data.toList.drop a).take (b - a) := by
  rw [ByteArray.toList_eq]; simp [ByteArray.data_extract]

theorem ext_len (s : ByteArray) (a b : Nat) (h : b ≤ s.size) : (s.extract a b).toList.length = b - a := by
  rw [ext_nil]; simp; omega

theorem ext_one (s : ByteArray) (a : Nat) (h : a < s.size) : (s.extract a (a + 1)).toList = [s[a]] := by
  rw [ext_nil, show a + 1 - a = 1 by omega]
  have hl : a < s.data.toList.length := by simpa using h
  rw [List.drop_eq_getElem_cons hl]
  simp only [List.take_succ_cons, List.take_zero]
  rfl

theorem u8_of_nat {c : UInt8} {n : Nat} (h : c.toNat = n) : c = UInt8.ofNat n := by
  rw [← h]; simp

/-- What one byte of an ID or EV says. -/
theorem ext_is (s : ByteArray) (a b n : Nat) (hb : b ≤ s.size) (hab : a < b) (hn : n < 256) : (s.extract a b).toList = [UInt8.ofNat n] ↔ (b = a + 1 ∧ nx s a = n) := by
  constructor
  · intro h
    have hl := congrArg List.length h
    rw [ext_len s a b hb] at hl
    simp only [List.length_cons, List.length_nil] at hl
    have e : b = a + 1 := by omega
    subst e
    rw [ext_one s a (by omega)] at h
    injection h with h _
    refine ⟨rfl, ?_⟩
    rw [nx_in s a (by omega), h, UInt8.toNat_ofNat_of_lt' (by show n < 256; exact hn)]
  · rintro ⟨rfl, h⟩
    rw [ext_one s a (by omega)]
    rw [nx_in s a (by omega)] at h
    rw [u8_of_nat h]

theorem idR_leafs (s : ByteArray) (h i r : Nat) (t : Tr Bool) (j q : Nat) (e : idR s h i r = .ok t j q) :
    ((s.extract i j).toList = [48] ↔ t = .leaf false) ∧ ((s.extract i j).toList = [49] ↔ t = .leaf true) := by
  obtain ⟨l1, l2⟩ := idR_le s h i r t j q e
  have x0 := ext_is s i j 48 l2 l1 (by omega)
  have x1 := ext_is s i j 49 l2 l1 (by omega)
  rw [show (48 : UInt8) = UInt8.ofNat 48 from rfl, show (49 : UInt8) = UInt8.ofNat 49 from rfl, x0, x1]
  rcases idR_inv s h i r t j q e with ⟨c, rfl, rfl, _⟩ | ⟨c, rfl, rfl, _⟩ | ⟨h', l, u, i2, r2, i4, r4, hh, c, f1, g1, f2, g2, rfl, rfl, _⟩
  · refine ⟨⟨fun _ => rfl, fun _ => ⟨rfl, c⟩⟩, ⟨fun h => by omega, fun h => ?_⟩⟩
    injection h with h; injection h with h; cases h
  · refine ⟨⟨fun h => by omega, fun h => ?_⟩, ⟨fun _ => rfl, fun _ => ⟨rfl, c⟩⟩⟩
    injection h with h; injection h with h; cases h
  · refine ⟨⟨fun h => by omega, fun h => ?_⟩, ⟨fun h => by omega, fun h => ?_⟩⟩
    · injection h with h; injection h
    · injection h with h; injection h

theorem sameB_iff (l u : Tr Bool) : sameB l u = true ↔ ((l = .leaf false ∧ u = .leaf false) ∨ (l = .leaf true ∧ u = .leaf true)) := by
  cases l using Tr.cs with
  | pair a b =>
    constructor
    · intro h; exact absurd h (by show ¬ false = true; decide)
    · rintro (⟨h, _⟩ | ⟨h, _⟩) <;> (injection h with h; injection h)
  | leaf a =>
    cases u using Tr.cs with
    | pair c d =>
      constructor
      · intro h; exact absurd h (by show ¬ false = true; decide)
      · rintro (⟨_, h⟩ | ⟨_, h⟩) <;> (injection h with h; injection h)
    | leaf b =>
      show (a == b) = true ↔ _
      cases a <;> cases b <;> simp

set_option maxRecDepth 100000 in
set_option maxHeartbeats 1000000 in
theorem plainId_leaf (s : ByteArray) (i : Nat) (w : World) (hs : s.size ≤ 20000) (hi : i < s.size) (hc : nx s i ≠ 40) :
    Calls Tryz.prog 80 #[.string s, .int .i64 i] w fun e w' => e = .returned (.tuple #[.int .i64 (-1), .int .i64 ((i + 1 : Nat) : Int)]) ∧ w' = w := by
  have e0 := nx_in s i hi
  have hne : ((s[i].toNat : Int) != 40) = true := by rw [bne_iff_ne]; omega
  clear e0 hc
  go_enter Tryz.func80, Tryz.ntmps80
  go_wp2_with fail
  go_ret2
  exact ⟨rfl, rfl⟩

set_option maxRecDepth 100000 in
set_option maxHeartbeats 2000000 in
theorem pid_same (s : ByteArray) (i i2 i4 : Nat) (v1 v2 : Int) (w : World) (hs : s.size ≤ 20000) (hi : i < i2) (hi2 : i2 < i4) (hi4 : i4 < s.size) (hc : nx s i = 40)
    (I1 : Hid (∀ w1, Calls Tryz.prog 80 #[.string s, .int .i64 ((i + 1 : Nat) : Int)] w1 fun e w' => e = .returned (.tuple #[.int .i64 v1, .int .i64 (i2 : Nat)]) ∧ w' = w1))
    (I2 : Hid (∀ w1, Calls Tryz.prog 80 #[.string s, .int .i64 ((i2 + 1 : Nat) : Int)] w1 fun e w' => e = .returned (.tuple #[.int .i64 v2, .int .i64 (i4 : Nat)]) ∧ w' = w1))
    (k1 : ((s.extract (i + 1) i2).toList == (s.extract (i2 + 1) i4).toList) = true) (k : ((s.extract (i + 1) i2).toList == [48]) = true ∨ (((s.extract (i + 1) i2).toList == [48]) = false ∧ ((s.extract (i + 1) i2).toList == [49]) = true)) :
    Calls Tryz.prog 80 #[.string s, .int .i64 i] w fun e w' => e = .returned (.tuple #[.int .i64 (i : Nat), .int .i64 ((i4 + 1 : Nat) : Int)]) ∧ w' = w := by
  have e0 := nx_in s i (by omega)
  have hne : ((s[i].toNat : Int) != 40) = false := by rw [bne_eq_false_iff_eq]; omega
  have li : i < s.size := by omega
  clear hc e0
  rcases k with k2 | ⟨k2, k3⟩
  · go_enter Tryz.func80, Tryz.ntmps80
    go_wp2_with fail
    refine (unhide I1 _).mono ?_
    rintro e w1 ⟨rfl, rfl⟩
    go_wp2_with fail
    refine (unhide I2 _).mono ?_
    rintro e w1 ⟨rfl, rfl⟩
    go_wp2_with fail
    go_ret2
    exact ⟨rfl, rfl⟩
  · go_enter Tryz.func80, Tryz.ntmps80
    go_wp2_with fail
    refine (unhide I1 _).mono ?_
    rintro e w1 ⟨rfl, rfl⟩
    go_wp2_with fail
    refine (unhide I2 _).mono ?_
    rintro e w1 ⟨rfl, rfl⟩
    go_wp2_with fail
    go_ret2
    exact ⟨rfl, rfl⟩

set_option maxRecDepth 100000 in
set_option maxHeartbeats 2000000 in
theorem pid_first (s : ByteArray) (i i2 i4 : Nat) (v1 v2 : Int) (w : World) (hs : s.size ≤ 20000) (hi : i < i2) (hi2 : i2 < i4) (hi4 : i4 < s.size) (hc : nx s i = 40)
    (I1 : Hid (∀ w1, Calls Tryz.prog 80 #[.string s, .int .i64 ((i + 1 : Nat) : Int)] w1 fun e w' => e = .returned (.tuple #[.int .i64 v1, .int .i64 (i2 : Nat)]) ∧ w' = w1))
    (I2 : Hid (∀ w1, Calls Tryz.prog 80 #[.string s, .int .i64 ((i2 + 1 : Nat) : Int)] w1 fun e w' => e = .returned (.tuple #[.int .i64 v2, .int .i64 (i4 : Nat)]) ∧ w' = w1))
    (k : ((s.extract (i + 1) i2).toList == (s.extract (i2 + 1) i4).toList) = false ∨ (((s.extract (i + 1) i2).toList == (s.extract (i2 + 1) i4).toList) = true ∧ ((s.extract (i + 1) i2).toList == [48]) = false ∧ ((s.extract (i + 1) i2).toList == [49]) = false)) (hv : 0 ≤ v1) :
    Calls Tryz.prog 80 #[.string s, .int .i64 i] w fun e w' => e = .returned (.tuple #[.int .i64 v1, .int .i64 ((i4 + 1 : Nat) : Int)]) ∧ w' = w := by
  have e0 := nx_in s i (by omega)
  have hne : ((s[i].toNat : Int) != 40) = false := by rw [bne_eq_false_iff_eq]; omega
  have li : i < s.size := by omega
  clear hc e0
  rcases k with k1 | ⟨k1, k2, k3⟩
  · go_enter Tryz.func80, Tryz.ntmps80
    go_wp2_with fail
    refine (unhide I1 _).mono ?_
    rintro e w1 ⟨rfl, rfl⟩
    go_wp2_with fail
    refine (unhide I2 _).mono ?_
    rintro e w1 ⟨rfl, rfl⟩
    go_wp2_with fail
    go_ret2
    exact ⟨rfl, rfl⟩
  · go_enter Tryz.func80, Tryz.ntmps80
    go_wp2_with fail
    refine (unhide I1 _).mono ?_
    rintro e w1 ⟨rfl, rfl⟩
    go_wp2_with fail
    refine (unhide I2 _).mono ?_
    rintro e w1 ⟨rfl, rfl⟩
    go_wp2_with fail
    go_ret2
    exact ⟨rfl, rfl⟩

set_option maxRecDepth 100000 in
set_option maxHeartbeats 2000000 in
theorem pid_second (s : ByteArray) (i i2 i4 : Nat) (v1 v2 : Int) (w : World) (hs : s.size ≤ 20000) (hi : i < i2) (hi2 : i2 < i4) (hi4 : i4 < s.size) (hc : nx s i = 40)
    (I1 : Hid (∀ w1, Calls Tryz.prog 80 #[.string s, .int .i64 ((i + 1 : Nat) : Int)] w1 fun e w' => e = .returned (.tuple #[.int .i64 v1, .int .i64 (i2 : Nat)]) ∧ w' = w1))
    (I2 : Hid (∀ w1, Calls Tryz.prog 80 #[.string s, .int .i64 ((i2 + 1 : Nat) : Int)] w1 fun e w' => e = .returned (.tuple #[.int .i64 v2, .int .i64 (i4 : Nat)]) ∧ w' = w1))
    (k : ((s.extract (i + 1) i2).toList == (s.extract (i2 + 1) i4).toList) = false ∨ (((s.extract (i + 1) i2).toList == (s.extract (i2 + 1) i4).toList) = true ∧ ((s.extract (i + 1) i2).toList == [48]) = false ∧ ((s.extract (i + 1) i2).toList == [49]) = false)) (hv : v1 < 0) :
    Calls Tryz.prog 80 #[.string s, .int .i64 i] w fun e w' => e = .returned (.tuple #[.int .i64 v2, .int .i64 ((i4 + 1 : Nat) : Int)]) ∧ w' = w := by
  have e0 := nx_in s i (by omega)
  have hne : ((s[i].toNat : Int) != 40) = false := by rw [bne_eq_false_iff_eq]; omega
  have li : i < s.size := by omega
  clear hc e0
  rcases k with k1 | ⟨k1, k2, k3⟩
  · go_enter Tryz.func80, Tryz.ntmps80
    go_wp2_with fail
    refine (unhide I1 _).mono ?_
    rintro e w1 ⟨rfl, rfl⟩
    go_wp2_with fail
    refine (unhide I2 _).mono ?_
    rintro e w1 ⟨rfl, rfl⟩
    go_wp2_with fail
    go_ret2
    exact ⟨rfl, rfl⟩
  · go_enter Tryz.func80, Tryz.ntmps80
    go_wp2_with fail
    refine (unhide I1 _).mono ?_
    rintro e w1 ⟨rfl, rfl⟩
    go_wp2_with fail
    refine (unhide I2 _).mono ?_
    rintro e w1 ⟨rfl, rfl⟩
    go_wp2_with fail
    go_ret2
    exact ⟨rfl, rfl⟩

/-- plainId where an ID can be read: the first place that is not plain. -/
theorem plainId_any (s : ByteArray) (hs : s.size ≤ 20000) : ∀ (h i r : Nat) (t : Tr Bool) (j q : Nat), idR s h i r = .ok t j q →
    ∃ p : Option Nat, q = mnP r p ∧ (∀ x, p = some x → i ≤ x ∧ x < j) ∧ ∀ w, Calls Tryz.prog 80 #[.string s, .int .i64 i] w fun e w' => e = .returned (.tuple #[.int .i64 (plV p), .int .i64 (j : Nat)]) ∧ w' = w := by
  intro h
  induction h with
  | zero =>
    intro i r t j q e
    rcases idR_inv s 0 i r t j q e with ⟨c, _, rfl, rfl⟩ | ⟨c, _, rfl, rfl⟩ | ⟨h', _, _, _, _, _, _, hh, _⟩
    · exact ⟨none, rfl, fun _ h => (by cases h), fun w => plainId_leaf s i w hs (lt_of_nx s i (by omega)) (by omega)⟩
    · exact ⟨none, rfl, fun _ h => (by cases h), fun w => plainId_leaf s i w hs (lt_of_nx s i (by omega)) (by omega)⟩
    · omega
  | succ h ih =>
    intro i r t j q e
    rcases idR_inv s (h + 1) i r t j q e with ⟨c, _, rfl, rfl⟩ | ⟨c, _, rfl, rfl⟩ | ⟨h', l, u, i2, r2, i4, r4, hh, c, f1, g1, f2, g2, rfl, rfl, rfl⟩
    · exact ⟨none, rfl, fun _ h => (by cases h), fun w => plainId_leaf s i w hs (lt_of_nx s i (by omega)) (by omega)⟩
    · exact ⟨none, rfl, fun _ h => (by cases h), fun w => plainId_leaf s i w hs (lt_of_nx s i (by omega)) (by omega)⟩
    · obtain rfl : h' = h := by omega
      obtain ⟨p1, m1, b1, c1⟩ := ih _ _ _ _ _ f1
      obtain ⟨p2, m2, b2, c2⟩ := ih _ _ _ _ _ f2
      have L1 := idR_le _ _ _ _ _ _ _ f1
      have L2 := idR_le _ _ _ _ _ _ _ f2
      have l4 := lt_of_nx s i4 (by omega)
      obtain ⟨x1, x2⟩ := idR_leafs s h' (i + 1) r l i2 r2 f1
      obtain ⟨y1, y2⟩ := idR_leafs s h' (i2 + 1) r2 u i4 r4 f2
      cases hsame : sameB l u
      · have kd : ((s.extract (i + 1) i2).toList == (s.extract (i2 + 1) i4).toList) = false ∨ (((s.extract (i + 1) i2).toList == (s.extract (i2 + 1) i4).toList) = true ∧ ((s.extract (i + 1) i2).toList == [48]) = false ∧ ((s.extract (i + 1) i2).toList == [49]) = false) := by
          cases k1 : ((s.extract (i + 1) i2).toList == (s.extract (i2 + 1) i4).toList)
          · exact Or.inl rfl
          · right
            have e1 : (s.extract (i + 1) i2).toList = (s.extract (i2 + 1) i4).toList := by simpa using k1
            have ns : ¬ sameB l u = true := by rw [hsame]; decide
            rw [sameB_iff] at ns
            refine ⟨rfl, ?_, ?_⟩
            · rw [beq_eq_false_iff_ne]; intro hx
              exact ns (Or.inl ⟨x1.1 hx, y1.1 (by rw [← e1]; exact hx)⟩)
            · rw [beq_eq_false_iff_ne]; intro hx
              exact ns (Or.inr ⟨x2.1 hx, y2.1 (by rw [← e1]; exact hx)⟩)
        simp only [Bool.false_eq_true, if_false]
        cases p1 with
        | none =>
          refine ⟨p2, by rw [m2, m1]; rfl, fun x hx => by have := b2 x hx; omega, fun w => ?_⟩
          exact pid_second s i i2 i4 (-1) (plV p2) w hs (by omega) (by omega) l4 c (hide c1) (hide c2) kd (by omega)
        | some x =>
          have bx := b1 x rfl
          refine ⟨some x, ?_, fun y hy => by injection hy with hy; omega, fun w => ?_⟩
          · rw [m2, m1]
            cases p2 with
            | none => rfl
            | some y => have := b2 y rfl; show min (min r x) y = min r x; omega
          · exact pid_first s i i2 i4 (x : Int) (plV p2) w hs (by omega) (by omega) l4 c (hide c1) (hide c2) kd (by omega)
      · have k := (sameB_iff l u).1 hsame
        have ks : ((s.extract (i + 1) i2).toList == (s.extract (i2 + 1) i4).toList) = true ∧ (((s.extract (i + 1) i2).toList == [48]) = true ∨ (((s.extract (i + 1) i2).toList == [48]) = false ∧ ((s.extract (i + 1) i2).toList == [49]) = true)) := by
          rcases k with ⟨k1, k2⟩ | ⟨k1, k2⟩
          · rw [x1.2 k1, y1.2 k2]; exact ⟨rfl, Or.inl rfl⟩
          · rw [x2.2 k1, y2.2 k2]; exact ⟨rfl, Or.inr ⟨rfl, rfl⟩⟩
        simp only [if_true]
        refine ⟨some i, ?_, fun y hy => by injection hy with hy; omega, fun w => ?_⟩
        · rw [m2, m1]
          cases p1 with
          | none =>
            cases p2 with
            | none => rfl
            | some y => have := b2 y rfl; show min (min r y) i = min r i; omega
          | some x =>
            have := b1 x rfl
            cases p2 with
            | none => show min (min r x) i = min r i; omega
            | some y => have := b2 y rfl; show min (min (min r x) y) i = min r i; omega
        · exact pid_same s i i2 i4 (plV p1) (plV p2) w hs (by omega) (by omega) l4 c (hide c1) (hide c2) ks.1 ks.2

end Go.Proofs.YtoebmfhgaalcdaaGreatDoor
