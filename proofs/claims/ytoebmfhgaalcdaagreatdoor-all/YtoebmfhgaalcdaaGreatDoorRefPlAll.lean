/-
  Our own. sprigsref.plainId.
-/
import Derived.Test.YtoebmfhgaalcdaaGreatDoorRefOneAll
namespace Go.Proofs.YtoebmfhgaalcdaaGreatDoor
open Go.RowKit

/-- The first place, or -1. -/
def plV : Option Nat → Int
  | none => -1
  | some x => (x : Int)
/-- The lesser of a place and that. -/
def mnP (r : Nat) : Option Nat → Nat
  | none => r
  | some x => min r x

theorem ext_nil (s : ByteArray) (a b : Nat) : (s.extract a b).toList = (s.data.toList.drop a).take (b - a) := by
  rw [ByteArray.toList_eq]; simp [ByteArray.data_extract]

theorem ext_len (s : ByteArray) (a b : Nat) (h : b ≤ s.size) : (s.extract a b).toList.length = b - a := by
  rw [ext_nil]; simp; omega

theorem ext_one (s : ByteArray) (a : Nat) (h : a < s.size) : (s.extract a (a + 1)).toList = [s[a]] := by
  rw [ext_nil, show a + 1 - a = 1 by omega]
  have hl : a < s.data.toList.length := by simpa using h
  rw [List.drop_eq_getElem_cons hl]
  simp only [List.take_succ_cons, List.take_zero]
  rfl

theorem u8_of_nat {c : UInt8} {n : Nat} (h : c.toNat = n) : c = UInt8.ofNat n := by
  rw [← h]; simp

/-- What one byte of an ID or EV says. -/
theorem ext_is (s : ByteArray) (a b n : Nat) (hb : b ≤ s.size) (hab : a < b) (hn : n < 256) : (s.extract a b).toList = [UInt8.ofNat n] ↔ (b = a + 1 ∧ nx s a = n) := by
  constructor
  · intro h
    have hl := congrArg List.length h
    rw [ext_len s a b hb] at hl
    simp only [List.length_cons, List.length_nil] at hl
    have e : b = a + 1 := by omega
    subst e
    rw [ext_one s a (by omega)] at h
    injection h with h _
    refine ⟨rfl, ?_⟩
    rw [nx_in s a (by omega), h, UInt8.toNat_ofNat_of_lt' (by show n < 256; exact hn)]
  · rintro ⟨rfl, h⟩
    rw [ext_one s a (by omega)]
    rw [nx_in s a (by omega)] at h
    rw [u8_of_nat h]

theorem idR_leafs (s : ByteArray) (h i r : Nat) (t : Tr Bool) (j q : Nat) (e : idR s h i r = .ok t j q) :
    ((s.extract i j).toList = [48] ↔ t = .leaf false) ∧ ((s.extract i j).toList = [49] ↔ t = .leaf true) := by
  obtain ⟨l1, l2⟩ := idR_le s h i r t j q e
  have x0 := ext_is s i j 48 l2 l1 (by omega)
  have x1 := ext_is s i j 49 l2 l1 (by omega)
  rw [show (48 : UInt8) = UInt8.ofNat 48 from rfl, show (49 : UInt8) = UInt8.ofNat 49 from rfl, x0, x1]
  rcases idR_inv s h i r t j q e with ⟨c, rfl, rfl, _⟩ | ⟨c, rfl, rfl, _⟩ | ⟨h', l, u, i2, r2, i4, r4, hh, c, f1, g1, f2, g2, rfl, rfl, _⟩
  · refine ⟨⟨fun _ => rfl, fun _ => ⟨rfl, c⟩⟩, ⟨fun h => by omega, fun h => ?_⟩⟩
    injection h with h; injection h with h; cases h
  · refine ⟨⟨fun h => by omega, fun h => ?_⟩, ⟨fun _ => rfl, fun _ => ⟨rfl, c⟩⟩⟩
    injection h with h; injection h with h; cases h
  · refine ⟨⟨fun h => by omega, fun h => ?_⟩, ⟨fun h => by omega, fun h => ?_⟩⟩
    · injection h with h; injection h
    · injection h with h; injection h

theorem sameB_iff (l u : Tr Bool) : sameB l u = true ↔ ((l = .leaf false ∧ u = .leaf false) ∨ (l = .leaf true ∧ u = .leaf true)) := by
  cases l using Tr.cs with
  | pair a b =>
    constructor
    · intro h; exact absurd h (by show ¬ false = true; decide)
    · rintro (⟨h, _⟩ | ⟨h, _⟩) <;> (injection h with h; injection h)
  | leaf a =>
    cases u using Tr.cs with
    | pair c d =>
      constructor
      · intro h; exact absurd h (by show ¬ false = true; decide)
      · rintro (⟨_, h⟩ | ⟨_, h⟩) <;> (injection h with h; injection h)
    | leaf b =>
      show (a == b) = true ↔ _
      cases a <;> cases b <;> simp

set_option maxRecDepth 100000 in
set_option maxHeartbeats 1000000 in
theorem plainId_leaf (s : ByteArray) (i : Nat) (w : World) (hs : s.size ≤ 20000) (hi : i < s.size) (hc : nx s i ≠ 40) :
    Calls Tryz.prog 80 #[.string s, .int .i64 i] w fun e w' => e = .returned (.tuple #[.int .i64 (-1), .int .i64 ((i + 1 : Nat) : Int)]) ∧ w' = w := by
  have e0 := nx_in s i hi
  have hne : ((s[i].toNat : Int) != 40) = true := by rw [bne_iff_ne]; omega
  clear e0 hc
  go_enter Tryz.func80, Tryz.ntmps80
  go_wp2_with fail
  go_ret2
  exact ⟨rfl, rfl⟩

set_option maxRecDepth 100000 in
set_option maxHeartbeats 2000000 in
theorem pid_same (s : ByteArray) (i i2 i4 : Nat) (v1 v2 : Int) (w : World) (hs : s.size ≤ 20000) (hi : i < i2) (hi2 : i2 < i4) (hi4 : i4 < s.size) (hc : nx s i = 40)
    (I1 : Hid (∀ w1, Calls Tryz.prog 80 #[.string s, .int .i64 ((i + 1 : Nat) : Int)] w1 fun e w' => e = .returned (.tuple #[.int .i64 v1, .int .i64 (i2 : Nat)]) ∧ w' = w1))
    (I2 : Hid (∀ w1, Calls Tryz.prog 80 #[.string s, .int .i64 ((i2 + 1 : Nat) : Int)] w1 fun e w' => e = .returned (.tuple #[.int .i64 v2, .int .i64 (i4 : Nat)]) ∧ w' = w1))
    (k1 : ((s.extract (i + 1) i2).toList == (s.extract (i2 + 1) i4).toList) = true) (k : ((s.extract (i + 1) i2).toList == [48]) = true ∨ (((s.extract (i + 1) i2).toList == [48]) = false ∧ ((s.extract (i + 1) i2).toList == [49]) = true)) :
    Calls Tryz.prog 80 #[.string s, .int .i64 i] w fun e w' => e = .returned (.tuple #[.int .i64 (i : Nat), .int .i64 ((i4 + 1 : Nat) : Int)]) ∧ w' = w := by
  have e0 := nx_in s i (by omega)
  have hne : ((s[i].toNat : Int) != 40) = false := by rw [bne_eq_false_iff_eq]; omega
  have li : i < s.size := by omega
  clear hc e0
  rcases k with k2 | ⟨k2, k3⟩
  · go_enter Tryz.func80, Tryz.ntmps80
    go_wp2_with fail
    refine (unhide I1 _).mono ?_
    rintro e w1 ⟨rfl, rfl⟩
    go_wp2_with fail
    refine (unhide I2 _).mono ?_
    rintro e w1 ⟨rfl, rfl⟩
    go_wp2_with fail
    go_ret2
    exact ⟨rfl, rfl⟩
  · go_enter Tryz.func80, Tryz.ntmps80
    go_wp2_with fail
    refine (unhide I1 _).mono ?_
    rintro e w1 ⟨rfl, rfl⟩
    go_wp2_with fail
    refine (unhide I2 _).mono ?_
    rintro e w1 ⟨rfl, rfl⟩
    go_wp2_with fail
    go_ret2
    exact ⟨rfl, rfl⟩

set_option maxRecDepth 100000 in
set_option maxHeartbeats 2000000 in
theorem pid_first (s : ByteArray) (i i2 i4 : Nat) (v1 v2 : Int) (w : World) (hs : s.size ≤ 20000) (hi : i < i2) (hi2 : i2 < i4) (hi4 : i4 < s.size) (hc : nx s i = 40)
    (I1 : Hid (∀ w1, Calls Tryz.prog 80 #[.string s, .int .i64 ((i + 1 : Nat) : Int)] w1 fun e w' => e = .returned (.tuple #[.int .i64 v1, .int .i64 (i2 : Nat)]) ∧ w' = w1))
    (I2 : Hid (∀ w1, Calls Tryz.prog 80 #[.string s, .int .i64 ((i2 + 1 : Nat) : Int)] w1 fun e w' => e = .returned (.tuple #[.int .i64 v2, .int .i64 (i4 : Nat)]) ∧ w' = w1))
    (k : ((s.extract (i + 1) i2).toList == (s.extract (i2 + 1) i4).toList) = false ∨ (((s.extract (i + 1) i2).toList == (s.extract (i2 + 1) i4).toList) = true ∧ ((s.extract (i + 1) i2).toList == [48]) = false ∧ ((s.extract (i + 1) i2).toList == [49]) = false)) (hv : 0 ≤ v1) :
    Calls Tryz.prog 80 #[.string s, .int .i64 i] w fun e w' => e = .returned (.tuple #[.int .i64 v1, .int .i64 ((i4 + 1 : Nat) : Int)]) ∧ w' = w := by
  have e0 := nx_in s i (by omega)
  have hne : ((s[i].toNat : Int) != 40) = false := by rw [bne_eq_false_iff_eq]; omega
  have li : i < s.size := by omega
  clear hc e0
  rcases k with k1 | ⟨k1, k2, k3⟩
  · go_enter Tryz.func80, Tryz.ntmps80
    go_wp2_with fail
    refine (unhide I1 _).mono ?_
    rintro e w1 ⟨rfl, rfl⟩
    go_wp2_with fail
    refine (unhide I2 _).mono ?_
    rintro e w1 ⟨rfl, rfl⟩
    go_wp2_with fail
    go_ret2
    exact ⟨rfl, rfl⟩
  · go_enter Tryz.func80, Tryz.ntmps80
    go_wp2_with fail
    refine (unhide I1 _).mono ?_
    rintro e w1 ⟨rfl, rfl⟩
    go_wp2_with fail
    refine (unhide I2 _).mono ?_
    rintro e w1 ⟨rfl, rfl⟩
    go_wp2_with fail
    go_ret2
    exact ⟨rfl, rfl⟩

set_option maxRecDepth 100000 in
set_option maxHeartbeats 2000000 in
theorem pid_second (s : ByteArray) (i i2 i4 : Nat) (v1 v2 : Int) (w : World) (hs : s.size ≤ 20000) (hi : i < i2) (hi2 : i2 < i4) (hi4 : i4 < s.size) (hc : nx s i = 40)
    (I1 : Hid (∀ w1, Calls Tryz.prog 80 #[.string s, .int .i64 ((i + 1 : Nat) : Int)] w1 fun e w' => e = .returned (.tuple #[.int .i64 v1, .int .i64 (i2 : Nat)]) ∧ w' = w1))
    (I2 : Hid (∀ w1, Calls Tryz.prog 80 #[.string s, .int .i64 ((i2 + 1 : Nat) : Int)] w1 fun e w' => e = .returned (.tuple #[.int .i64 v2, .int .i64 (i4 : Nat)]) ∧ w' = w1))
    (k : ((s.extract (i + 1) i2).toList == (s.extract (i2 + 1) i4).toList) = false ∨ (((s.extract (i + 1) i2).toList == (s.extract (i2 + 1) i4).toList) = true ∧ ((s.extract (i + 1) i2).toList == [48]) = false ∧ ((s.extract (i + 1) i2).toList == [49]) = false)) (hv : v1 < 0) :
    Calls Tryz.prog 80 #[.string s, .int .i64 i] w fun e w' => e = .returned (.tuple #[.int .i64 v2, .int .i64 ((i4 + 1 : Nat) : Int)]) ∧ w' = w := by
  have e0 := nx_in s i (by omega)
  have hne : ((s[i].toNat : Int) != 40) = false := by rw [bne_eq_false_iff_eq]; omega
  have li : i < s.size := by omega
  clear hc e0
  rcases k with k1 | ⟨k1, k2, k3⟩
  · go_enter Tryz.func80, Tryz.ntmps80
    go_wp2_with fail
    refine (unhide I1 _).mono ?_
    rintro e w1 ⟨rfl, rfl⟩
    go_wp2_with fail
    refine (unhide I2 _).mono ?_
    rintro e w1 ⟨rfl, rfl⟩
    go_wp2_with fail
    go_ret2
    exact ⟨rfl, rfl⟩
  · go_enter Tryz.func80, Tryz.ntmps80
    go_wp2_with fail
    refine (unhide I1 _).mono ?_
    rintro e w1 ⟨rfl, rfl⟩
    go_wp2_with fail
    refine (unhide I2 _).mono ?_
    rintro e w1 ⟨rfl, rfl⟩
    go_wp2_with fail
    go_ret2
    exact ⟨rfl, rfl⟩

/-- plainId where an ID can be read: the first place that is not plain. -/
theorem plainId_any (s : ByteArray) (hs : s.size ≤ 20000) : ∀ (h i r : Nat) (t : Tr Bool) (j q : Nat), idR s h i r = .ok t j q →
    ∃ p : Option Nat, q = mnP r p ∧ (∀ x, p = some x → i ≤ x ∧ x < j) ∧ ∀ w, Calls Tryz.prog 80 #[.string s, .int .i64 i] w fun e w' => e = .returned (.tuple #[.int .i64 (plV p), .int .i64 (j : Nat)]) ∧ w' = w := by
  intro h
  induction h with
  | zero =>
    intro i r t j q e
    rcases idR_inv s 0 i r t j q e with ⟨c, _, rfl, rfl⟩ | ⟨c, _, rfl, rfl⟩ | ⟨h', _, _, _, _, _, _, hh, _⟩
    · exact ⟨none, rfl, fun _ h => (by cases h), fun w => plainId_leaf s i w hs (lt_of_nx s i (by omega)) (by omega)⟩
    · exact ⟨none, rfl, fun _ h => (by cases h), fun w => plainId_leaf s i w hs (lt_of_nx s i (by omega)) (by omega)⟩
    · omega
  | succ h ih =>
    intro i r t j q e
    rcases idR_inv s (h + 1) i r t j q e with ⟨c, _, rfl, rfl⟩ | ⟨c, _, rfl, rfl⟩ | ⟨h', l, u, i2, r2, i4, r4, hh, c, f1, g1, f2, g2, rfl, rfl, rfl⟩
    · exact ⟨none, rfl, fun _ h => (by cases h), fun w => plainId_leaf s i w hs (lt_of_nx s i (by omega)) (by omega)⟩
    · exact ⟨none, rfl, fun _ h => (by cases h), fun w => plainId_leaf s i w hs (lt_of_nx s i (by omega)) (by omega)⟩
    · obtain rfl : h' = h := by omega
      obtain ⟨p1, m1, b1, c1⟩ := ih _ _ _ _ _ f1
      obtain ⟨p2, m2, b2, c2⟩ := ih _ _ _ _ _ f2
      have L1 := idR_le _ _ _ _ _ _ _ f1
      have L2 := idR_le _ _ _ _ _ _ _ f2
      have l4 := lt_of_nx s i4 (by omega)
      obtain ⟨x1, x2⟩ := idR_leafs s h' (i + 1) r l i2 r2 f1
      obtain ⟨y1, y2⟩ := idR_leafs s h' (i2 + 1) r2 u i4 r4 f2
      cases hsame : sameB l u
      · have kd : ((s.extract (i + 1) i2).toList == (s.extract (i2 + 1) i4).toList) = false ∨ (((s.extract (i + 1) i2).toList == (s.extract (i2 + 1) i4).toList) = true ∧ ((s.extract (i + 1) i2).toList == [48]) = false ∧ ((s.extract (i + 1) i2).toList == [49]) = false) := by
          cases k1 : ((s.extract (i + 1) i2).toList == (s.extract (i2 + 1) i4).toList)
          · exact Or.inl rfl
          · right
            have e1 : (s.extract (i + 1) i2).toList = (s.extract (i2 + 1) i4).toList := by simpa using k1
            have ns : ¬ sameB l u = true := by rw [hsame]; decide
            rw [sameB_iff] at ns
            refine ⟨rfl, ?_, ?_⟩
            · rw [beq_eq_false_iff_ne]; intro hx
              exact ns (Or.inl ⟨x1.1 hx, y1.1 (by rw [← e1]; exact hx)⟩)
            · rw [beq_eq_false_iff_ne]; intro hx
              exact ns (Or.inr ⟨x2.1 hx, y2.1 (by rw [← e1]; exact hx)⟩)
        simp only [Bool.false_eq_true, if_false]
        cases p1 with
        | none =>
          refine ⟨p2, by rw [m2, m1]; rfl, fun x hx => by have := b2 x hx; omega, fun w => ?_⟩
          exact pid_second s i i2 i4 (-1) (plV p2) w hs (by omega) (by omega) l4 c (hide c1) (hide c2) kd (by omega)
        | some x =>
          have bx := b1 x rfl
          refine ⟨some x, ?_, fun y hy => by injection hy with hy; omega, fun w => ?_⟩
          · rw [m2, m1]
            cases p2 with
            | none => rfl
            | some y => have := b2 y rfl; show min (min r x) y = min r x; omega
          · exact pid_first s i i2 i4 (x : Int) (plV p2) w hs (by omega) (by omega) l4 c (hide c1) (hide c2) kd (by omega)
      · have k := (sameB_iff l u).1 hsame
        have ks : ((s.extract (i + 1) i2).toList == (s.extract (i2 + 1) i4).toList) = true ∧ (((s.extract (i + 1) i2).toList == [48]) = true ∨ (((s.extract (i + 1) i2).toList == [48]) = false ∧ ((s.extract (i + 1) i2).toList == [49]) = true)) := by
          rcases k with ⟨k1, k2⟩ | ⟨k1, k2⟩
          · rw [x1.2 k1, y1.2 k2]; exact ⟨rfl, Or.inl rfl⟩
          · rw [x2.2 k1, y2.2 k2]; exact ⟨rfl, Or.inr ⟨rfl, rfl⟩⟩
        simp only [if_true]
        refine ⟨some i, ?_, fun y hy => by injection hy with hy; omega, fun w => ?_⟩
        · rw [m2, m1]
          cases p1 with
          | none =>
            cases p2 with
            | none => rfl
            | some y => have := b2 y rfl; show min (min r y) i = min r i; omega
          | some x =>
            have := b1 x rfl
            cases p2 with
            | none => show min (min r x) i = min r i; omega
            | some y => have := b2 y rfl; show min (min (min r x) y) i = min r i; omega
        · exact pid_same s i i2 i4 (plV p1) (plV p2) w hs (by omega) (by omega) l4 c (hide c1) (hide c2) ks.1 ks.2

end Go.Proofs.YtoebmfhgaalcdaaGreatDoor

namespace Go.Proofs.YtoebmfhgaalcdaaGreatDoor
open Go.RowKit

theorem nx_sub (s : ByteArray) (i j k : Nat) (hj : j ≤ s.size) : nx (s.extract i j) k = if i + k < j then nx s (i + k) else 0 := by
  have e : (s.extract i j).data.toList = (s.data.toList.drop i).take (j - i) := by simp [ByteArray.data_extract]
  unfold nx
  rw [e]
  simp only [List.getD_eq_getElem?_getD]
  by_cases h : i + k < j
  · rw [if_pos h, List.getElem?_take_of_lt (by omega), List.getElem?_drop]
  · rw [if_neg h, List.getElem?_eq_none (by simp; omega)]; rfl

theorem numGo_lt (s : ByteArray) : ∀ (f i a n j : Nat), numGo s f i a = .ok n j → i ≤ j ∧ a ≤ n ∧ ∀ k, i ≤ k → k < j → isDig (nx s k) = true
  | 0, i, a, n, j, h => by
    rw [numGo] at h; obtain ⟨rfl, rfl⟩ := Nm.ok_inj h
    exact ⟨Nat.le_refl _, Nat.le_refl _, fun k k1 k2 => by omega⟩
  | f + 1, i, a, n, j, h => by
    rw [numGo] at h
    by_cases hd : isDig (nx s i) = true
    · rw [if_pos hd] at h
      by_cases ho : 1099511627776 < 10 * a + (nx s i - 48)
      · rw [if_pos ho] at h; exact (Nm.bad_ok h).elim
      · rw [if_neg ho] at h
        obtain ⟨h1, h2, h3⟩ := numGo_lt s f (i + 1) _ n j h
        refine ⟨by omega, by omega, fun k k1 k2 => ?_⟩
        by_cases e : k = i
        · subst e; exact hd
        · exact h3 k (by omega) k2
    · rw [if_neg hd] at h; obtain ⟨rfl, rfl⟩ := Nm.ok_inj h
      exact ⟨Nat.le_refl _, Nat.le_refl _, fun k k1 k2 => by omega⟩

theorem numGo_sub (s s' : ByteArray) : ∀ (f i a n j b : Nat), numGo s f i a = .ok n j → (∀ k, k < j - i → nx s' (b + k) = nx s (i + k)) → isDig (nx s' (b + (j - i))) = false → b + (j - i) ≤ s'.size →
    numGo s' (s'.size + 1 - b) b a = .ok n (b + (j - i))
  | 0, i, a, n, j, b, h, hk, hd, hz => by
    rw [numGo] at h; obtain ⟨rfl, rfl⟩ := Nm.ok_inj h
    simp only [Nat.sub_self, Nat.add_zero] at *
    exact numGo_end s' b _ hz hd
  | f + 1, i, a, n, j, b, h, hk, hd, hz => by
    rw [numGo] at h
    by_cases hg : isDig (nx s i) = true
    · rw [if_pos hg] at h
      by_cases ho : 1099511627776 < 10 * a + (nx s i - 48)
      · rw [if_pos ho] at h; exact (Nm.bad_ok h).elim
      · rw [if_neg ho] at h
        have hl := (numGo_lt s f (i + 1) _ n j h).1
        have e0 : nx s' b = nx s i := by have := hk 0 (by omega); simpa using this
        have e1 : b + (j - i) = b + 1 + (j - (i + 1)) := by omega
        rw [e1] at hd hz ⊢
        have R := numGo_sub s s' f (i + 1) _ n j (b + 1) h (fun k hk2 => by
          have := hk (k + 1) (by omega)
          rw [show b + 1 + k = b + (k + 1) by omega, show i + 1 + k = i + (k + 1) by omega]; exact this) hd hz
        rw [numGo_step s' b a (by omega) (by rw [e0]; exact hg) (by rw [e0]; exact ho), e0]
        exact R
    · rw [if_neg hg] at h; obtain ⟨rfl, rfl⟩ := Nm.ok_inj h
      simp only [Nat.sub_self, Nat.add_zero] at *
      exact numGo_end s' b _ hz hd

theorem numR_lt {s : ByteArray} {i n j : Nat} (h : numR s i = .ok n j) : i < j := by
  unfold numR at h
  by_cases g : isDig (nx s i) = false
  · rw [if_pos g] at h; exact (Nm.bad_ok h).elim
  · rw [if_neg g] at h
    by_cases z : nx s i = 48
    · rw [if_pos z] at h; obtain ⟨_, rfl⟩ := Nm.ok_inj h; omega
    · rw [if_neg z] at h
      have hd : isDig (nx s i) = true := by simpa using g
      have hl : i < s.size := lt_of_nx s i (by have := (isDig_iff _).1 hd; omega)
      rw [show s.size + 1 - i = (s.size - i) + 1 by omega, numGo, if_pos hd] at h
      by_cases ho : 1099511627776 < 10 * 0 + (nx s i - 48)
      · rw [if_pos ho] at h; exact (Nm.bad_ok h).elim
      · rw [if_neg ho] at h
        have := (numGo_lt s _ (i + 1) _ n j h).1; omega

/-- A number, read out of a copy. -/
theorem numF_sub {s s' : ByteArray} {i n j b : Nat} (h : numR s i = .ok n j) (hk : ∀ k, k < j - i → nx s' (b + k) = nx s (i + k)) (hd : isDig (nx s' (b + (j - i))) = false) (hz : b + (j - i) ≤ s'.size) :
    numF s' b = .ok n (b + (j - i)) := by
  have hlt := numR_lt h
  have e0 : nx s' b = nx s i := by have := hk 0 (by omega); simpa using this
  unfold numR at h
  unfold numF
  rw [e0]
  by_cases g : isDig (nx s i) = false
  · rw [if_pos g] at h; exact (Nm.bad_ok h).elim
  · rw [if_neg g] at h ⊢
    by_cases z : nx s i = 48
    · rw [if_pos z] at h ⊢
      obtain ⟨rfl, rfl⟩ := Nm.ok_inj h
      rw [show i + 1 - i = 1 by omega] at hd ⊢
      rw [if_neg (by rw [hd]; decide)]
    · rw [if_neg z] at h ⊢
      exact numGo_sub s s' _ i 0 n j b h hk hd hz

/-- A NUM is 0 just where it is the one byte. -/
theorem numR_zero {s : ByteArray} {i n j : Nat} (h : numR s i = .ok n j) : n = 0 ↔ (j = i + 1 ∧ nx s i = 48) := by
  unfold numR at h
  by_cases g : isDig (nx s i) = false
  · rw [if_pos g] at h; exact (Nm.bad_ok h).elim
  · rw [if_neg g] at h
    by_cases z : nx s i = 48
    · rw [if_pos z] at h; obtain ⟨rfl, rfl⟩ := Nm.ok_inj h; exact ⟨fun _ => ⟨rfl, z⟩, fun _ => rfl⟩
    · rw [if_neg z] at h
      have hd : isDig (nx s i) = true := by simpa using g
      have hr := (isDig_iff _).1 hd
      have hl : i < s.size := lt_of_nx s i (by omega)
      rw [show s.size + 1 - i = (s.size - i) + 1 by omega, numGo, if_pos hd] at h
      by_cases ho : 1099511627776 < 10 * 0 + (nx s i - 48)
      · rw [if_pos ho] at h; exact (Nm.bad_ok h).elim
      · rw [if_neg ho] at h
        have := (numGo_lt s _ (i + 1) _ n j h).2.1
        constructor
        · intro h0; omega
        · intro h0; omega

theorem evR_le (s : ByteArray) : ∀ (h base i r : Nat) (t : Tr Nat) (n j q : Nat), i ≤ s.size → evR s h base i r = .ok (t, n) j q → i < j ∧ j ≤ s.size := by
  intro h
  induction h with
  | zero =>
    intro base i r t n j q hi e
    rcases evR_inv s 0 base i r t n j q e with ⟨_, f, _, _⟩ | ⟨h', _, _, _, _, _, _, _, _, _, hh, _⟩
    · exact ⟨numR_lt f, (numR_ok hi f).2.2⟩
    · omega
  | succ h ih =>
    intro base i r t n j q hi e
    rcases evR_inv s (h + 1) base i r t n j q e with ⟨_, f, _, _⟩ | ⟨h', i1, l, ln, u, un, i2, r2, i4, r4, hh, c, f, g0, f1, g1, f2, g2, rfl, rfl, _⟩
    · exact ⟨numR_lt f, (numR_ok hi f).2.2⟩
    · obtain rfl : h' = h := by omega
      have li := lt_of_nx s i (by omega)
      have l0 := numR_lt f
      have l1 := lt_of_nx s i1 (by omega)
      have a1 := ih _ _ _ _ _ _ _ (by omega) f1
      have l2 := lt_of_nx s i2 (by omega)
      have a2 := ih _ _ _ _ _ _ _ (by omega) f2
      have l4 := lt_of_nx s i4 (by omega)
      omega

set_option maxRecDepth 100000 in
set_option maxHeartbeats 1000000 in
theorem front_num (s : ByteArray) (n j : Nat) (w : World) (hs : s.size ≤ 20000) (hp : 0 < s.size) (hc : nx s 0 ≠ 40) (hf : numF s 0 = .ok n j) :
    Calls Tryz.prog 125 #[.string s] w fun e w' => e = .returned (.int .i64 (n : Nat)) ∧ w' = w := by
  have e0 := nx_in s 0 hp
  have hne : ((s[0].toNat : Int) == 40) = false := beq_eq_false_iff_ne.2 (by omega)
  have N := hide (fun w1 => number_any s 0 w1 hs)
  rw [hf] at N
  clear hc e0 hf
  go_enter Tryz.func125, Tryz.ntmps125
  go_wp2_with fail
  refine (unhide N _).mono ?_
  rintro e w1 ⟨rfl, rfl⟩
  simp only [numRes]
  go_wp2_with fail
  go_ret
  exact ⟨rfl, rfl⟩

set_option maxRecDepth 100000 in
set_option maxHeartbeats 1000000 in
theorem front_br (s : ByteArray) (n j : Nat) (w : World) (hs : s.size ≤ 20000) (hp : 0 < s.size) (hc : nx s 0 = 40) (hf : numF s 1 = .ok n j) :
    Calls Tryz.prog 125 #[.string s] w fun e w' => e = .returned (.int .i64 (n : Nat)) ∧ w' = w := by
  have e0 := nx_in s 0 hp
  have hne : ((s[0].toNat : Int) == 40) = true := beq_iff_eq.2 (by omega)
  have N := hide (fun w1 => number_any s 1 w1 hs)
  rw [hf] at N
  clear hc e0 hf
  go_enter Tryz.func125, Tryz.ntmps125
  go_wp2_with fail
  refine (unhide N _).mono ?_
  rintro e w1 ⟨rfl, rfl⟩
  simp only [numRes]
  go_wp2_with fail
  go_ret
  exact ⟨rfl, rfl⟩

/-- The number in front of an EV that can be read. -/
theorem front_any (s : ByteArray) (hs : s.size ≤ 20000) (h base i r : Nat) (t : Tr Nat) (n j q : Nat) (hi : i ≤ s.size) (e : evR s h base i r = .ok (t, n) j q) (w : World) :
    Calls Tryz.prog 125 #[.string (s.extract i j)] w fun e w' => e = .returned (.int .i64 (n : Nat)) ∧ w' = w := by
  have L := evR_le s h base i r t n j q hi e
  have hz : (s.extract i j).size = j - i := by simp [ByteArray.size_extract]; omega
  have e0 : nx (s.extract i j) 0 = nx s i := by rw [nx_sub s i j 0 L.2, if_pos (by omega)]; rfl
  rcases evR_inv s h base i r t n j q e with ⟨c, f, _, _⟩ | ⟨h', i1, l, ln, u, un, i2, r2, i4, r4, hh, c, f, g0, f1, g1, f2, g2, rfl, rfl, _⟩
  · refine front_num _ n (0 + (j - i)) w (by omega) (by omega) (by rw [e0]; exact c) (numF_sub f (fun k hk => ?_) ?_ (by omega))
    · rw [nx_sub s i j _ L.2, if_pos (by omega)]; congr 1; omega
    · rw [nx_sub s i j _ L.2, if_neg (by omega)]; rfl
  · have l0 := numR_lt f
    have l1 := lt_of_nx s i1 (by omega)
    have a1 := evR_le _ _ _ _ _ _ _ _ _ (by omega) f1
    have l2 := lt_of_nx s i2 (by omega)
    have a2 := evR_le _ _ _ _ _ _ _ _ _ (by omega) f2
    refine front_br _ n (1 + (i1 - (i + 1))) w (by omega) (by omega) (by rw [e0]; exact c) (numF_sub f (fun k hk => ?_) ?_ (by omega))
    · rw [nx_sub s i _ _ L.2, if_pos (by omega)]; congr 1; omega
    · rw [nx_sub s i _ _ L.2, if_pos (by omega), show i + (1 + (i1 - (i + 1))) = i1 by omega, g0]; rfl

end Go.Proofs.YtoebmfhgaalcdaaGreatDoor

namespace Go.Proofs.YtoebmfhgaalcdaaGreatDoor
open Go.RowKit

set_option maxRecDepth 100000 in
set_option maxHeartbeats 1000000 in
theorem pev_leaf (s : ByteArray) (i n j : Nat) (w : World) (hs : s.size ≤ 20000) (hi : i < s.size) (hc : nx s i ≠ 40) (hf : numF s i = .ok n j) :
    Calls Tryz.prog 81 #[.string s, .int .i64 i] w fun e w' => e = .returned (.tuple #[.int .i64 (-1), .int .i64 (j : Nat)]) ∧ w' = w := by
  have e0 := nx_in s i hi
  have hne : ((s[i].toNat : Int) != 40) = true := by rw [bne_iff_ne]; omega
  have N := hide (fun w1 => number_any s i w1 hs)
  rw [hf] at N
  clear e0 hc hf
  go_enter Tryz.func81, Tryz.ntmps81
  go_wp2_with fail
  refine (unhide N _).mono ?_
  rintro e w1 ⟨rfl, rfl⟩
  simp only [numRes]
  go_wp2_with fail
  go_ret2
  exact ⟨rfl, rfl⟩

set_option maxRecDepth 100000 in
set_option maxHeartbeats 4000000 in
theorem pev_both (s : ByteArray) (i i1 i2 i4 n ln un : Nat) (v1 v2 : Int) (w : World) (hs : s.size ≤ 20000) (hi : i < i1) (hi1 : i1 < i2) (hi2 : i2 < i4) (hi4 : i4 < s.size) (hc : nx s i = 40)
    (N : Hid (∀ w1, Calls Tryz.prog 124 #[.string s, .int .i64 ((i + 1 : Nat) : Int)] w1 fun e w' => e = .returned (.tuple #[.int .i64 (n : Nat), .int .i64 (i1 : Nat), .int .i64 (-1)]) ∧ w' = w1))
    (I1 : Hid (∀ w1, Calls Tryz.prog 81 #[.string s, .int .i64 ((i1 + 1 : Nat) : Int)] w1 fun e w' => e = .returned (.tuple #[.int .i64 v1, .int .i64 (i2 : Nat)]) ∧ w' = w1))
    (I2 : Hid (∀ w1, Calls Tryz.prog 81 #[.string s, .int .i64 ((i2 + 1 : Nat) : Int)] w1 fun e w' => e = .returned (.tuple #[.int .i64 v2, .int .i64 (i4 : Nat)]) ∧ w' = w1))
    (F1 : Hid (∀ w1, Calls Tryz.prog 125 #[.string (s.extract (i1 + 1) i2)] w1 fun e w' => e = .returned (.int .i64 (ln : Nat)) ∧ w' = w1))
    (F2 : Hid (∀ w1, Calls Tryz.prog 125 #[.string (s.extract (i2 + 1) i4)] w1 fun e w' => e = .returned (.int .i64 (un : Nat)) ∧ w' = w1))
    (k1 : (((ln : Nat) : Int) != 0) = true) (k2 : (((un : Nat) : Int) != 0) = true) :
    Calls Tryz.prog 81 #[.string s, .int .i64 i] w fun e w' => e = .returned (.tuple #[.int .i64 (i : Nat), .int .i64 ((i4 + 1 : Nat) : Int)]) ∧ w' = w := by
  have e0 := nx_in s i (by omega)
  have hne : ((s[i].toNat : Int) != 40) = false := by rw [bne_eq_false_iff_eq]; omega
  have li : i < s.size := by omega
  clear hc e0
  go_enter Tryz.func81, Tryz.ntmps81
  go_wp2_with fail
  refine (unhide N _).mono ?_
  rintro e w1 ⟨rfl, rfl⟩
  go_wp2_with fail
  refine (unhide I1 _).mono ?_
  rintro e w1 ⟨rfl, rfl⟩
  go_wp2_with fail
  refine (unhide I2 _).mono ?_
  rintro e w1 ⟨rfl, rfl⟩
  go_wp2_with fail
  refine (unhide F1 _).mono ?_
  rintro e w1 ⟨rfl, rfl⟩
  go_wp2_with fail
  refine (unhide F2 _).mono ?_
  rintro e w1 ⟨rfl, rfl⟩
  go_wp2_with fail
  go_ret2
  exact ⟨rfl, rfl⟩

set_option maxRecDepth 100000 in
set_option maxHeartbeats 4000000 in
theorem pev_zeros (s : ByteArray) (i i1 i2 i4 n ln un : Nat) (v1 v2 : Int) (w : World) (hs : s.size ≤ 20000) (hi : i < i1) (hi1 : i1 < i2) (hi2 : i2 < i4) (hi4 : i4 < s.size) (hc : nx s i = 40)
    (N : Hid (∀ w1, Calls Tryz.prog 124 #[.string s, .int .i64 ((i + 1 : Nat) : Int)] w1 fun e w' => e = .returned (.tuple #[.int .i64 (n : Nat), .int .i64 (i1 : Nat), .int .i64 (-1)]) ∧ w' = w1))
    (I1 : Hid (∀ w1, Calls Tryz.prog 81 #[.string s, .int .i64 ((i1 + 1 : Nat) : Int)] w1 fun e w' => e = .returned (.tuple #[.int .i64 v1, .int .i64 (i2 : Nat)]) ∧ w' = w1))
    (I2 : Hid (∀ w1, Calls Tryz.prog 81 #[.string s, .int .i64 ((i2 + 1 : Nat) : Int)] w1 fun e w' => e = .returned (.tuple #[.int .i64 v2, .int .i64 (i4 : Nat)]) ∧ w' = w1))
    (F1 : Hid (∀ w1, Calls Tryz.prog 125 #[.string (s.extract (i1 + 1) i2)] w1 fun e w' => e = .returned (.int .i64 (ln : Nat)) ∧ w' = w1))
    (F2 : Hid (∀ w1, Calls Tryz.prog 125 #[.string (s.extract (i2 + 1) i4)] w1 fun e w' => e = .returned (.int .i64 (un : Nat)) ∧ w' = w1))
    (k : ((((ln : Nat) : Int) != 0) = false ∨ ((((ln : Nat) : Int) != 0) = true ∧ (((un : Nat) : Int) != 0) = false))) (k3 : ((s.extract (i1 + 1) i2).toList == [48]) = true) (k4 : ((s.extract (i2 + 1) i4).toList == [48]) = true) :
    Calls Tryz.prog 81 #[.string s, .int .i64 i] w fun e w' => e = .returned (.tuple #[.int .i64 (i : Nat), .int .i64 ((i4 + 1 : Nat) : Int)]) ∧ w' = w := by
  have e0 := nx_in s i (by omega)
  have hne : ((s[i].toNat : Int) != 40) = false := by rw [bne_eq_false_iff_eq]; omega
  have li : i < s.size := by omega
  clear hc e0
  rcases k with k1 | ⟨k1, k2⟩
  · go_enter Tryz.func81, Tryz.ntmps81
    go_wp2_with fail
    refine (unhide N _).mono ?_
    rintro e w1 ⟨rfl, rfl⟩
    go_wp2_with fail
    refine (unhide I1 _).mono ?_
    rintro e w1 ⟨rfl, rfl⟩
    go_wp2_with fail
    refine (unhide I2 _).mono ?_
    rintro e w1 ⟨rfl, rfl⟩
    go_wp2_with fail
    refine (unhide F1 _).mono ?_
    rintro e w1 ⟨rfl, rfl⟩
    go_wp2_with fail
    refine (unhide F2 _).mono ?_
    rintro e w1 ⟨rfl, rfl⟩
    go_wp2_with fail
    go_ret2
    exact ⟨rfl, rfl⟩
  · go_enter Tryz.func81, Tryz.ntmps81
    go_wp2_with fail
    refine (unhide N _).mono ?_
    rintro e w1 ⟨rfl, rfl⟩
    go_wp2_with fail
    refine (unhide I1 _).mono ?_
    rintro e w1 ⟨rfl, rfl⟩
    go_wp2_with fail
    refine (unhide I2 _).mono ?_
    rintro e w1 ⟨rfl, rfl⟩
    go_wp2_with fail
    refine (unhide F1 _).mono ?_
    rintro e w1 ⟨rfl, rfl⟩
    go_wp2_with fail
    refine (unhide F2 _).mono ?_
    rintro e w1 ⟨rfl, rfl⟩
    go_wp2_with fail
    go_ret2
    exact ⟨rfl, rfl⟩

set_option maxRecDepth 100000 in
set_option maxHeartbeats 4000000 in
theorem pev_first (s : ByteArray) (i i1 i2 i4 n ln un : Nat) (v1 v2 : Int) (w : World) (hs : s.size ≤ 20000) (hi : i < i1) (hi1 : i1 < i2) (hi2 : i2 < i4) (hi4 : i4 < s.size) (hc : nx s i = 40)
    (N : Hid (∀ w1, Calls Tryz.prog 124 #[.string s, .int .i64 ((i + 1 : Nat) : Int)] w1 fun e w' => e = .returned (.tuple #[.int .i64 (n : Nat), .int .i64 (i1 : Nat), .int .i64 (-1)]) ∧ w' = w1))
    (I1 : Hid (∀ w1, Calls Tryz.prog 81 #[.string s, .int .i64 ((i1 + 1 : Nat) : Int)] w1 fun e w' => e = .returned (.tuple #[.int .i64 v1, .int .i64 (i2 : Nat)]) ∧ w' = w1))
    (I2 : Hid (∀ w1, Calls Tryz.prog 81 #[.string s, .int .i64 ((i2 + 1 : Nat) : Int)] w1 fun e w' => e = .returned (.tuple #[.int .i64 v2, .int .i64 (i4 : Nat)]) ∧ w' = w1))
    (F1 : Hid (∀ w1, Calls Tryz.prog 125 #[.string (s.extract (i1 + 1) i2)] w1 fun e w' => e = .returned (.int .i64 (ln : Nat)) ∧ w' = w1))
    (F2 : Hid (∀ w1, Calls Tryz.prog 125 #[.string (s.extract (i2 + 1) i4)] w1 fun e w' => e = .returned (.int .i64 (un : Nat)) ∧ w' = w1))
    (k : ((((ln : Nat) : Int) != 0) = false ∨ ((((ln : Nat) : Int) != 0) = true ∧ (((un : Nat) : Int) != 0) = false))) (k' : ((s.extract (i1 + 1) i2).toList == [48]) = false ∨ (((s.extract (i1 + 1) i2).toList == [48]) = true ∧ ((s.extract (i2 + 1) i4).toList == [48]) = false)) (hv : 0 ≤ v1) :
    Calls Tryz.prog 81 #[.string s, .int .i64 i] w fun e w' => e = .returned (.tuple #[.int .i64 v1, .int .i64 ((i4 + 1 : Nat) : Int)]) ∧ w' = w := by
  have e0 := nx_in s i (by omega)
  have hne : ((s[i].toNat : Int) != 40) = false := by rw [bne_eq_false_iff_eq]; omega
  have li : i < s.size := by omega
  clear hc e0
  rcases k with k1 | ⟨k1, k2⟩ <;> rcases k' with k3 | ⟨k3, k4⟩
  · go_enter Tryz.func81, Tryz.ntmps81
    go_wp2_with fail
    refine (unhide N _).mono ?_
    rintro e w1 ⟨rfl, rfl⟩
    go_wp2_with fail
    refine (unhide I1 _).mono ?_
    rintro e w1 ⟨rfl, rfl⟩
    go_wp2_with fail
    refine (unhide I2 _).mono ?_
    rintro e w1 ⟨rfl, rfl⟩
    go_wp2_with fail
    refine (unhide F1 _).mono ?_
    rintro e w1 ⟨rfl, rfl⟩
    go_wp2_with fail
    refine (unhide F2 _).mono ?_
    rintro e w1 ⟨rfl, rfl⟩
    go_wp2_with fail
    go_ret2
    exact ⟨rfl, rfl⟩
  · go_enter Tryz.func81, Tryz.ntmps81
    go_wp2_with fail
    refine (unhide N _).mono ?_
    rintro e w1 ⟨rfl, rfl⟩
    go_wp2_with fail
    refine (unhide I1 _).mono ?_
    rintro e w1 ⟨rfl, rfl⟩
    go_wp2_with fail
    refine (unhide I2 _).mono ?_
    rintro e w1 ⟨rfl, rfl⟩
    go_wp2_with fail
    refine (unhide F1 _).mono ?_
    rintro e w1 ⟨rfl, rfl⟩
    go_wp2_with fail
    refine (unhide F2 _).mono ?_
    rintro e w1 ⟨rfl, rfl⟩
    go_wp2_with fail
    go_ret2
    exact ⟨rfl, rfl⟩
  · go_enter Tryz.func81, Tryz.ntmps81
    go_wp2_with fail
    refine (unhide N _).mono ?_
    rintro e w1 ⟨rfl, rfl⟩
    go_wp2_with fail
    refine (unhide I1 _).mono ?_
    rintro e w1 ⟨rfl, rfl⟩
    go_wp2_with fail
    refine (unhide I2 _).mono ?_
    rintro e w1 ⟨rfl, rfl⟩
    go_wp2_with fail
    refine (unhide F1 _).mono ?_
    rintro e w1 ⟨rfl, rfl⟩
    go_wp2_with fail
    refine (unhide F2 _).mono ?_
    rintro e w1 ⟨rfl, rfl⟩
    go_wp2_with fail
    go_ret2
    exact ⟨rfl, rfl⟩
  · go_enter Tryz.func81, Tryz.ntmps81
    go_wp2_with fail
    refine (unhide N _).mono ?_
    rintro e w1 ⟨rfl, rfl⟩
    go_wp2_with fail
    refine (unhide I1 _).mono ?_
    rintro e w1 ⟨rfl, rfl⟩
    go_wp2_with fail
    refine (unhide I2 _).mono ?_
    rintro e w1 ⟨rfl, rfl⟩
    go_wp2_with fail
    refine (unhide F1 _).mono ?_
    rintro e w1 ⟨rfl, rfl⟩
    go_wp2_with fail
    refine (unhide F2 _).mono ?_
    rintro e w1 ⟨rfl, rfl⟩
    go_wp2_with fail
    go_ret2
    exact ⟨rfl, rfl⟩

set_option maxRecDepth 100000 in
set_option maxHeartbeats 4000000 in
theorem pev_second (s : ByteArray) (i i1 i2 i4 n ln un : Nat) (v1 v2 : Int) (w : World) (hs : s.size ≤ 20000) (hi : i < i1) (hi1 : i1 < i2) (hi2 : i2 < i4) (hi4 : i4 < s.size) (hc : nx s i = 40)
    (N : Hid (∀ w1, Calls Tryz.prog 124 #[.string s, .int .i64 ((i + 1 : Nat) : Int)] w1 fun e w' => e = .returned (.tuple #[.int .i64 (n : Nat), .int .i64 (i1 : Nat), .int .i64 (-1)]) ∧ w' = w1))
    (I1 : Hid (∀ w1, Calls Tryz.prog 81 #[.string s, .int .i64 ((i1 + 1 : Nat) : Int)] w1 fun e w' => e = .returned (.tuple #[.int .i64 v1, .int .i64 (i2 : Nat)]) ∧ w' = w1))
    (I2 : Hid (∀ w1, Calls Tryz.prog 81 #[.string s, .int .i64 ((i2 + 1 : Nat) : Int)] w1 fun e w' => e = .returned (.tuple #[.int .i64 v2, .int .i64 (i4 : Nat)]) ∧ w' = w1))
    (F1 : Hid (∀ w1, Calls Tryz.prog 125 #[.string (s.extract (i1 + 1) i2)] w1 fun e w' => e = .returned (.int .i64 (ln : Nat)) ∧ w' = w1))
    (F2 : Hid (∀ w1, Calls Tryz.prog 125 #[.string (s.extract (i2 + 1) i4)] w1 fun e w' => e = .returned (.int .i64 (un : Nat)) ∧ w' = w1))
    (k : ((((ln : Nat) : Int) != 0) = false ∨ ((((ln : Nat) : Int) != 0) = true ∧ (((un : Nat) : Int) != 0) = false))) (k' : ((s.extract (i1 + 1) i2).toList == [48]) = false ∨ (((s.extract (i1 + 1) i2).toList == [48]) = true ∧ ((s.extract (i2 + 1) i4).toList == [48]) = false)) (hv : v1 < 0) :
    Calls Tryz.prog 81 #[.string s, .int .i64 i] w fun e w' => e = .returned (.tuple #[.int .i64 v2, .int .i64 ((i4 + 1 : Nat) : Int)]) ∧ w' = w := by
  have e0 := nx_in s i (by omega)
  have hne : ((s[i].toNat : Int) != 40) = false := by rw [bne_eq_false_iff_eq]; omega
  have li : i < s.size := by omega
  clear hc e0
  rcases k with k1 | ⟨k1, k2⟩ <;> rcases k' with k3 | ⟨k3, k4⟩
  · go_enter Tryz.func81, Tryz.ntmps81
    go_wp2_with fail
    refine (unhide N _).mono ?_
    rintro e w1 ⟨rfl, rfl⟩
    go_wp2_with fail
    refine (unhide I1 _).mono ?_
    rintro e w1 ⟨rfl, rfl⟩
    go_wp2_with fail
    refine (unhide I2 _).mono ?_
    rintro e w1 ⟨rfl, rfl⟩
    go_wp2_with fail
    refine (unhide F1 _).mono ?_
    rintro e w1 ⟨rfl, rfl⟩
    go_wp2_with fail
    refine (unhide F2 _).mono ?_
    rintro e w1 ⟨rfl, rfl⟩
    go_wp2_with fail
    go_ret2
    exact ⟨rfl, rfl⟩
  · go_enter Tryz.func81, Tryz.ntmps81
    go_wp2_with fail
    refine (unhide N _).mono ?_
    rintro e w1 ⟨rfl, rfl⟩
    go_wp2_with fail
    refine (unhide I1 _).mono ?_
    rintro e w1 ⟨rfl, rfl⟩
    go_wp2_with fail
    refine (unhide I2 _).mono ?_
    rintro e w1 ⟨rfl, rfl⟩
    go_wp2_with fail
    refine (unhide F1 _).mono ?_
    rintro e w1 ⟨rfl, rfl⟩
    go_wp2_with fail
    refine (unhide F2 _).mono ?_
    rintro e w1 ⟨rfl, rfl⟩
    go_wp2_with fail
    go_ret2
    exact ⟨rfl, rfl⟩
  · go_enter Tryz.func81, Tryz.ntmps81
    go_wp2_with fail
    refine (unhide N _).mono ?_
    rintro e w1 ⟨rfl, rfl⟩
    go_wp2_with fail
    refine (unhide I1 _).mono ?_
    rintro e w1 ⟨rfl, rfl⟩
    go_wp2_with fail
    refine (unhide I2 _).mono ?_
    rintro e w1 ⟨rfl, rfl⟩
    go_wp2_with fail
    refine (unhide F1 _).mono ?_
    rintro e w1 ⟨rfl, rfl⟩
    go_wp2_with fail
    refine (unhide F2 _).mono ?_
    rintro e w1 ⟨rfl, rfl⟩
    go_wp2_with fail
    go_ret2
    exact ⟨rfl, rfl⟩
  · go_enter Tryz.func81, Tryz.ntmps81
    go_wp2_with fail
    refine (unhide N _).mono ?_
    rintro e w1 ⟨rfl, rfl⟩
    go_wp2_with fail
    refine (unhide I1 _).mono ?_
    rintro e w1 ⟨rfl, rfl⟩
    go_wp2_with fail
    refine (unhide I2 _).mono ?_
    rintro e w1 ⟨rfl, rfl⟩
    go_wp2_with fail
    refine (unhide F1 _).mono ?_
    rintro e w1 ⟨rfl, rfl⟩
    go_wp2_with fail
    refine (unhide F2 _).mono ?_
    rintro e w1 ⟨rfl, rfl⟩
    go_wp2_with fail
    go_ret2
    exact ⟨rfl, rfl⟩

/-- The two tests are one. -/
theorem rough_same (base ln un : Nat) (l u : Tr Nat) (zl zu : Bool) (hl : zl = true ↔ l = .leaf base) (hu : zu = true ↔ u = .leaf base) (dl : (∃ a, l = .leaf a) → l = .leaf (base + ln)) (du : (∃ a, u = .leaf a) → u = .leaf (base + un)) :
    (decide (0 < ln) && decide (0 < un) || sameI l u) = true ↔ ((ln ≠ 0 ∧ un ≠ 0) ∨ (zl = true ∧ zu = true)) := by
  rw [Bool.or_eq_true, Bool.and_eq_true, decide_eq_true_iff, decide_eq_true_iff]
  constructor
  · rintro (⟨a, b⟩ | h)
    · exact Or.inl ⟨by omega, by omega⟩
    · cases l using Tr.cs with
      | pair a b => exact absurd h (by show ¬ false = true; decide)
      | leaf a =>
        cases u using Tr.cs with
        | pair c d => exact absurd h (by show ¬ false = true; decide)
        | leaf b =>
          have ea : a = base + ln := by have := dl ⟨a, rfl⟩; injection this with this; injection this
          have eb : b = base + un := by have := du ⟨b, rfl⟩; injection this with this; injection this
          have hab : a = b := by
            have : (a == b) = true := h
            simpa using this
          by_cases z : ln = 0
          · right
            refine ⟨hl.2 ?_, hu.2 ?_⟩
            · rw [ea, z]; rfl
            · rw [eb, show un = 0 by omega]; rfl
          · exact Or.inl ⟨z, by omega⟩
  · rintro (⟨a, b⟩ | ⟨a, b⟩)
    · exact Or.inl ⟨by omega, by omega⟩
    · right
      rw [hl.1 a, hu.1 b]
      show (base == base) = true
      simp

/-- An EV that can be read is the one byte 0 just where it is a leaf of nothing more. -/
theorem ev_zero (s : ByteArray) (h base i r : Nat) (t : Tr Nat) (n j q : Nat) (hi : i ≤ s.size) (e : evR s h base i r = .ok (t, n) j q) :
    (((s.extract i j).toList == [48]) = true ↔ t = .leaf base) ∧ ((∃ a, t = .leaf a) → t = .leaf (base + n)) ∧ (((s.extract i j).toList == [48]) = true → n = 0) := by
  have L := evR_le s h base i r t n j q hi e
  have X := ext_is s i j 48 L.2 L.1 (by omega)
  rw [show UInt8.ofNat 48 = (48 : UInt8) from rfl] at X
  rw [beq_iff_eq, X]
  rcases evR_inv s h base i r t n j q e with ⟨c, f, rfl, _⟩ | ⟨h', i1, l, ln, u, un, i2, r2, i4, r4, hh, c, f, g0, f1, g1, f2, g2, rfl, rfl, _⟩
  · have Z := numR_zero f
    refine ⟨⟨fun h => ?_, fun h => ?_⟩, fun _ => rfl, fun h => Z.2 h⟩
    · rw [Z.2 h]; rfl
    · injection h with h; injection h with h
      exact Z.1 (by omega)
  · refine ⟨⟨fun h => by omega, fun h => ?_⟩, fun ⟨a, h⟩ => ?_, fun h => by omega⟩
    · injection h with h; injection h
    · injection h with h; injection h

/-- plainEv where an EV can be read: the first place that is not plain. -/
theorem plainEv_any (s : ByteArray) (hs : s.size ≤ 20000) : ∀ (h base i r : Nat) (t : Tr Nat) (n j q : Nat), i ≤ s.size → evR s h base i r = .ok (t, n) j q → isDig (nx s j) = false →
    ∃ p : Option Nat, q = mnP r p ∧ (∀ x, p = some x → i ≤ x ∧ x < j) ∧ ∀ w, Calls Tryz.prog 81 #[.string s, .int .i64 i] w fun e w' => e = .returned (.tuple #[.int .i64 (plV p), .int .i64 (j : Nat)]) ∧ w' = w := by
  intro h
  induction h with
  | zero =>
    intro base i r t n j q hi e hd
    rcases evR_inv s 0 base i r t n j q e with ⟨c, f, _, rfl⟩ | ⟨h', _, _, _, _, _, _, _, _, _, hh, _⟩
    · have hl : i < s.size := by
        apply lt_of_nx; intro h0
        unfold numR at f; rw [h0] at f; exact (Nm.bad_ok f).elim
      exact ⟨none, rfl, fun _ h => (by cases h), fun w => pev_leaf s i n j w hs hl c (numF_of f hd)⟩
    · omega
  | succ h ih =>
    intro base i r t n j q hi e hd
    rcases evR_inv s (h + 1) base i r t n j q e with ⟨c, f, _, rfl⟩ | ⟨h', i1, l, ln, u, un, i2, r2, i4, r4, hh, c, f, g0, f1, g1, f2, g2, rfl, rfl, rfl⟩
    · have hl : i < s.size := by
        apply lt_of_nx; intro h0
        unfold numR at f; rw [h0] at f; exact (Nm.bad_ok f).elim
      exact ⟨none, rfl, fun _ h => (by cases h), fun w => pev_leaf s i n j w hs hl c (numF_of f hd)⟩
    · obtain rfl : h' = h := by omega
      have l0 := numR_lt f
      have l1 := lt_of_nx s i1 (by omega)
      have L1 := evR_le _ _ _ _ _ _ _ _ _ (by omega) f1
      have l2 := lt_of_nx s i2 (by omega)
      have L2 := evR_le _ _ _ _ _ _ _ _ _ (by omega) f2
      have l4 := lt_of_nx s i4 (by omega)
      obtain ⟨p1, m1, b1, c1⟩ := ih _ _ _ _ _ _ _ (by omega) f1 (by rw [g1]; rfl)
      obtain ⟨p2, m2, b2, c2⟩ := ih _ _ _ _ _ _ _ (by omega) f2 (by rw [g2]; rfl)
      have N := fun w1 => number_any s (i + 1) w1 hs
      rw [numF_of f (by rw [g0]; rfl)] at N
      simp only [numRes] at N
      have F1 := fun w1 => front_any s hs _ _ _ _ _ _ _ _ (by omega) f1 w1
      have F2 := fun w1 => front_any s hs _ _ _ _ _ _ _ _ (by omega) f2 w1
      obtain ⟨z1, y1, _⟩ := ev_zero s _ _ _ _ _ _ _ _ (by omega) f1
      obtain ⟨z2, y2, _⟩ := ev_zero s _ _ _ _ _ _ _ _ (by omega) f2
      have R := rough_same (base + n) ln un l u _ _ z1 z2 y1 y2
      have nz : ∀ m : Nat, (((m : Nat) : Int) != 0) = true ↔ m ≠ 0 := fun m => by rw [bne_iff_ne]; omega
      have nz' : ∀ m : Nat, (((m : Nat) : Int) != 0) = false ↔ m = 0 := fun m => by rw [bne_eq_false_iff_eq]; omega
      by_cases rough : (decide (0 < ln) && decide (0 < un) || sameI l u) = true
      · rw [if_pos rough]
        refine ⟨some i, ?_, fun y hy => by injection hy with hy; omega, fun w => ?_⟩
        · rw [m2, m1]
          cases p1 with
          | none =>
            cases p2 with
            | none => rfl
            | some y => have := b2 y rfl; show min (min r y) i = min r i; omega
          | some x =>
            have := b1 x rfl
            cases p2 with
            | none => show min (min r x) i = min r i; omega
            | some y => have := b2 y rfl; show min (min (min r x) y) i = min r i; omega
        · by_cases both : ln ≠ 0 ∧ un ≠ 0
          · exact pev_both s i i1 i2 i4 n ln un _ _ w hs (by omega) (by omega) (by omega) l4 c (hide N) (hide c1) (hide c2) (hide F1) (hide F2) ((nz ln).2 both.1) ((nz un).2 both.2)
          · have zz : _ ∧ _ := (R.1 rough).resolve_left both
            refine pev_zeros s i i1 i2 i4 n ln un _ _ w hs (by omega) (by omega) (by omega) l4 c (hide N) (hide c1) (hide c2) (hide F1) (hide F2) ?_ zz.1 zz.2
            by_cases q : ln = 0
            · exact Or.inl ((nz' ln).2 q)
            · exact Or.inr ⟨(nz ln).2 q, (nz' un).2 (by omega)⟩
      · rw [if_neg rough]
        have nr := fun h => rough (R.2 h)
        have k : (((ln : Nat) : Int) != 0) = false ∨ ((((ln : Nat) : Int) != 0) = true ∧ (((un : Nat) : Int) != 0) = false) := by
          by_cases q : ln = 0
          · exact Or.inl ((nz' ln).2 q)
          · exact Or.inr ⟨(nz ln).2 q, (nz' un).2 (by
              by_cases q2 : un = 0
              · exact q2
              · exact absurd (Or.inl ⟨q, q2⟩) nr)⟩
        have k' : ((s.extract (i1 + 1) i2).toList == [48]) = false ∨ (((s.extract (i1 + 1) i2).toList == [48]) = true ∧ ((s.extract (i2 + 1) i4).toList == [48]) = false) := by
          cases q : ((s.extract (i1 + 1) i2).toList == [48])
          · exact Or.inl rfl
          · refine Or.inr ⟨rfl, ?_⟩
            cases q2 : ((s.extract (i2 + 1) i4).toList == [48])
            · rfl
            · exact absurd (Or.inr ⟨q, q2⟩) nr
        cases p1 with
        | none =>
          refine ⟨p2, by rw [m2, m1]; rfl, fun x hx => by have := b2 x hx; omega, fun w => ?_⟩
          exact pev_second s i i1 i2 i4 n ln un (-1) (plV p2) w hs (by omega) (by omega) (by omega) l4 c (hide N) (hide c1) (hide c2) (hide F1) (hide F2) k k' (by omega)
        | some x =>
          have bx := b1 x rfl
          refine ⟨some x, ?_, fun y hy => by injection hy with hy; omega, fun w => ?_⟩
          · rw [m2, m1]
            cases p2 with
            | none => rfl
            | some y => have := b2 y rfl; show min (min r x) y = min r x; omega
          · exact pev_first s i i1 i2 i4 n ln un (x : Int) (plV p2) w hs (by omega) (by omega) (by omega) l4 c (hide N) (hide c1) (hide c2) (hide F1) (hide F2) k k' (by omega)

end Go.Proofs.YtoebmfhgaalcdaaGreatDoor

namespace Go.Proofs.YtoebmfhgaalcdaaGreatDoor

/-- Where reading an ID ends (or fails). -/
def idJ (s : ByteArray) : Nat → Nat → Nat ⊕ Nat
  | 0, i => if nx s i = 48 ∨ nx s i = 49 then .inl (i + 1) else .inr i
  | h + 1, i =>
    if nx s i = 48 ∨ nx s i = 49 then .inl (i + 1) else
    if nx s i = 40 then
      match idJ s h (i + 1) with
      | .inr j => .inr j
      | .inl i2 => if nx s i2 = 44 then (match idJ s h (i2 + 1) with
        | .inr j => .inr j
        | .inl i4 => if nx s i4 = 41 then .inl (i4 + 1) else .inr i4) else .inr i2
    else .inr i

/-- Where reading an EV ends (or fails). -/
def evJ (s : ByteArray) : Nat → Nat → Nat ⊕ Nat
  | 0, i => if nx s i = 40 then .inr i else (match numF s i with
    | ⟨.inr j⟩ => .inr j
    | ⟨.inl (_, j)⟩ => .inl j)
  | h + 1, i =>
    if nx s i = 40 then
      match numF s (i + 1) with
      | ⟨.inr j⟩ => .inr j
      | ⟨.inl (_, i1)⟩ => if nx s i1 = 44 then (match evJ s h (i1 + 1) with
        | .inr j => .inr j
        | .inl i2 => if nx s i2 = 44 then (match evJ s h (i2 + 1) with
          | .inr j => .inr j
          | .inl i4 => if nx s i4 = 41 then .inl (i4 + 1) else .inr i4) else .inr i2) else .inr i1
    else (match numF s i with
    | ⟨.inr j⟩ => .inr j
    | ⟨.inl (_, j)⟩ => .inl j)

theorem idJ_of (s : ByteArray) : ∀ (h i r : Nat), (∀ t j q, idR s h i r = .ok t j q → idJ s h i = .inl j) ∧ (∀ j, idR s h i r = .bad j → idJ s h i = .inr j) := by
  intro h
  induction h with
  | zero =>
    intro i r
    by_cases c0 : nx s i = 48
    · rw [idR_zero 0 c0, idJ, if_pos (Or.inl c0)]
      exact ⟨fun t j q e => by obtain ⟨_, rfl, _⟩ := Rs.ok_inj e; rfl, fun j e => (Rs.bad_ok e.symm).elim⟩
    · by_cases c1 : nx s i = 49
      · rw [idR_one 0 c1, idJ, if_pos (Or.inr c1)]
        exact ⟨fun t j q e => by obtain ⟨_, rfl, _⟩ := Rs.ok_inj e; rfl, fun j e => (Rs.bad_ok e.symm).elim⟩
      · rw [idR_deep c0 c1, idJ, if_neg (by omega)]
        exact ⟨fun t j q e => (Rs.bad_ok e).elim, fun j e => by injection e with e; injection e with e; rw [e]⟩
  | succ h ih =>
    intro i r
    by_cases c0 : nx s i = 48
    · rw [idR_zero _ c0, idJ, if_pos (Or.inl c0)]
      exact ⟨fun t j q e => by obtain ⟨_, rfl, _⟩ := Rs.ok_inj e; rfl, fun j e => (Rs.bad_ok e.symm).elim⟩
    · by_cases c1 : nx s i = 49
      · rw [idR_one _ c1, idJ, if_pos (Or.inr c1)]
        exact ⟨fun t j q e => by obtain ⟨_, rfl, _⟩ := Rs.ok_inj e; rfl, fun j e => (Rs.bad_ok e.symm).elim⟩
      · by_cases c2 : nx s i = 40
        · rw [idJ, if_neg (by omega), if_pos c2]
          cases f1 : idR s h (i + 1) r using Rs.cs with
          | bad k =>
            rw [(ih (i + 1) r).2 k f1, idR_bad1 c2 f1]
            exact ⟨fun t j q e => (Rs.bad_ok e).elim, fun j e => by injection e with e; injection e with e; rw [e]⟩
          | ok l i2 r2 =>
            rw [(ih (i + 1) r).1 _ _ _ f1]
            by_cases g1 : nx s i2 = 44
            · simp only; rw [if_pos g1]
              cases f2 : idR s h (i2 + 1) r2 using Rs.cs with
              | bad k =>
                rw [(ih (i2 + 1) r2).2 k f2, idR_bad3 c2 f1 g1 f2]
                exact ⟨fun t j q e => (Rs.bad_ok e).elim, fun j e => by injection e with e; injection e with e; rw [e]⟩
              | ok u i4 r4 =>
                rw [(ih (i2 + 1) r2).1 _ _ _ f2]
                by_cases g2 : nx s i4 = 41
                · simp only; rw [if_pos g2, idR_pair c2 f1 g1 f2 g2]
                  exact ⟨fun t j q e => by obtain ⟨_, rfl, _⟩ := Rs.ok_inj e; rfl, fun j e => (Rs.bad_ok e.symm).elim⟩
                · simp only; rw [if_neg g2, idR_bad4 c2 f1 g1 f2 g2]
                  exact ⟨fun t j q e => (Rs.bad_ok e).elim, fun j e => by injection e with e; injection e with e; rw [e]⟩
            · simp only; rw [if_neg g1, idR_bad2 c2 f1 g1]
              exact ⟨fun t j q e => (Rs.bad_ok e).elim, fun j e => by injection e with e; injection e with e; rw [e]⟩
        · rw [idJ, if_neg (by omega), if_neg c2, idR_bad0 c0 c1 c2]
          exact ⟨fun t j q e => (Rs.bad_ok e).elim, fun j e => by injection e with e; injection e with e; rw [e]⟩

theorem numGo_stops (s : ByteArray) : ∀ (f i a n j : Nat), s.size < f + i → numGo s f i a = .ok n j → isDig (nx s j) = true → False
  | 0, i, a, n, j, hf, h, hd => by
    rw [numGo] at h; obtain ⟨_, rfl⟩ := Nm.ok_inj h
    have := lt_of_nx s i (by have := (isDig_iff _).1 hd; omega)
    omega
  | f + 1, i, a, n, j, hf, h, hd => by
    rw [numGo] at h
    by_cases hg : isDig (nx s i) = true
    · rw [if_pos hg] at h
      by_cases ho : 1099511627776 < 10 * a + (nx s i - 48)
      · rw [if_pos ho] at h; exact Nm.bad_ok h
      · rw [if_neg ho] at h
        exact numGo_stops s f (i + 1) _ n j (by omega) h hd
    · rw [if_neg hg] at h; obtain ⟨_, rfl⟩ := Nm.ok_inj h
      exact hg hd

/-- The two ways to read a NUM part at a digit behind a nought alone. -/
theorem numF_numR (s : ByteArray) (i : Nat) : (∀ j, numR s i = .bad j → numF s i = .bad j) ∧ (∀ n j, numR s i = .ok n j → (isDig (nx s j) = false → numF s i = .ok n j) ∧ (isDig (nx s j) = true → numF s i = .bad j)) := by
  unfold numR numF
  by_cases g : isDig (nx s i) = false
  · rw [if_pos g, if_pos g]
    exact ⟨fun j h => h, fun n j h => (Nm.bad_ok h).elim⟩
  · rw [if_neg g, if_neg g]
    by_cases z : nx s i = 48
    · rw [if_pos z, if_pos z]
      refine ⟨fun j h => (Nm.bad_ok h.symm).elim, fun n j h => ?_⟩
      obtain ⟨rfl, rfl⟩ := Nm.ok_inj h
      exact ⟨fun hd => by rw [if_neg (by rw [hd]; decide)], fun hd => by rw [if_pos hd]⟩
    · rw [if_neg z, if_neg z]
      refine ⟨fun j h => h, fun n j h => ⟨fun _ => h, fun hd => ?_⟩⟩
      exfalso
      have hg : isDig (nx s i) = true := by simpa using g
      have hl : i < s.size := lt_of_nx s i (by have := (isDig_iff _).1 hg; omega)
      exact numGo_stops s _ i 0 n j (by omega) h hd

theorem evJ_of (s : ByteArray) : ∀ (h base i r : Nat), i ≤ s.size → (∀ t n j q, evR s h base i r = .ok (t, n) j q → evJ s h i = .inl j ∨ (evJ s h i = .inr j ∧ isDig (nx s j) = true)) ∧ (∀ j, evR s h base i r = .bad j → evJ s h i = .inr j) := by
  have leaf : ∀ (h base i r : Nat), nx s i ≠ 40 → evJ s h i = (match numF s i with | ⟨.inr j⟩ => .inr j | ⟨.inl (_, j)⟩ => .inl j) →
      (∀ t n j q, evR s h base i r = .ok (t, n) j q → evJ s h i = .inl j ∨ (evJ s h i = .inr j ∧ isDig (nx s j) = true)) ∧ (∀ j, evR s h base i r = .bad j → evJ s h i = .inr j) := by
    intro h base i r c0 eJ
    have P := numF_numR s i
    cases f : numR s i using Nm.cs with
    | bad k =>
      rw [evR_numbad h c0 f, eJ, P.1 k f]
      exact ⟨fun t n j q e => (Rs.bad_ok e).elim, fun j e => by injection e with e; injection e with e; rw [e]⟩
    | ok m k =>
      rw [evR_num h c0 f, eJ]
      refine ⟨fun t n j q e => ?_, fun j e => (Rs.bad_ok e.symm).elim⟩
      obtain ⟨_, rfl, _⟩ := Rs.ok_inj e
      cases hd : isDig (nx s k)
      · rw [(P.2 m k f).1 hd]; exact Or.inl rfl
      · rw [(P.2 m k f).2 hd]; exact Or.inr ⟨rfl, rfl⟩
  intro h
  induction h with
  | zero =>
    intro base i r hi
    by_cases c0 : nx s i = 40
    · rw [evR_deep c0, evJ, if_pos c0]
      exact ⟨fun t n j q e => (Rs.bad_ok e).elim, fun j e => by injection e with e; injection e with e; rw [e]⟩
    · exact leaf 0 base i r c0 (by rw [evJ, if_neg c0])
  | succ h ih =>
    intro base i r hi
    by_cases c0 : nx s i = 40
    · have li := lt_of_nx s i (by omega)
      rw [evJ, if_pos c0]
      have P := numF_numR s (i + 1)
      cases f : numR s (i + 1) using Nm.cs with
      | bad k =>
        rw [evR_bad0 c0 f, P.1 k f]
        exact ⟨fun t n j q e => (Rs.bad_ok e).elim, fun j e => by injection e with e; injection e with e; rw [e]⟩
      | ok m i1 =>
        by_cases g0 : nx s i1 = 44
        · rw [(P.2 m i1 f).1 (by rw [g0]; rfl)]
          simp only; rw [if_pos g0]
          have l1 := lt_of_nx s i1 (by omega)
          cases f1 : evR s h (base + m) (i1 + 1) r using Rs.cs with
          | bad k =>
            rw [(ih (base + m) (i1 + 1) r (by omega)).2 k f1, evR_bad2 c0 f g0 f1]
            exact ⟨fun t n j q e => (Rs.bad_ok e).elim, fun j e => by injection e with e; injection e with e; rw [e]⟩
          | ok o i2 r2 =>
            obtain ⟨l, ln⟩ := o
            have J1 := (ih (base + m) (i1 + 1) r (by omega)).1 _ _ _ _ f1
            by_cases g1 : nx s i2 = 44
            · rw [J1.resolve_right (fun h => by rw [g1] at h; exact absurd h.2 (by decide))]
              simp only; rw [if_pos g1]
              have l2 := lt_of_nx s i2 (by omega)
              cases f2 : evR s h (base + m) (i2 + 1) r2 using Rs.cs with
              | bad k =>
                rw [(ih (base + m) (i2 + 1) r2 (by omega)).2 k f2, evR_bad4 c0 f g0 f1 g1 f2]
                exact ⟨fun t n j q e => (Rs.bad_ok e).elim, fun j e => by injection e with e; injection e with e; rw [e]⟩
              | ok o i4 r4 =>
                obtain ⟨u, un⟩ := o
                have J2 := (ih (base + m) (i2 + 1) r2 (by omega)).1 _ _ _ _ f2
                by_cases g2 : nx s i4 = 41
                · rw [J2.resolve_right (fun h => by rw [g2] at h; exact absurd h.2 (by decide))]
                  simp only; rw [if_pos g2, evR_pair c0 f g0 f1 g1 f2 g2]
                  exact ⟨fun t n j q e => by obtain ⟨_, rfl, _⟩ := Rs.ok_inj e; exact Or.inl rfl, fun j e => (Rs.bad_ok e.symm).elim⟩
                · rw [evR_bad5 c0 f g0 f1 g1 f2 g2]
                  refine ⟨fun t n j q e => (Rs.bad_ok e).elim, fun j e => ?_⟩
                  injection e with e; injection e with e; subst e
                  rcases J2 with J2 | ⟨J2, _⟩
                  · rw [J2]; simp only; rw [if_neg g2]
                  · rw [J2]
            · rw [evR_bad3 c0 f g0 f1 g1]
              refine ⟨fun t n j q e => (Rs.bad_ok e).elim, fun j e => ?_⟩
              injection e with e; injection e with e; subst e
              rcases J1 with J1 | ⟨J1, _⟩
              · rw [J1]; simp only; rw [if_neg g1]
              · rw [J1]
        · rw [evR_bad1 c0 f g0]
          refine ⟨fun t n j q e => (Rs.bad_ok e).elim, fun j e => ?_⟩
          injection e with e; injection e with e; subst e
          cases hd : isDig (nx s i1)
          · rw [(P.2 m i1 f).1 hd]; simp only; rw [if_neg g0]
          · rw [(P.2 m i1 f).2 hd]
    · exact leaf (h + 1) base i r c0 (by rw [evJ, if_neg c0])

/-- What a list of symbols says from a place on: where it fails. -/
def den (s : ByteArray) : List (Nat × Nat) → Nat → Option Nat
  | [], i => if i < s.size then some i else none
  | (x, d) :: L, i =>
    if x = 105 then (match idJ s (8 - d) i with
      | .inr j => some j
      | .inl j => den s L j)
    else if x = 101 then (match evJ s (8 - d) i with
      | .inr j => some j
      | .inl j => den s L j)
    else if x = 110 then (match numF s i with
      | ⟨.inr j⟩ => some j
      | ⟨.inl (_, j)⟩ => den s L j)
    else if nx s i = x then den s L (i + 1) else some i

/-- What Fails answers. -/
def failsR (s : ByteArray) : Option Nat := den s [(105, 0), (59, 0), (101, 0)] 0

end Go.Proofs.YtoebmfhgaalcdaaGreatDoor
