/-
  Our own. The document's code, as a text of bits: sprigsref.gamma, idBits, evBits.
-/
import Derived.Test.YtoebmfhgaalcdaaGreatDoorCodeAll
import Derived.Test.YtoebmfhgaalcdaaGreatDoorRefTextAll
import Derived.Test.YtoebmfhgaalcdaaGreatDoorReadInv
import Derived.Deep.LoopGhost
import Derived.Test.YtoebmfhgaalcdaaGreatDoorRefOneAll
import Derived.Test.YtoebmfhgaalcdaaGreatDoorRefBad
import Derived.Test.YtoebmfhgaalcdaaGreatDoorPackAll
import Derived.Test.YtoebmfhgaalcdaaGreatDoorCallsBad
namespace Go.Proofs.YtoebmfhgaalcdaaGreatDoor
open Go.RowKit

def bit8 (b : Bool) : UInt8 := if b then 49 else 48
def bstr (l : List Bool) : ByteArray := strOf (l.map bit8)
theorem bstr_append (a b : List Bool) : bstr a ++ bstr b = bstr (a ++ b) := by unfold bstr; rw [strOf_append, List.map_append]
theorem bstr_size (l : List Bool) : (bstr l).size = l.length := by unfold bstr; rw [strOf_size, List.length_map]
theorem gammaB_whole (n : Nat) (hn : n ≤ 1099511627776) : gammaB n = List.replicate (n + 1).log2 false ++ digitsB (n + 1) ((n + 1).log2 + 1) := by
  obtain ⟨d1, d2, d3⟩ := log_bounds n hn
  rw [gammaB, digitsB]
  congr 2
  rw [Nat.testBit_eq_decide_div_mod_eq]
  generalize (n + 1).log2 = d at *
  rw [Nat.pow_succ] at d3
  have h1 : (n + 1) / 2 ^ d < 2 := by rw [Nat.div_lt_iff_lt_mul (by omega)]; omega
  have h2 : 1 ≤ (n + 1) / 2 ^ d := by rw [Nat.le_div_iff_mul_le (by omega)]; omega
  rw [show (n + 1) / 2 ^ d = 1 by omega]; rfl
/-- One digit more ahead. -/
theorem digit_more (X j v : Nat) (h : X / 2 ^ j = v) : (⟨#[UInt8.ofNat (48 + (v : Int) % 2).toNat]⟩ : ByteArray) ++ bstr (digitsB X j) = bstr (digitsB X (j + 1)) := by
  have e : (48 + (v : Int) % 2).toNat = 48 + v % 2 := by omega
  rw [digitsB, Nat.testBit_eq_decide_div_mod_eq, h, e]
  have : (⟨#[UInt8.ofNat (48 + v % 2)]⟩ : ByteArray) = bstr [decide (v % 2 = 1)] := by
    rcases (show v % 2 = 0 ∨ v % 2 = 1 by omega) with h | h <;> rw [h] <;> rfl
  rw [this, bstr_append]; rfl

set_option maxRecDepth 100000 in
set_option maxHeartbeats 2000000 in
theorem rgam_any (n : Nat) (hn : n ≤ 1099511627776) (w : World) :
    Calls Tryz.prog 129 #[.int .i64 n] w fun e w' => e = .returned (.string (bstr (gammaB n))) ∧ Below w.heap.size w w' := by
  obtain ⟨d1, d2, d3⟩ := log_bounds n hn
  have G := hide (gammaB_whole n hn)
  have X0 : Hid ((n + 1) / 2 ^ 0 = n + 1) := hide (by simp)
  have XS : Hid (∀ j, (n + 1) / 2 ^ (j + 1) = (n + 1) / 2 ^ j / 2) := hide (fun j => by rw [Nat.pow_succ, Nat.div_div_eq_div_mul])
  have XL : Hid (∀ j, j ≤ (n + 1).log2 → 1 ≤ (n + 1) / 2 ^ j) := hide (fun j hj => by
    have : 2 ^ j ≤ 2 ^ (n + 1).log2 := Nat.pow_le_pow_right (by omega) hj
    rw [Nat.le_div_iff_mul_le (Nat.two_pow_pos j)]; omega)
  have XE : Hid ((n + 1) / 2 ^ ((n + 1).log2 + 1) = 0) := hide (Nat.div_eq_of_lt d3)
  have XB : Hid (∀ j, (n + 1) / 2 ^ j ≤ n + 1) := hide (fun j => Nat.div_le_self _ _)
  have DM := hide (digit_more (n + 1))
  have DL := hide (digitsB_len (n + 1))
  have D0 : Hid (({ data := #[] } : ByteArray) = bstr (digitsB (n + 1) 0)) := hide rfl
  generalize (n + 1).log2 = L at *
  generalize digitsB (n + 1) = DG at *
  clear d2 d3
  go_enter Tryz.func129, Tryz.ntmps129
  go_wp2_with fail
  go_loopg [0, 3] (L + 1) (fun q x d wr => ∃ j v : Nat, j + q = L + 1 ∧ (n + 1) / 2 ^ j = v ∧ x = .int .i64 (v : Nat) ∧ d = .string (bstr (DG j)) ∧ Below w.heap.size w wr)
  case atStart => exact ⟨0, n + 1, by omega, unhide X0, by go_num, by rw [unhide D0], Below.refl _ _⟩
  case round =>
    obtain ⟨j, v, hj, hv, rfl, rfl, hb⟩ := hrel
    have HJ := hide hj
    have hvn := unhide XB j
    rw [hv] at hvn
    have DJ := hide (unhide DM j v hv)
    have LJ := unhide DL j
    have BS := bstr_size (DG j)
    by_cases h0 : 0 < v
    · have hjl : j ≤ L := by
        rcases Nat.lt_or_ge L j with g | g
        · have e : j = L + 1 := by omega
          rw [e, unhide XE] at hv; omega
        · exact g
      have hv2 := unhide XS j
      rw [hv] at hv2
      have q2 : Hid ((v : Int) / 2 = ((v / 2 : Nat) : Int)) := hide (by omega)
      replace hv := hide hv
      replace hb := hide hb
      have hcv := fun W hW => str_one wr.heap.size (48 + (v : Int) % 2) W hW
      generalize bstr (DG j) = D1 at *
      have CAT := cat_ok ⟨#[UInt8.ofNat (48 + (v : Int) % 2).toNat]⟩ D1 (by show 1 + D1.size ≤ _; omega)
      rw [unhide DJ] at CAT
      generalize (⟨#[UInt8.ofNat (48 + (v : Int) % 2).toNat]⟩ : ByteArray) = C1 at hcv CAT
      replace hv2 := hide hv2
      clear hj BS DJ
      go_wp2_with fail
      go_roundg (gk - 1)
      case measure => have := unhide HJ; omega
      case rel => exact ⟨j + 1, v / 2, by have := unhide HJ; omega, unhide hv2, by rw [unhide q2], rfl, (unhide hb).alloc (unhide hb).size _⟩
    · have e : j = L + 1 := by
        rcases Nat.lt_or_ge L j with g | g
        · omega
        · have := unhide XL j g; omega
      subst e
      have v0 : v = 0 := by omega
      subst v0
      rw [LJ] at BS
      have G2 : Hid (bstr (List.replicate L false) ++ bstr (DG (L + 1)) = bstr (gammaB n)) := hide (by rw [unhide G, bstr_append])
      have ZS : Hid (∀ j, bstr (List.replicate j false) ++ { data := #[48] } = bstr (List.replicate (j + 1) false)) := hide (fun j => by
        rw [show ({ data := #[48] } : ByteArray) = bstr [false] from rfl, bstr_append, ← List.replicate_succ'])
      have ZL : Hid (∀ j, (bstr (List.replicate j false)).size = j) := hide (fun j => by rw [bstr_size, List.length_replicate])
      have Z0 : Hid (({ data := #[] } : ByteArray) = bstr (List.replicate 0 false)) := hide rfl
      generalize hgb : bstr (gammaB n) = GB at *
      replace hgb := hide hgb
      generalize bstr (DG (L + 1)) = D1 at *
      clear hj hv hvn DJ LJ G DM DL D0 X0 XS XL XE XB
      replace hb := hide hb
      go_wp2_with fail
      go_loopg [4, 5] L (fun q z x wr' => ∃ j : Nat, j + q = L ∧ z = .string (bstr (List.replicate j false)) ∧ x = .int .i64 ((j + 1 : Nat) : Int) ∧ wr' = wr)
      case atStart => exact ⟨0, by omega, by rw [← unhide Z0], rfl, rfl⟩
      case round =>
        obtain ⟨j, hj, rfl, rfl, rfl⟩ := hrel
        have HJ2 := hide hj
        have zl := unhide ZL j
        have zs := unhide ZS j
        by_cases hlt : j < L
        · have l1 : ((j + 1 : Nat) : Int) < (D1.size : Int) := by omega
          generalize bstr (List.replicate j false) = Z1 at *
          have CAT := cat_ok Z1 { data := #[48] } (by show Z1.size + 1 ≤ _; omega)
          rw [zs] at CAT
          clear hj zs
          go_wp2_with fail
          go_roundg (gk - 1)
          case measure => have := unhide HJ2; omega
          case rel => exact ⟨j + 1, by have := unhide HJ2; omega, rfl, by go_num, rfl⟩
        · have e : j = L := by omega
          subst e
          have l1 : ¬ ((j + 1 : Nat) : Int) < (D1.size : Int) := by omega
          have g2 := unhide G2
          generalize bstr (List.replicate j false) = Z1 at *
          have CAT := cat_ok Z1 D1 (by omega)
          rw [g2] at CAT
          clear hj zs g2
          go_wp2_with fail
          go_ret
          rw [unhide hgb]
          exact ⟨rfl, unhide hb⟩

end Go.Proofs.YtoebmfhgaalcdaaGreatDoor

namespace Go.Proofs.YtoebmfhgaalcdaaGreatDoor
open Go.RowKit

theorem strOf_part (T : List UInt8) (a b : Nat) : (strOf T).extract a b = strOf ((T.drop a).take (b - a)) := by
  apply ByteArray.ext
  simp [strOf, List.extract_eq_take_drop]
theorem ext_seg (s : ByteArray) (i j : Nat) : s.extract i j = strOf (seg s i j) := by
  have e : strOf s.data.toList = s := by cases s; simp [strOf]
  have := strOf_part s.data.toList i j
  rw [e] at this
  exact this
theorem one_bit (s : ByteArray) (i : Nat) (b : Bool) (hi : i < s.size) (h : nx s i = (bit8 b).toNat) : ({ data := #[48] } : ByteArray) ++ s.extract i (i + 1) = bstr [false, b] := by
  rw [ext_seg, seg_one s i (bit8 b) hi h, show ({ data := #[48] } : ByteArray) = strOf [48] from rfl, strOf_append]; rfl

set_option maxRecDepth 100000 in
set_option maxHeartbeats 1000000 in
theorem idBits_leaf (s : ByteArray) (i : Nat) (b : Bool) (w : World) (hs : s.size ≤ 20000) (hi : i < s.size) (hc : nx s i = (bit8 b).toNat) :
    Calls Tryz.prog 90 #[.string s, .int .i64 i] w fun e w' => e = .returned (.tuple #[.string (bstr [false, b]), .int .i64 ((i + 1 : Nat) : Int)]) ∧ w' = w := by
  have e0 := nx_in s i hi
  have h9 : nx s i = 48 ∨ nx s i = 49 := by rw [hc]; cases b; exact Or.inl rfl; exact Or.inr rfl
  have hne : ((s[i].toNat : Int) == 40) = false := beq_eq_false_iff_ne.2 (by omega)
  have O := one_bit s i b hi hc
  have sz : (s.extract i (i + 1)).size = 1 := by rw [ByteArray.size_extract]; omega
  have CAT := cat_ok { data := #[48] } (s.extract i (i + 1)) (by rw [sz]; decide)
  rw [O] at CAT
  generalize bstr [false, b] = R at *
  clear hc e0 h9 O sz
  go_enter Tryz.func90, Tryz.ntmps90
  go_wp2_with fail
  go_ret2
  exact ⟨rfl, rfl⟩

set_option maxRecDepth 100000 in
set_option maxHeartbeats 1000000 in
theorem idBits_pair (s : ByteArray) (i i2 i4 : Nat) (A B : ByteArray) (w : World) (hs : s.size ≤ 20000) (hi : i < s.size) (hi2 : i2 < s.size) (hi4 : i4 < s.size) (hc : nx s i = 40) (ha : A.size ≤ 100000) (hb : B.size ≤ 100000)
    (I1 : Hid (∀ w, Calls Tryz.prog 90 #[.string s, .int .i64 ((i + 1 : Nat) : Int)] w fun e w' => e = .returned (.tuple #[.string A, .int .i64 (i2 : Nat)]) ∧ w' = w))
    (I2 : Hid (∀ w, Calls Tryz.prog 90 #[.string s, .int .i64 ((i2 + 1 : Nat) : Int)] w fun e w' => e = .returned (.tuple #[.string B, .int .i64 (i4 : Nat)]) ∧ w' = w)) :
    Calls Tryz.prog 90 #[.string s, .int .i64 i] w fun e w' => e = .returned (.tuple #[.string ({ data := #[49] } ++ A ++ B), .int .i64 ((i4 + 1 : Nat) : Int)]) ∧ w' = w := by
  have e0 := nx_in s i hi
  have hne : ((s[i].toNat : Int) == 40) = true := beq_iff_eq.2 (by omega)
  have sz : (({ data := #[49] } : ByteArray) ++ A).size = 1 + A.size := by rw [ByteArray.size_append]; rfl
  have C1 := cat_ok { data := #[49] } A (by show 1 + A.size ≤ _; omega)
  have C2 := cat_ok ({ data := #[49] } ++ A) B (by omega)
  generalize hX : ({ data := #[49] } : ByteArray) ++ A ++ B = X at *
  generalize ({ data := #[49] } : ByteArray) ++ A = Y at *
  replace hX := hide hX
  clear hc e0 sz ha hb
  go_enter Tryz.func90, Tryz.ntmps90
  go_wp2_with fail
  refine (unhide I1 _).mono ?_
  rintro o w1 ⟨rfl, hw⟩
  subst hw
  go_wp2_with fail
  refine (unhide I2 _).mono ?_
  rintro o w2 ⟨rfl, hw⟩
  subst hw
  go_wp2_with fail
  go_ret2
  exact ⟨rfl, rfl⟩

theorem wid_pair (l u : Tr Bool) : bstr (wid (.pair l u)) = { data := #[49] } ++ bstr (wid l) ++ bstr (wid u) := by
  rw [show ({ data := #[49] } : ByteArray) = bstr [true] from rfl, bstr_append, bstr_append]; rfl

/-- The bits of an ID that can be read. -/
theorem idBits_any (s : ByteArray) (hs : s.size ≤ 20000) : ∀ (h i r : Nat) (t : Tr Bool) (j q : Nat), h ≤ 8 → idR s h i r = .ok t j q → ∀ w,
    Calls Tryz.prog 90 #[.string s, .int .i64 i] w fun e w' => e = .returned (.tuple #[.string (bstr (wid t)), .int .i64 (j : Nat)]) ∧ w' = w := by
  intro h
  induction h with
  | zero =>
    intro i r t j q h8 e w
    rcases idR_inv s 0 i r t j q e with ⟨c, rfl, rfl, _⟩ | ⟨c, rfl, rfl, _⟩ | ⟨h', _, _, _, _, _, _, hh, _⟩
    · exact idBits_leaf s i false w hs (lt_of_nx s i (by omega)) c
    · exact idBits_leaf s i true w hs (lt_of_nx s i (by omega)) c
    · omega
  | succ h ih =>
    intro i r t j q h8 e w
    rcases idR_inv s (h + 1) i r t j q e with ⟨c, rfl, rfl, _⟩ | ⟨c, rfl, rfl, _⟩ | ⟨h', l, u, i2, r2, i4, r4, hh, c, f1, g1, f2, g2, rfl, rfl, _⟩
    · exact idBits_leaf s i false w hs (lt_of_nx s i (by omega)) c
    · exact idBits_leaf s i true w hs (lt_of_nx s i (by omega)) c
    · obtain rfl : h' = h := by omega
      have d1 := (idR_seg s _ _ _ _ _ _ f1).2.2.2.1
      have d2 := (idR_seg s _ _ _ _ _ _ f2).2.2.2.1
      have p8 : 2 ^ h' ≤ 2 ^ 8 := Nat.pow_le_pow_right (by omega) (by omega)
      have w1 := wid_le l h' (by rw [← deep_same]; exact d1)
      have w2 := wid_le u h' (by rw [← deep_same]; exact d2)
      rw [wid_pair]
      exact idBits_pair s i i2 i4 _ _ w hs (lt_of_nx s i (by omega)) (lt_of_nx s i2 (by omega)) (lt_of_nx s i4 (by omega)) c (by rw [bstr_size]; omega) (by rw [bstr_size]; omega)
        (hide (ih _ _ _ _ _ (by omega) f1)) (hide (ih _ _ _ _ _ (by omega) f2))

set_option maxRecDepth 100000 in
set_option maxHeartbeats 1000000 in
theorem evBits_leaf (s : ByteArray) (i j n : Nat) (w : World) (hs : s.size ≤ 20000) (hi : i < s.size) (hc : nx s i ≠ 40) (hn : n ≤ 1099511627776) (hf : numF s i = .ok n j) :
    Calls Tryz.prog 91 #[.string s, .int .i64 i] w fun e w' => e = .returned (.tuple #[.string (bstr (false :: gammaB n)), .int .i64 (j : Nat)]) ∧ Below w.heap.size w w' := by
  have e0 := nx_in s i hi
  have hne : ((s[i].toNat : Int) == 40) = false := beq_eq_false_iff_ne.2 (by omega)
  have N := hide (fun w1 => number_any s i w1 hs)
  rw [hf] at N
  have G := hide (fun w1 => rgam_any n hn w1)
  have gl := gammaB_le n hn
  have sz := bstr_size (gammaB n)
  have O : ({ data := #[48] } : ByteArray) ++ bstr (gammaB n) = bstr (false :: gammaB n) := by
    rw [show ({ data := #[48] } : ByteArray) = bstr [false] from rfl, bstr_append]; rfl
  have CAT := cat_ok { data := #[48] } (bstr (gammaB n)) (by show 1 + (bstr (gammaB n)).size ≤ _; omega)
  rw [O] at CAT
  generalize bstr (false :: gammaB n) = R at *
  generalize bstr (gammaB n) = R0 at *
  clear hc e0 hf O sz gl
  go_enter Tryz.func91, Tryz.ntmps91
  go_wp2_with fail
  refine (unhide N _).mono ?_
  rintro o w1 ⟨rfl, hw⟩
  subst hw
  unfold numRes
  go_wp2_with fail
  refine (unhide G _).mono ?_
  rintro o w2 ⟨rfl, b2⟩
  replace b2 := hide b2
  go_wp2_with fail
  go_ret2
  exact ⟨rfl, unhide b2⟩

set_option maxRecDepth 100000 in
set_option maxHeartbeats 1000000 in
theorem evBits_pair (s : ByteArray) (i i1 i2 i4 n : Nat) (A B : ByteArray) (w : World) (hs : s.size ≤ 20000) (hi : i < s.size) (hi1 : i1 < s.size) (hi2 : i2 < s.size) (hi4 : i4 < s.size) (hc : nx s i = 40) (hn : n ≤ 1099511627776) (hf : numF s (i + 1) = .ok n i1) (ha : A.size ≤ 100000) (hb : B.size ≤ 100000)
    (I1 : Hid (∀ w, Calls Tryz.prog 91 #[.string s, .int .i64 ((i1 + 1 : Nat) : Int)] w fun e w' => e = .returned (.tuple #[.string A, .int .i64 (i2 : Nat)]) ∧ Below w.heap.size w w'))
    (I2 : Hid (∀ w, Calls Tryz.prog 91 #[.string s, .int .i64 ((i2 + 1 : Nat) : Int)] w fun e w' => e = .returned (.tuple #[.string B, .int .i64 (i4 : Nat)]) ∧ Below w.heap.size w w')) :
    Calls Tryz.prog 91 #[.string s, .int .i64 i] w fun e w' => e = .returned (.tuple #[.string ({ data := #[49] } ++ bstr (gammaB n) ++ A ++ B), .int .i64 ((i4 + 1 : Nat) : Int)]) ∧ Below w.heap.size w w' := by
  have e0 := nx_in s i hi
  have hne : ((s[i].toNat : Int) == 40) = true := beq_iff_eq.2 (by omega)
  have N := hide (fun w1 => number_any s (i + 1) w1 hs)
  rw [hf] at N
  have G := hide (fun w1 => rgam_any n hn w1)
  have gl := gammaB_le n hn
  have sz0 := bstr_size (gammaB n)
  generalize bstr (gammaB n) = R0 at *
  have sz : (({ data := #[49] } : ByteArray) ++ R0).size = 1 + R0.size := by rw [ByteArray.size_append]; rfl
  have sz2 : (({ data := #[49] } : ByteArray) ++ R0 ++ A).size = 1 + R0.size + A.size := by rw [ByteArray.size_append, sz]
  have C1 := cat_ok { data := #[49] } R0 (by show 1 + R0.size ≤ _; omega)
  have C2 := cat_ok ({ data := #[49] } ++ R0) A (by omega)
  have C3 := cat_ok ({ data := #[49] } ++ R0 ++ A) B (by omega)
  generalize ({ data := #[49] } : ByteArray) ++ R0 ++ A ++ B = X at *
  generalize ({ data := #[49] } : ByteArray) ++ R0 ++ A = Y at *
  generalize ({ data := #[49] } : ByteArray) ++ R0 = Z at *
  clear hc e0 sz sz0 sz2 ha hb hf gl
  go_enter Tryz.func91, Tryz.ntmps91
  go_wp2_with fail
  refine (unhide N _).mono ?_
  rintro o w1 ⟨rfl, hw⟩
  subst hw
  unfold numRes
  go_wp2_with fail
  refine (unhide I1 _).mono ?_
  rintro o w2 ⟨rfl, b2⟩
  replace b2 := hide b2
  go_wp2_with fail
  refine (unhide I2 _).mono ?_
  rintro o w3 ⟨rfl, b3⟩
  replace b3 := hide (below_trans (unhide b2) b3)
  go_wp2_with fail
  refine (unhide G _).mono ?_
  rintro o w4 ⟨rfl, b4⟩
  replace b4 := hide (below_trans (unhide b3) b4)
  go_wp2_with fail
  go_ret2
  exact ⟨rfl, unhide b4⟩

theorem wev_pair (l u : Tr Nat) (base n : Nat) (h : min (lowest l) (lowest u) = base + n) : bstr (wev (.pair l u) base) = { data := #[49] } ++ bstr (gammaB n) ++ bstr (wev l (base + n)) ++ bstr (wev u (base + n)) := by
  rw [show ({ data := #[49] } : ByteArray) = bstr [true] from rfl, bstr_append, bstr_append, bstr_append]
  show bstr (true :: (gammaB (min (lowest l) (lowest u) - base) ++ (wev l (min (lowest l) (lowest u)) ++ wev u (min (lowest l) (lowest u))))) = _
  rw [h, Nat.add_sub_cancel_left]; simp

/-- The bits of an EV that can be read, nothing of it rough. -/
theorem evBits_any (s : ByteArray) (hs : s.size ≤ 20000) : ∀ (h base i r : Nat) (t : Tr Nat) (n j q : Nat), h ≤ 8 → i ≤ s.size → evR s h base i r = .ok (t, n) j q → isDig (nx s j) = false → s.size ≤ q → highest t ≤ 1099511627776 → ∀ w,
    Calls Tryz.prog 91 #[.string s, .int .i64 i] w fun e w' => e = .returned (.tuple #[.string (bstr (wev t base)), .int .i64 (j : Nat)]) ∧ Below w.heap.size w w' := by
  have leafCase : ∀ (base i : Nat) (t : Tr Nat) (n j : Nat), (nx s i ≠ 40 ∧ numR s i = .ok n j ∧ t = .leaf (base + n)) → isDig (nx s j) = false → ∀ w,
      Calls Tryz.prog 91 #[.string s, .int .i64 i] w fun e w' => e = .returned (.tuple #[.string (bstr (wev t base)), .int .i64 (j : Nat)]) ∧ Below w.heap.size w w' := by
    rintro base i t n j ⟨c, f, rfl⟩ hd w
    have hl : i < s.size := by
      apply lt_of_nx; intro h0
      unfold numR at f; rw [h0] at f; exact (Nm.bad_ok f).elim
    have L := evBits_leaf s i j n w hs hl c (numR_ok (by omega) f).1 (numF_of f hd)
    rw [show wev (.leaf (base + n)) base = false :: gammaB n by show false :: gammaB (base + n - base) = _; rw [Nat.add_sub_cancel_left]]
    exact L
  intro h
  induction h with
  | zero =>
    intro base i r t n j q h8 hi e hd hq hh w
    rcases evR_inv s 0 base i r t n j q e with ⟨c, f, rfl, _⟩ | ⟨h', _, _, _, _, _, _, _, _, _, hh, _⟩
    · exact leafCase base i _ n j ⟨c, f, rfl⟩ hd w
    · omega
  | succ h ih =>
    intro base i r t n j q h8 hi e hd hq hhi w
    rcases evR_inv s (h + 1) base i r t n j q e with ⟨c, f, rfl, _⟩ | ⟨h', i1, l, ln, u, un, i2, r2, i4, r4, hh, c, f, g0, f1, g1, f2, g2, rfl, rfl, rfl⟩
    · exact leafCase base i _ n j ⟨c, f, rfl⟩ hd w
    · obtain rfl : h' = h := by omega
      have l0 := lt_of_nx s i (by omega)
      have l1 := lt_of_nx s i1 (by omega)
      have l2 := lt_of_nx s i2 (by omega)
      have l4 := lt_of_nx s i4 (by omega)
      by_cases hr : (decide (0 < ln) && decide (0 < un) || sameI l u) = true
      · rw [if_pos hr] at hq; omega
      rw [if_neg hr] at hq
      obtain ⟨_, _, e2, _, b4, b5, b6, b7⟩ := evR_seg s _ _ _ _ _ _ _ _ (by omega) f2
      obtain ⟨p2, q2⟩ := b7 hq
      obtain ⟨_, _, e1, _, a4, a5, a6, a7⟩ := evR_seg s _ _ _ _ _ _ _ _ (by omega) f1
      obtain ⟨p1, _⟩ := a7 q2
      have m1 := lowE e1 (base + n) p1
      have m2 := lowE e2 (base + n) p2
      rw [a4, a5] at m1
      rw [b4, b5] at m2
      have hr2 : (decide (0 < ln) && decide (0 < un) || sameI l u) = false := by simpa using hr
      rw [Bool.or_eq_false_iff, Bool.and_eq_false_iff] at hr2
      have mm : min (lowest l) (lowest u) = base + n := by
        rcases hr2.1 with h9 | h9
        · have := of_decide_eq_false h9; omega
        · have := of_decide_eq_false h9; omega
      have x1 : highest l ≤ 1099511627776 := by have : max (highest l) (highest u) ≤ 1099511627776 := hhi; omega
      have x2 : highest u ≤ 1099511627776 := by have : max (highest l) (highest u) ≤ 1099511627776 := hhi; omega
      have p8 : 2 ^ h' ≤ 2 ^ 8 := Nat.pow_le_pow_right (by omega) (by omega)
      have w1 := wev_le l h' (base + n) (by rw [← a4, deepE]; exact a6) x1
      have w2 := wev_le u h' (base + n) (by rw [← b4, deepE]; exact b6) x2
      rw [wev_pair l u base n mm]
      exact evBits_pair s i i1 i2 i4 n _ _ w hs l0 l1 l2 l4 c (numR_ok (by omega) f).1 (numF_of f (by rw [g0]; rfl)) (by rw [bstr_size]; omega) (by rw [bstr_size]; omega)
        (hide (ih _ _ _ _ _ _ _ (by omega) (by omega) f1 (by rw [g1]; rfl) q2 x1)) (hide (ih _ _ _ _ _ _ _ (by omega) (by omega) f2 (by rw [g2]; rfl) hq x2))

end Go.Proofs.YtoebmfhgaalcdaaGreatDoor

namespace Go.Proofs.YtoebmfhgaalcdaaGreatDoor
open Go.RowKit

/-- The number that m bits from i on make. -/
def bval (f : Nat → Bool) (i : Nat) : Nat → Nat
  | 0 => 0
  | m + 1 => 2 * bval f i m + (f (i + m)).toNat
theorem bval_lt (f : Nat → Bool) (i : Nat) : ∀ m, bval f i m < 2 ^ m
  | 0 => by show 0 < 1; omega
  | m + 1 => by
    have := bval_lt f i m
    have h2 : (f (i + m)).toNat ≤ 1 := Bool.toNat_le _
    show 2 * bval f i m + (f (i + m)).toNat < 2 ^ (m + 1)
    rw [Nat.pow_succ]; omega
theorem bval_bit (f : Nat → Bool) (i : Nat) : ∀ m p, p < m → (bval f i m).testBit (m - 1 - p) = f (i + p)
  | 0, p, h => by omega
  | m + 1, p, h => by
    have h2 : (f (i + m)).toNat ≤ 1 := Bool.toNat_le _
    show (2 * bval f i m + (f (i + m)).toNat).testBit (m + 1 - 1 - p) = _
    by_cases e : p = m
    · subst e
      rw [show p + 1 - 1 - p = 0 by omega, Nat.testBit_zero]
      cases f (i + p) with
      | false => simp
      | true => simp
    · rw [show m + 1 - 1 - p = (m - 1 - p) + 1 by omega, Nat.testBit_succ, show (2 * bval f i m + (f (i + m)).toNat) / 2 = bval f i m by omega]
      exact bval_bit f i m p (by omega)

def packL (l : List Bool) (n : Nat) : List UInt8 := (List.range n).map fun j => UInt8.ofNat (bval (fun k => l.getD k false) (8 * j) 8)
/-- The code of a row of bits. -/
def packOf (l : List Bool) : ByteArray := strOf (packL l ((l.length + 7) / 8))
theorem packL_len (l : List Bool) (n : Nat) : (packL l n).length = n := by simp [packL]
theorem packL_succ (l : List Bool) (n : Nat) : packL l (n + 1) = packL l n ++ [UInt8.ofNat (bval (fun k => l.getD k false) (8 * n) 8)] := by
  unfold packL; rw [List.range_succ, List.map_append]; rfl
theorem packOf_ok (l : List Bool) : Packed (packOf l) l := by
  have hl : (packOf l).size = (l.length + 7) / 8 := by unfold packOf; rw [strOf_size, packL_len]
  refine ⟨hl, fun k hk => ?_⟩
  have hk8 : k / 8 < (l.length + 7) / 8 := by omega
  unfold packOf
  rw [bitAt_strOf]
  have e : (packL l ((l.length + 7) / 8)).getD (k / 8) 0 = UInt8.ofNat (bval (fun k => l.getD k false) (8 * (k / 8)) 8) := by
    unfold packL
    rw [List.getD_eq_getElem?_getD, List.getElem?_map, List.getElem?_range hk8]; rfl
  have b := bval_lt (fun k => l.getD k false) (8 * (k / 8)) 8
  rw [e, u8_of (by omega), show 7 - k % 8 = 8 - 1 - k % 8 by omega, bval_bit _ _ 8 (k % 8) (by omega), show 8 * (k / 8) + k % 8 = k by omega]

theorem pad_bit (l : List Bool) (p k : Nat) : (l ++ List.replicate p false).getD k false = l.getD k false := by
  rw [List.getD_eq_getElem?_getD, List.getD_eq_getElem?_getD]
  rcases Nat.lt_or_ge k l.length with h | h
  · rw [List.getElem?_append_left h]
  · rw [List.getElem?_append_right h, List.getElem?_eq_none h]
    rcases Nat.lt_or_ge (k - l.length) p with g | g
    · rw [List.getElem?_replicate_of_lt g]; rfl
    · rw [List.getElem?_eq_none (by rw [List.length_replicate]; exact g)]
theorem bstr_at (l : List Bool) (k : Nat) (hk : k < l.length) : nx (bstr l) k = 48 + (l.getD k false).toNat := by
  unfold bstr
  rw [nx_strOf, List.getD_eq_getElem?_getD, List.getElem?_map, List.getD_eq_getElem?_getD, List.getElem?_eq_getElem hk]
  show (bit8 l[k]).toNat = 48 + (l[k]).toNat
  cases l[k] <;> rfl

set_option maxRecDepth 100000 in
set_option maxHeartbeats 4000000 in
theorem rEncode_walk (s A B : ByteArray) (l : List Bool) (i1 i2 : Nat) (w : World) (hl : l.length ≤ 50000) (hAB : A ++ B = bstr l) (hi1 : i1 ≤ 20000)
    (R : Calls Tryz.prog 38 #[.string s] w fun e w' => ∃ b, e = .returned (.tuple #[.pointer (some ⟨b, 0, none⟩), .int .i64 0, .int .i64 0]) ∧ Below w.heap.size w w')
    (I : ∀ w, Calls Tryz.prog 90 #[.string s, .int .i64 0] w fun e w' => e = .returned (.tuple #[.string A, .int .i64 (i1 : Nat)]) ∧ w' = w)
    (E : ∀ w, Calls Tryz.prog 91 #[.string s, .int .i64 ((i1 + 1 : Nat) : Int)] w fun e w' => e = .returned (.tuple #[.string B, .int .i64 (i2 : Nat)]) ∧ Below w.heap.size w w') :
    Calls Tryz.prog 42 #[.string s] w fun e w' => e = .returned (.tuple #[.string (packOf l), .int .i64 0]) ∧ Below w.heap.size w w' := by
  have sl : A.size + B.size = l.length := by rw [← ByteArray.size_append, hAB, bstr_size]
  have CAB := cat_ok A B (by omega)
  rw [hAB] at CAB
  replace R := hide R
  replace I := hide I
  replace E := hide E
  have PZ : Hid (∀ p, (bstr (l ++ List.replicate p false)).size = l.length + p) := hide (fun p => by rw [bstr_size, List.length_append, List.length_replicate])
  have PS : Hid (∀ p, bstr (l ++ List.replicate p false) ++ { data := #[48] } = bstr (l ++ List.replicate (p + 1) false)) := hide (fun p => by
    rw [show ({ data := #[48] } : ByteArray) = bstr [false] from rfl, bstr_append, List.append_assoc, ← List.replicate_succ'])
  have P0 : Hid (bstr l = bstr (l ++ List.replicate 0 false)) := hide (by simp)
  have NX : Hid (∀ p k, k < l.length + p → nx (bstr (l ++ List.replicate p false)) k = 48 + (l.getD k false).toNat) := hide (fun p k hk => by
    rw [bstr_at _ k (by rw [List.length_append, List.length_replicate]; exact hk), pad_bit])
  have OS : Hid (∀ n, strOf (packL l n) ++ (⟨#[UInt8.ofNat (bval (fun k => l.getD k false) (8 * n) 8)]⟩ : ByteArray) = strOf (packL l (n + 1))) := hide (fun n => by
    rw [packL_succ, ← strOf_append]; rfl)
  have OZ : Hid (∀ n, (strOf (packL l n)).size = n) := hide (fun n => by rw [strOf_size, packL_len])
  have O0 : Hid (({ data := #[] } : ByteArray) = strOf (packL l 0)) := hide rfl
  have BL := hide (bval_lt (fun k => l.getD k false))
  have BS : Hid (∀ i m, bval (fun k => l.getD k false) i (m + 1) = 2 * bval (fun k => l.getD k false) i m + (l.getD (i + m) false).toNat) := hide (fun _ _ => rfl)
  have B0 : Hid (∀ i, bval (fun k => l.getD k false) i 0 = 0) := hide (fun _ => rfl)
  have HP : Hid (packOf l = strOf (packL l ((l.length + 7) / 8))) := hide rfl
  generalize hbits : bstr l = BT at *
  clear hAB hbits
  generalize bval (fun k => l.getD k false) = V at *
  generalize packL l = PL at *
  generalize hLL : l.length = N at *
  replace hLL := hide hLL
  go_enter Tryz.func42, Tryz.ntmps42
  go_wp2_with fail
  refine (unhide R).mono ?_
  rintro o w1 ⟨b, rfl, b1⟩
  replace b1 := hide b1
  go_wp2_with fail
  refine (unhide I _).mono ?_
  rintro o w2 ⟨rfl, hw⟩
  subst hw
  go_wp2_with fail
  refine (unhide E _).mono ?_
  rintro o w3 ⟨rfl, b3⟩
  replace b3 := hide (below_trans (unhide b1) b3)
  go_wp2_with fail
  go_loopg [11] 8 (fun q x wr => ∃ p : Nat, p + q = 8 ∧ (N % 8 = 0 → p = 0) ∧ (N % 8 ≠ 0 → N % 8 + p ≤ 8) ∧ x = .string (bstr (l ++ List.replicate p false)) ∧ wr = w3)
  case atStart => exact ⟨0, rfl, fun _ => rfl, fun _ => by omega, by rw [unhide P0], rfl⟩
  case round =>
    obtain ⟨p, hp, hz0, hz1, rfl, rfl⟩ := hrel
    have HP8 := hide hp
    have HZ := hide (And.intro hz0 hz1)
    have pz := unhide PZ p
    have ps := unhide PS p
    by_cases hm : 0 < (N + p) % 8
    · have m1 : (0 : Int) < ((bstr (l ++ List.replicate p false)).size : Int) % 8 := by omega
      generalize bstr (l ++ List.replicate p false) = T at *
      have CAT := cat_ok T { data := #[48] } (by show T.size + 1 ≤ _; omega)
      rw [ps] at CAT
      clear hp hz0 hz1 ps hm
      go_wp2_with fail
      go_roundg (gk - 1)
      case measure => have := unhide HP8; have := unhide HZ; omega
      case rel => have := unhide HP8; have := unhide HZ; exact ⟨p + 1, by omega, by omega, by omega, rfl, rfl⟩
    · have m1 : ¬ (0 : Int) < ((bstr (l ++ List.replicate p false)).size : Int) % 8 := by omega
      have nxp := hide (unhide NX p)
      have hN : (N + 7) / 8 * 8 = N + p := by omega
      generalize (N + 7) / 8 = M at *
      generalize bstr (l ++ List.replicate p false) = T at *
      have tz : T.size = 8 * M := by omega
      have mz : M ≤ 7000 := by omega
      replace hN := hide hN
      clear hp hz0 hz1 ps hm pz PS PZ P0 NX
      go_wp2_with fail
      go_loopg [12, 13] M (fun q x y wr => ∃ j : Nat, j + q = M ∧ x = .string (strOf (PL j)) ∧ y = .int .i64 ((8 * j : Nat) : Int) ∧ Below w.heap.size w wr)
      case atStart => exact ⟨0, by omega, by rw [← unhide O0], rfl, unhide b3⟩
      case round =>
        obtain ⟨j, hj, rfl, rfl, hb⟩ := hrel
        have HJ := hide hj
        have oz := unhide OZ j
        have os := unhide OS j
        by_cases hlt : j < M
        · have l1 : ((8 * j : Nat) : Int) < (T.size : Int) := by omega
          have v8 := unhide BL (8 * j) 8
          replace hb := hide hb
          generalize strOf (PL j) = O1 at *
          replace os := hide os
          clear hj
          go_wp2_with fail
          go_loopg [14, 15] 8 (fun q x y wr' => ∃ c : Nat, c + q = 8 ∧ x = .int .i64 (V (8 * j) c : Nat) ∧ y = .int .i64 (c : Nat) ∧ wr' = wr)
          case atStart => exact ⟨0, rfl, by rw [unhide B0]; rfl, rfl, rfl⟩
          case round =>
            obtain ⟨c, hc, rfl, rfl, rfl⟩ := hrel
            have HC := hide hc
            by_cases hc8 : c < 8
            · have vc := unhide BL (8 * j) c
              have vs := unhide BS (8 * j) c
              have c9 : 2 ^ c ≤ 2 ^ 7 := Nat.pow_le_pow_right (by omega) (by omega)
              have vc2 : V (8 * j) c < 128 := by omega
              have kk : 8 * j + c < T.size := by omega
              have n1 := unhide nxp (8 * j + c) (by have := unhide hN; omega)
              have n2 := nx_in T (8 * j + c) kk
              have bb : (l.getD (8 * j + c) false).toNat ≤ 1 := Bool.toNat_le _
              generalize (l.getD (8 * j + c) false).toNat = bt at *
              generalize V (8 * j) c = vv at *
              have n3 : (T[8 * j + c].toNat : Int) = 48 + (bt : Int) := by omega
              have k2 : ((8 * j : Nat) : Int) + (c : Int) = ((8 * j + c : Nat) : Int) := by omega
              have k3 : ((8 * j + c : Nat) : Int) < (T.size : Int) := by omega
              have c8 : (c : Int) < 8 := by omega
              replace vs := hide vs
              clear hc vc c9 n1 n2 v8
              go_wp2_with fail
              go_roundg (gk - 1)
              case measure => have := unhide HC; omega
              case rel => have := unhide HC; exact ⟨c + 1, by omega, by rw [unhide vs]; go_num, by go_num, rfl⟩
            · have e : c = 8 := by omega
              subst e
              have vb : V (8 * j) 8 < 256 := by omega
              have hcv := fun W hW => str_one wr.heap.size (V (8 * j) 8 : Nat) W hW
              have CAT := cat_ok O1 ⟨#[UInt8.ofNat ((V (8 * j) 8 : Nat) : Int).toNat]⟩ (by show O1.size + 1 ≤ _; omega)
              rw [show ((V (8 * j) 8 : Nat) : Int).toNat = V (8 * j) 8 from rfl, unhide os] at CAT
              rw [show ((V (8 * j) 8 : Nat) : Int).toNat = V (8 * j) 8 from rfl] at hcv
              generalize (⟨#[UInt8.ofNat (V (8 * j) 8)]⟩ : ByteArray) = C1 at hcv CAT
              generalize V (8 * j) 8 = vv at *
              clear hc hc8 v8
              go_wp2_with fail
              go_roundg (M - j - 1)
              case measure => have := unhide HJ; omega
              case rel => have := unhide HJ; exact ⟨j + 1, by omega, rfl, by go_num, (unhide hb).alloc (unhide hb).size _⟩
        · have l1 : ¬ ((8 * j : Nat) : Int) < (T.size : Int) := by omega
          have e : j = M := by omega
          subst e
          replace hb := hide hb
          clear hj os
          go_wp2_with fail
          go_ret2
          rw [unhide HP]
          exact ⟨rfl, unhide hb⟩

end Go.Proofs.YtoebmfhgaalcdaaGreatDoor

namespace Go.Proofs.YtoebmfhgaalcdaaGreatDoor
open Go.RowKit

/-- What was read, part by part. -/
theorem readR_parts {s : ByteArray} {id : Tr Bool} {ev : Tr Nat} (h : readR s = .ok id ev) : s.size ≤ 20000 ∧ ∃ i1 r1 n i2 r2, idR s 8 0 s.size = .ok id i1 r1 ∧ nx s i1 = 59 ∧ evR s 8 0 (i1 + 1) r1 = .ok (ev, n) i2 r2 ∧ s.size ≤ i2 ∧ highest ev ≤ 1099511627776 ∧ s.size ≤ r2 := by
  have NO : ∀ a b, Rd1.bad a b = Rd1.ok id ev → False := fun a b h => by injection h with h; injection h
  unfold readR at h
  by_cases hs : 20000 < s.size
  · rw [if_pos hs] at h; exact (NO _ _ h).elim
  rw [if_neg hs] at h
  refine ⟨by omega, ?_⟩
  cases f : idR s 8 0 s.size using Rs.cs with
  | bad j => simp only [f] at h; exact (NO _ _ h).elim
  | ok id' i1 r1 =>
    simp only [f] at h
    by_cases g : nx s i1 = 59
    · rw [if_pos g] at h
      cases f2 : evR s 8 0 (i1 + 1) r1 using Rs.cs with
      | bad j => simp only [f2] at h; exact (NO _ _ h).elim
      | ok o i2 r2 =>
        obtain ⟨ev', n⟩ := o
        simp only [f2] at h
        by_cases l : i2 < s.size
        · rw [if_pos l] at h; exact (NO _ _ h).elim
        rw [if_neg l] at h
        by_cases m : 1099511627776 < highest ev'
        · rw [if_pos m] at h; exact (NO _ _ h).elim
        rw [if_neg m] at h
        by_cases q : r2 < s.size
        · rw [if_pos q] at h; exact (NO _ _ h).elim
        rw [if_neg q] at h
        injection h with h
        injection h with h
        injection h with h1 h2
        subst h1 h2
        exact ⟨i1, r1, n, i2, r2, rfl, g, f2, by omega, by omega, by omega⟩
    · rw [if_neg g] at h; exact (NO _ _ h).elim

theorem rEncode_ok {s : ByteArray} {id : Tr Bool} {ev : Tr Nat} (hm : s.size ≤ maxLen) (f : readR s = .ok id ev) (w : World) :
    Calls Tryz.prog 42 #[.string s] w fun o w' => o = .returned (.tuple #[.string (packOf (wbits id ev)), .int .i64 0]) ∧ Below w.heap.size w w' := by
  obtain ⟨hs, i1, r1, n, i2, r2, f1, g, f2, hi2, hh, hr⟩ := readR_parts f
  have P := (readR_inv f).1
  have l1 := lt_of_nx s i1 (by omega)
  refine rEncode_walk s (bstr (wid id)) (bstr (wev ev 0)) (wbits id ev) i1 i2 w (by have := P.bits.1; omega) (bstr_append _ _) (by omega)
    ((rread_ok hm f w).mono ?_) (idBits_any s hs 8 0 _ id i1 r1 (by omega) f1) (evBits_any s hs 8 0 (i1 + 1) r1 ev n i2 r2 (by omega) (by omega) f2 (by rw [nx_past s i2 hi2]; rfl) hr hh)
  rintro e w' ⟨b, rfl, _, _, b1⟩
  exact ⟨b, rfl, b1⟩

set_option maxHeartbeats 800000 in
theorem rEncode_bad {s : ByteArray} {e p : Nat} (hm : s.size ≤ maxLen) (f : readR s = .bad e p) (w : World) :
    Calls Tryz.prog 42 #[.string s] w fun o w' => o = .returned (.tuple #[.string { data := #[] }, .int .i64 (e : Nat)]) ∧ Below w.heap.size w w' := by
  have R := hide (rread_bad hm f w)
  have he := readR_errno f
  have he1 : ¬ (e : Int) = 0 := by omega
  clear f
  go_enter Tryz.func42, Tryz.ntmps42
  go_wp2_with fail
  refine (unhide R).mono ?_
  rintro o w1 ⟨rfl, b1⟩
  replace b1 := hide b1
  go_wp2_with fail
  go_ret2
  exact ⟨rfl, unhide b1⟩

theorem encode_both (s : ByteArray) (hm : s.size ≤ maxLen) : ∃ (A : ByteArray) (cd : Int),
    (∀ w, Calls Tryz.prog 17 #[.string s] w fun o w' => o = .returned (.tuple #[.string A, .int .i64 cd]) ∧ Below w.heap.size w w') ∧
    (∀ w, Calls Tryz.prog 42 #[.string s] w fun o w' => o = .returned (.tuple #[.string A, .int .i64 cd]) ∧ Below w.heap.size w w') := by
  cases f : readR s using Rd1.cs with
  | bad e p => exact ⟨_, _, fun w => encode_bad hm f w, fun w => rEncode_bad hm f w⟩
  | ok id ev =>
    have P := (readR_inv f).1
    refine ⟨packOf (wbits id ev), 0, fun w => (encode_ok hm f P w).mono ?_, fun w => rEncode_ok hm f w⟩
    rintro o w' ⟨c, rfl, pk, b⟩
    rw [pk.ext (packOf_ok _)]
    exact ⟨rfl, b⟩

end Go.Proofs.YtoebmfhgaalcdaaGreatDoor
