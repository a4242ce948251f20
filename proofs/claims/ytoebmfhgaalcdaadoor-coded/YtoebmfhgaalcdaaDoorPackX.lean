/-
  Our own. The writer of codes: numbers, IDs, EVs, and the whole of it; Encode.
-/
import Derived.Test.YtoebmfhgaalcdaaDoorPackW
import Derived.Test.YtoebmfhgaalcdaaDoorStamps
import Derived.Lib.ItoaNum
import Derived.Laws.Bits64b
import Derived.Laws.IdiomStrings
namespace Go.Proofs.YtoebmfhgaalcdaaDoor
open Go.RowKit

/-- The writer has written these bits. -/
def Wrt (B b : Nat) (w : World) (l : List Bool) : Prop := ∃ sv L, Wr B b w sv L l

theorem Wrt.drewN {B b : Nat} {w : World} {l : List Bool} (h : Wrt B b w l) (n : Nat) : Wrt B b (w.drewN n) l := by
  obtain ⟨sv, L, h⟩ := h
  exact ⟨sv, L, h.base, h.box, h.row, h.bits⟩
theorem wbit_any (B b : Nat) (w : World) (l : List Bool) (x : Bool) (h : Wrt B b w l) (hl : l.length ≤ 60000) (hB : B ≤ w.heap.size) :
    Calls Tryd.prog 91 #[.pointer (some ⟨b, 0, none⟩), .bool x] w fun e w' => e = .returned (.tuple #[]) ∧ Wrt B b w' (l ++ [x]) ∧ Below B w w' := by
  obtain ⟨sv, L, h⟩ := h
  by_cases h8 : l.length % 8 = 0
  · cases x
    · exact wbit_0f B b w sv L l h hl hB h8
    · exact wbit_0t B b w sv L l h hl hB h8
  · cases x
    · exact wbit_f B b w sv L l h hl hB h8
    · exact wbit_t B b w sv L l h hl hB h8

theorem bitLen_log (x : Nat) (h0 : x ≠ 0) (h : x < 18446744073709551616) : Lib.bitLen x = x.log2 + 1 := by
  obtain ⟨b1, b2, b3⟩ := Lib.bitLenAux_bounds 64 x h h0
  have b1 : 1 ≤ Lib.bitLen x := b1
  have b2 : 2 ^ (Lib.bitLen x - 1) ≤ x := b2
  have b3 : x < 2 ^ Lib.bitLen x := b3
  have : x.log2 = Lib.bitLen x - 1 := by
    rw [Nat.log2_eq_iff h0]
    exact ⟨b2, by rw [show Lib.bitLen x - 1 + 1 = Lib.bitLen x by omega]; exact b3⟩
  omega
theorem and1 (m j : Nat) (hm : m < 18446744073709551616) : (bits BinOp.and IntKind.u64 ((m : Int) / 2 ^ j) 1 == 1) = m.testBit j := by
  have e1 : (m : Int) / 2 ^ j = ((m / 2 ^ j : Nat) : Int) := by norm_cast
  have h1 : m / 2 ^ j < 18446744073709551616 := Nat.lt_of_le_of_lt (Nat.div_le_self _ _) hm
  have e2 := bits_and_u64_nat (m / 2 ^ j) 1 h1 (by omega)
  rw [Nat.and_one_is_mod] at e2
  rw [e1, show (1 : Int) = ((1 : Nat) : Int) from rfl, e2, Nat.testBit_eq_decide_div_mod_eq, Bool.eq_iff_iff]
  simp only [beq_iff_eq, decide_eq_true_eq]
  omega

set_option maxRecDepth 100000 in
set_option maxHeartbeats 1600000 in
theorem wgamma_any (B b : Nat) (w : World) (l : List Bool) (n : Nat) (hn : n ≤ 1099511627776) (h : Wrt B b w l) (hl : l.length ≤ 50000) (hB : B ≤ w.heap.size) :
    Calls Tryd.prog 92 #[.pointer (some ⟨b, 0, none⟩), .int .i64 (n : Nat)] w fun e w' => e = .returned (.tuple #[]) ∧ Wrt B b w' (l ++ gammaB n) ∧ Below B w w' := by
  obtain ⟨d1, d2, d3⟩ := log_bounds n hn
  have L : ∀ w1, Calls Tryd.prog 105 #[.int .u64 ((n : Int) + 1)] w1 fun e w' => e = .returned (.int .i64 (((n + 1).log2 : Int) + 1)) ∧ w' = w1 := by
    intro w1
    have := Tryd.bits_Len64 ((n : Int) + 1) w1 (by omega) (by omega)
    rw [show ((n : Int) + 1).toNat = n + 1 by omega, bitLen_log (n + 1) (by omega) (by omega)] at this
    exact this
  have G : gammaB n = List.replicate (n + 1).log2 false ++ digitsB (n + 1) ((n + 1).log2 + 1) := by
    rw [gammaB, digitsB]
    congr 2
    rw [Nat.testBit_eq_decide_div_mod_eq]
    generalize (n + 1).log2 = d at *
    rw [Nat.pow_succ] at d3
    have h1 : (n + 1) / 2 ^ d < 2 := by rw [Nat.div_lt_iff_lt_mul (by omega)]; omega
    have h2 : 1 ≤ (n + 1) / 2 ^ d := by rw [Nat.le_div_iff_mul_le (by omega)]; omega
    rw [show (n + 1) / 2 ^ d = 1 by omega]; rfl
  rw [G]
  have A1 : ∀ j, (bits BinOp.and IntKind.u64 (((n : Int) + 1) / 2 ^ j) 1 == 1) = (n + 1).testBit j := fun j => by
    have := and1 (n + 1) j (by omega)
    rw [show ((n + 1 : Nat) : Int) = (n : Int) + 1 from rfl] at this
    exact this
  clear G d2 d3
  generalize hd : (n + 1).log2 = d at *
  replace L := hide L
  replace A1 := hide A1
  clear hd
  go_enter Tryd.func92, Tryd.ntmps92
  go_wp2_with fail
  refine (unhide L _).mono ?_
  rintro e w1 ⟨rfl, hw1⟩
  rw [hw1]
  clear hw1 w1
  go_wp2_with fail
  go_loopg [14] d (fun m v wr => ∃ i : Nat, m = d - i ∧ i ≤ d ∧ v = .int .i64 i ∧ Wrt B b wr (l ++ List.replicate i false) ∧ Below B w wr)
  case atStart => exact ⟨0, by omega, by omega, rfl, by simpa using h, Below.refl _ _⟩
  case round =>
    obtain ⟨i, hm, hi, rfl, hw, hb⟩ := hrel
    have HM := hide hm
    replace hw := hide hw
    replace hb := hide hb
    clear hm h
    by_cases hid : i < d
    · have hid2 : (i : Int) < (d : Int) := by omega
      go_wp2_with fail
      refine (wbit_any B b _ _ false (unhide hw) (by simp; omega) (Nat.le_trans hB (unhide hb).size)).mono ?_
      rintro e w2 ⟨rfl, k2, b2⟩
      replace k2 := hide k2
      replace b2 := hide b2
      go_wp2_with fail
      go_roundg (d - (i + 1))
      case measure => rw [unhide HM]; omega
      case rel => exact ⟨i + 1, rfl, by omega, by simp, by have := unhide k2; rwa [List.append_assoc, ← List.replicate_succ'] at this, (unhide hb).trans (unhide b2)⟩
    · have hid2 : ¬ (i : Int) < (d : Int) := by omega
      obtain rfl : i = d := by omega
      go_wp2_with fail
      go_loopg [6] (i + 1) (fun m v wr => ∃ done : List Bool, m ≤ i + 1 ∧ v = .int .i64 ((m : Int) - 1) ∧ digitsB (n + 1) (i + 1) = done ++ digitsB (n + 1) m ∧ Wrt B b wr (l ++ List.replicate i false ++ done) ∧ Below B w wr)
      case atStart => exact ⟨[], Nat.le_refl _, by simp, rfl, by rw [List.append_nil]; exact unhide hw, unhide hb⟩
      case round =>
        obtain ⟨done, hm2, rfl, hd2, hw2, hb2⟩ := hrel
        have hlen : done.length + gk = i + 1 := by
          have := congrArg List.length hd2
          rw [digitsB_len, List.length_append, digitsB_len] at this
          omega
        replace hd2 := hide hd2
        replace hw2 := hide hw2
        replace hb2 := hide hb2
        by_cases h0 : gk = 0
        · subst h0
          have DONE : Wrt B b wr (l ++ (List.replicate i false ++ digitsB (n + 1) (i + 1))) := by
            rw [unhide hd2, digitsB, List.append_nil, ← List.append_assoc]; exact unhide hw2
          replace DONE := hide DONE
          go_wp2_with fail
          go_end0
          exact ⟨rfl, unhide DONE, unhide hb2⟩
        · obtain ⟨j, hj⟩ : ∃ j, gk = j + 1 := ⟨gk - 1, by omega⟩
          have ej : (gk : Int) - 1 = (j : Int) := by omega
          have ej0 : (0 : Int) ≤ (j : Int) := by omega
          have ej64 : j < 64 := by omega
          have ab := unhide A1 j
          have NEXT : digitsB (n + 1) (i + 1) = (done ++ [(n + 1).testBit j]) ++ digitsB (n + 1) j := by rw [unhide hd2, hj, digitsB, List.append_assoc]; rfl
          have WB := hide (fun W x (h : Wrt B b W (l ++ List.replicate i false ++ done)) (hB : B ≤ W.heap.size) => wbit_any B b W _ x h (by simp; omega) hB)
          replace NEXT := hide NEXT
          generalize (n + 1).testBit j = tb at *
          rw [ej]
          clear ej
          go_wp2_with fail
          refine (unhide WB wr tb (unhide hw2) (Nat.le_trans hB (unhide hb2).size)).mono ?_
          rintro e w3 ⟨rfl, k3, b3⟩
          replace k3 := hide k3
          replace b3 := hide b3
          go_wp2_with fail
          go_roundg j
          case measure => omega
          case rel => exact ⟨done ++ [tb], by omega, rfl, unhide NEXT, by have := unhide k3; rwa [List.append_assoc] at this, (unhide hb2).trans (unhide b3)⟩

set_option maxHeartbeats 1600000 in
theorem wid_any (w0 : World) (t : Tr Bool) : ∀ (v : Value), TB w0 v t → ∀ (b : Nat) (w : World) (l : List Bool), Wrt w0.heap.size b w l → Below w0.heap.size w0 w → l.length + (wid t).length ≤ 50000 →
    Calls Tryd.prog 64 #[.pointer (some ⟨b, 0, none⟩), v] w fun e w' => e = .returned (.tuple #[]) ∧ Wrt w0.heap.size b w' (l ++ wid t) ∧ Below w0.heap.size w0 w' := by
  induction t using Tr.ind with
  | leaf a =>
    intro v hv b w l hw hb hl
    have tv := TB.below hb hv
    obtain ⟨k, rfl, hk⟩ := tv
    have hl : l.length + 2 ≤ 50000 := hl
    have hk0 : w0.heap[k]? = some (.cells #[.bool a, .pointer none, .pointer none] 99) := by
      obtain ⟨k', e, hk'⟩ := hv
      injection e with e; injection e with e; injection e with e
      rw [e]; exact hk'
    obtain ⟨c0, c1, c2⟩ := cells3 hk
    show Calls Tryd.prog 64 _ w fun e w' => e = .returned (.tuple #[]) ∧ Wrt w0.heap.size b w' (l ++ [false, a]) ∧ Below w0.heap.size w0 w'
    have W1 := hide (wbit_any w0.heap.size b w l false hw (by omega) hb.size)
    have W2 := hide (fun W (h : Wrt w0.heap.size b W (l ++ [false])) hB => wbit_any w0.heap.size b W _ a h (by simp; omega) hB)
    replace hb := hide hb
    replace hk0 := hide hk0
    clear hv hw hk
    go_enter Tryd.func64, Tryd.ntmps64
    go_wp2_with fail
    refine (isLeafB_yes k w c1).mono ?_
    rintro e w1 ⟨rfl, hw1⟩
    rw [hw1]
    clear hw1 w1
    go_wp2_with fail
    refine (unhide W1).mono ?_
    rintro e w2 ⟨rfl, k2, b2⟩
    have b02 := (unhide hb).trans b2
    obtain ⟨d0, d1, d2⟩ := cells3 ((b02.block k (lt_of_heap (unhide hk0))).trans (unhide hk0))
    replace k2 := hide k2
    replace b02 := hide b02
    clear b2 c0 c1 c2
    go_wp2_with fail
    refine (unhide W2 _ (unhide k2) (unhide b02).size).mono ?_
    rintro e w3 ⟨rfl, k3, b3⟩
    replace k3 := hide k3
    replace b3 := hide b3
    go_wp2_with fail
    refine bodyPost_ret (v := .tuple #[]) (by simp [results, Tryd.results64]) rfl ?_
    exact ⟨rfl, by have := unhide k3; rwa [List.append_assoc] at this, (unhide b02).trans (unhide b3)⟩
  | pair p q ihl ihr =>
    intro v hv b w l hw hb hl
    have el : (wid (.pair p q)).length = 1 + (wid p).length + (wid q).length := by show (true :: (wid p ++ wid q)).length = _; rw [List.length_cons, List.length_append]; omega
    rw [el] at hl
    obtain ⟨k, vl, vr, rfl, hk, tl, tr⟩ := hv
    obtain ⟨kl, rfl⟩ := TA.root tl
    obtain ⟨kr, rfl⟩ := TA.root tr
    obtain ⟨c0, c1, c2⟩ := cells3 ((hb.block k (lt_of_heap hk)).trans hk)
    show Calls Tryd.prog 64 _ w fun e w' => e = .returned (.tuple #[]) ∧ Wrt w0.heap.size b w' (l ++ (true :: (wid p ++ wid q))) ∧ Below w0.heap.size w0 w'
    have W1 := hide (wbit_any w0.heap.size b w l true hw (by omega) hb.size)
    have W2 := hide (fun W h hb => ihl _ tl b W (l ++ [true]) h hb (by simp; omega))
    have W3 := hide (fun W h hb => ihr _ tr b W ((l ++ [true]) ++ wid p) h hb (by simp; omega))
    replace hb := hide hb
    replace hk := hide hk
    clear hw tl tr ihl ihr
    go_enter Tryd.func64, Tryd.ntmps64
    go_wp2_with fail
    refine (isLeafB_no k kl w c1).mono ?_
    rintro e w1 ⟨rfl, hw1⟩
    rw [hw1]
    clear hw1 w1
    go_wp2_with fail
    refine (unhide W1).mono ?_
    rintro e w2 ⟨rfl, k2, b2⟩
    have b02 := (unhide hb).trans b2
    clear c0 c1 c2 b2
    obtain ⟨c0, c1, c2⟩ := cells3 ((b02.block k (lt_of_heap (unhide hk))).trans (unhide hk))
    replace k2 := hide k2
    replace b02 := hide b02
    go_wp2_with fail
    refine (unhide W2 _ (unhide k2) (unhide b02)).mono ?_
    rintro e w3 ⟨rfl, k3, b03⟩
    clear c0 c1 c2
    obtain ⟨c0, c1, c2⟩ := cells3 ((b03.block k (lt_of_heap (unhide hk))).trans (unhide hk))
    replace k3 := hide k3
    replace b03 := hide b03
    go_wp2_with fail
    refine (unhide W3 _ (unhide k3) (unhide b03)).mono ?_
    rintro e w4 ⟨rfl, k4, b04⟩
    replace k4 := hide k4
    replace b04 := hide b04
    go_wp2_with fail
    go_end0
    exact ⟨rfl, by have := unhide k4; rwa [List.append_assoc, List.append_assoc] at this, unhide b04⟩

set_option maxHeartbeats 1600000 in
theorem wev_any (w0 : World) (t : Tr Nat) : ∀ (v : Value), TI w0 v t → ∀ (b : Nat) (w : World) (l : List Bool) (base : Nat), Wrt w0.heap.size b w l → Below w0.heap.size w0 w → base ≤ lowest t → highest t ≤ 1099511627776 → l.length + (wev t base).length ≤ 50000 →
    Calls Tryd.prog 65 #[.pointer (some ⟨b, 0, none⟩), v, .int .i64 (base : Nat)] w fun e w' => e = .returned (.tuple #[]) ∧ Wrt w0.heap.size b w' (l ++ wev t base) ∧ Below w0.heap.size w0 w' := by
  induction t using Tr.ind with
  | leaf a =>
    intro v hv b w l base hw hb hlo hhi hl
    have hlo : base ≤ a := hlo
    have hhi : a ≤ 1099511627776 := hhi
    have el : (wev (.leaf a) base).length = 1 + (gammaB (a - base)).length := by show (false :: gammaB (a - base)).length = _; rw [List.length_cons]; omega
    rw [el] at hl
    have LW : Calls Tryd.prog 79 #[v] w fun e w' => e = .returned (.int .i64 (a : Nat)) ∧ ∃ n, w' = w.drewN n := low_any (.leaf a) w v (TI.below hb hv)
    obtain ⟨k, rfl, hk⟩ := hv
    show Calls Tryd.prog 65 _ w fun e w' => e = .returned (.tuple #[]) ∧ Wrt w0.heap.size b w' (l ++ (false :: gammaB (a - base))) ∧ Below w0.heap.size w0 w'
    have W1 := hide (fun W h hB => wbit_any w0.heap.size b W l false h (by omega) hB)
    have W2 := hide (fun W (h : Wrt w0.heap.size b W (l ++ [false])) hB => wgamma_any w0.heap.size b W _ (a - base) (by omega) h (by simp; omega) hB)
    have es : ((a - base : Nat) : Int) = (a : Int) - (base : Int) := by omega
    rw [es] at W2
    replace LW := hide LW
    replace hb := hide hb
    replace hk := hide hk
    replace hw := hide hw
    clear es
    go_enter Tryd.func65, Tryd.ntmps65
    go_wp2_with fail
    refine (unhide LW).mono ?_
    rintro e w1 ⟨rfl, n1, hw1⟩
    have b01 : Below w0.heap.size w0 w1 := by rw [hw1]; exact (unhide hb).trans ⟨rfl, rfl, rfl, Nat.le_refl _, fun _ _ => rfl⟩
    have k1 : Wrt w0.heap.size b w1 l := by rw [hw1]; exact (unhide hw).drewN n1
    obtain ⟨c0, c1, c2⟩ := cells3 ((b01.block k (lt_of_heap (unhide hk))).trans (unhide hk))
    replace k1 := hide k1
    replace b01 := hide b01
    clear hw1 LW hw hb
    go_wp2_with fail
    refine (isLeafI_yes k w1 c1).mono ?_
    rintro e w2 ⟨rfl, hw2⟩
    rw [hw2]
    clear hw2 w2
    go_wp2_with fail
    refine (unhide W1 _ (unhide k1) (unhide b01).size).mono ?_
    rintro e w3 ⟨rfl, k3, b3⟩
    have b03 := (unhide b01).trans b3
    clear c0 c1 c2 b3
    obtain ⟨c0, c1, c2⟩ := cells3 ((b03.block k (lt_of_heap (unhide hk))).trans (unhide hk))
    replace k3 := hide k3
    replace b03 := hide b03
    go_wp2_with fail
    refine (unhide W2 _ (unhide k3) (unhide b03).size).mono ?_
    rintro e w4 ⟨rfl, k4, b4⟩
    have b04 := (unhide b03).trans b4
    clear c0 c1 c2 b4
    obtain ⟨c0, c1, c2⟩ := cells3 ((b04.block k (lt_of_heap (unhide hk))).trans (unhide hk))
    replace k4 := hide k4
    replace b04 := hide b04
    go_wp2_with fail
    refine (isLeafI_yes k w4 c1).mono ?_
    rintro e w5 ⟨rfl, hw5⟩
    rw [hw5]
    clear hw5 w5
    go_wp2_with fail
    go_end0
    exact ⟨rfl, by have := unhide k4; rwa [List.append_assoc] at this, unhide b04⟩
  | pair p q ihl ihr =>
    intro v hv b w l base hw hb hlo hhi hl
    have LW := low_any (.pair p q) w v (TI.below hb hv)
    have hlo : base ≤ min (lowest p) (lowest q) := hlo
    have hhi : max (highest p) (highest q) ≤ 1099511627776 := hhi
    have hlow := low_high p
    have LW : Calls Tryd.prog 79 #[v] w fun e w' => e = .returned (.int .i64 ((min (lowest p) (lowest q) : Nat) : Int)) ∧ ∃ n, w' = w.drewN n := LW
    have el : (wev (.pair p q) base).length = 1 + (gammaB (min (lowest p) (lowest q) - base)).length + (wev p (min (lowest p) (lowest q))).length + (wev q (min (lowest p) (lowest q))).length := by
      show (true :: (gammaB (min (lowest p) (lowest q) - base) ++ (wev p (min (lowest p) (lowest q)) ++ wev q (min (lowest p) (lowest q))))).length = _
      rw [List.length_cons, List.length_append, List.length_append]; omega
    rw [el] at hl
    show Calls Tryd.prog 65 _ w fun e w' => e = .returned (.tuple #[]) ∧ Wrt w0.heap.size b w' (l ++ (true :: (gammaB (min (lowest p) (lowest q) - base) ++ (wev p (min (lowest p) (lowest q)) ++ wev q (min (lowest p) (lowest q)))))) ∧ Below w0.heap.size w0 w'
    obtain ⟨k, vl, vr, rfl, hk, tl, tr⟩ := hv
    obtain ⟨kl, rfl⟩ := TA.root tl
    obtain ⟨kr, rfl⟩ := TA.root tr
    have m1 := Nat.min_le_left (lowest p) (lowest q)
    have m2 := Nat.min_le_right (lowest p) (lowest q)
    generalize min (lowest p) (lowest q) = m at *
    have W1 := hide (fun W h hB => wbit_any w0.heap.size b W l true h (by omega) hB)
    have W2 := hide (fun W (h : Wrt w0.heap.size b W (l ++ [true])) hB => wgamma_any w0.heap.size b W _ (m - base) (by omega) h (by simp; omega) hB)
    have W3 := hide (fun W h hb => ihl _ tl b W ((l ++ [true]) ++ gammaB (m - base)) m h hb m1 (by omega) (by simp; omega))
    have W4 := hide (fun W h hb => ihr _ tr b W (((l ++ [true]) ++ gammaB (m - base)) ++ wev p m) m h hb m2 (by omega) (by simp; omega))
    have es : ((m - base : Nat) : Int) = (m : Int) - (base : Int) := by omega
    rw [es] at W2
    replace LW := hide LW
    replace hb := hide hb
    replace hk := hide hk
    replace hw := hide hw
    clear es tl tr ihl ihr
    go_enter Tryd.func65, Tryd.ntmps65
    go_wp2_with fail
    refine (unhide LW).mono ?_
    rintro e w1 ⟨rfl, n1, hw1⟩
    have b01 : Below w0.heap.size w0 w1 := by rw [hw1]; exact (unhide hb).trans ⟨rfl, rfl, rfl, Nat.le_refl _, fun _ _ => rfl⟩
    have k1 : Wrt w0.heap.size b w1 l := by rw [hw1]; exact (unhide hw).drewN n1
    obtain ⟨c0, c1, c2⟩ := cells3 ((b01.block k (lt_of_heap (unhide hk))).trans (unhide hk))
    replace k1 := hide k1
    replace b01 := hide b01
    clear hw1 LW hw hb
    go_wp2_with fail
    refine (isLeafI_no k kl w1 c1).mono ?_
    rintro e w2 ⟨rfl, hw2⟩
    rw [hw2]
    clear hw2 w2
    go_wp2_with fail
    refine (unhide W1 _ (unhide k1) (unhide b01).size).mono ?_
    rintro e w3 ⟨rfl, k3, b3⟩
    have b03 := (unhide b01).trans b3
    clear c0 c1 c2 b3
    obtain ⟨c0, c1, c2⟩ := cells3 ((b03.block k (lt_of_heap (unhide hk))).trans (unhide hk))
    replace k3 := hide k3
    replace b03 := hide b03
    go_wp2_with fail
    refine (unhide W2 _ (unhide k3) (unhide b03).size).mono ?_
    rintro e w4 ⟨rfl, k4, b4⟩
    have b04 := (unhide b03).trans b4
    clear c0 c1 c2 b4
    obtain ⟨c0, c1, c2⟩ := cells3 ((b04.block k (lt_of_heap (unhide hk))).trans (unhide hk))
    replace k4 := hide k4
    replace b04 := hide b04
    go_wp2_with fail
    refine (isLeafI_no k kl w4 c1).mono ?_
    rintro e w5 ⟨rfl, hw5⟩
    rw [hw5]
    clear hw5 w5
    go_wp2_with fail
    refine (unhide W3 _ (unhide k4) (unhide b04)).mono ?_
    rintro e w6 ⟨rfl, k6, b06⟩
    clear c0 c1 c2
    obtain ⟨c0, c1, c2⟩ := cells3 ((b06.block k (lt_of_heap (unhide hk))).trans (unhide hk))
    replace k6 := hide k6
    replace b06 := hide b06
    go_wp2_with fail
    refine (unhide W4 _ (unhide k6) (unhide b06)).mono ?_
    rintro e w7 ⟨rfl, k7, b07⟩
    replace k7 := hide k7
    replace b07 := hide b07
    go_wp2_with fail
    go_end0
    exact ⟨rfl, by have := unhide k7; simpa only [List.append_assoc, List.singleton_append, List.cons_append, List.nil_append] using this, unhide b07⟩

set_option maxRecDepth 100000 in
set_option maxHeartbeats 1600000 in
theorem pkWrite_any (id : Tr Bool) (ev : Tr Nat) (P : PT id ev) (w : World) (v u : Value) (h : TB w v id) (g : TI w u ev) :
    Calls Tryd.prog 38 #[.agg #[v, u]] w fun e w' => ∃ c, e = .returned (.string c) ∧ Packed c (wbits id ev) ∧ Below w.heap.size w w' := by
  obtain ⟨lb, lb4⟩ := P.bits
  have hsum : (wid id).length + (wev ev 0).length = (wbits id ev).length := by rw [wbits, List.length_append]
  obtain ⟨kv, rfl⟩ := TA.root h
  obtain ⟨ku, rfl⟩ := TA.root g
  have b1 := below_alloc w (.cells #[.pointer (some ⟨kv, 0, none⟩), .pointer (some ⟨ku, 0, none⟩)] 63)
  have h1 := TA.below h b1
  have g1 := TA.below g b1
  have x1 : (w.alloc (.cells #[.pointer (some ⟨kv, 0, none⟩), .pointer (some ⟨ku, 0, none⟩)] 63)).heap[w.heap.size]? = some (.cells #[.pointer (some ⟨kv, 0, none⟩), .pointer (some ⟨ku, 0, none⟩)] 63) := heap_new w _
  have s1 : (w.alloc (.cells #[.pointer (some ⟨kv, 0, none⟩), .pointer (some ⟨ku, 0, none⟩)] 63)).heap.size = w.heap.size + 1 := by simp
  have START : ∀ W0 : World, W0.heap.size = w.heap.size + 1 → Wrt W0.heap.size (w.heap.size + 1) (W0.alloc (.cells #[.slice none 0 0, .int .i64 0] 102)) [] := by
    intro W0 e0
    refine ⟨.slice none 0 0, [], by omega, ?_, World.ownsRow_nil _ _ _ _, ?_⟩
    · rw [← e0]; exact heap_new W0 _
    · refine ⟨by simp [strOf_size], fun k hk => ?_⟩
      rw [strOf_size] at hk
      simp at hk
  have W1 := hide (fun W0 (h1 : TB W0 (.pointer (some ⟨kv, 0, none⟩)) id) W hW hb => wid_any W0 id _ h1 (w.heap.size + 1) W [] hW hb (by rw [List.length_nil]; omega))
  have W2 := hide (fun W0 (g1 : TI W0 (.pointer (some ⟨ku, 0, none⟩)) ev) W hW hb => wev_any W0 ev _ g1 (w.heap.size + 1) W ([] ++ wid id) 0 hW hb (Nat.zero_le _) P.hi (by rw [List.nil_append]; omega))
  have hu1 := Tryd.underlying79
  have hu2 := Tryd.underlying5
  have hu3 := Tryd.underlying9
  replace hu1 := hide hu1
  replace hu2 := hide hu2
  replace hu3 := hide hu3
  replace START := hide START
  have x0 := cells2 x1
  clear h g
  generalize hW0 : w.alloc (.cells #[.pointer (some ⟨kv, 0, none⟩), .pointer (some ⟨ku, 0, none⟩)] 63) = W0 at *
  have W1' := hide (unhide W1 W0 h1)
  have W2' := hide (unhide W2 W0 g1)
  have ST := hide (unhide START W0 s1)
  replace x1 := hide x1
  replace b1 := hide b1
  replace s1 := hide s1
  replace hW0 := hide hW0
  clear W1 W2 h1 g1 START x0 P
  go_enter Tryd.func38, Tryd.ntmps38
  rw [← unhide hW0] at ST W1' W2' x1 b1 s1
  go_wp2_with fail
  rw [unhide hW0] at ST W1' W2' x1 b1 s1 ⊢
  refine (unhide W1' _ (unhide ST) (below_alloc _ _)).mono ?_
  rintro e w2 ⟨rfl, k2, b2⟩
  obtain ⟨c0, c1, cf⟩ := cells2 ((b2.block w.heap.size (by rw [unhide s1]; omega)).trans (unhide x1))
  replace k2 := hide k2
  replace b2 := hide b2
  go_wp2_with fail
  refine (unhide W2' _ (unhide k2) (unhide b2)).mono ?_
  rintro e w3 ⟨rfl, ⟨sv, L, k3⟩, b3⟩
  have hLl := k3.len
  have hL0 : 0 < L.length := by rw [hLl, List.nil_append, List.length_append]; omega
  obtain ⟨d0, d1, df⟩ := cells2 k3.box
  have BB := hide ((unhide b1).trans (b3.mono (by rw [unhide s1]; omega)))
  have PK : Hid (Packed (strOf L) (wbits id ev)) := hide (by have := k3.bits; rwa [List.nil_append] at this)
  rcases k3.row.2 with ⟨_, h0⟩ | ⟨g9, cap, cur, rfl, hb9, hc9, h19, h29, h39, h49⟩
  · omega
  have HC : Sem.run Tryd.prog (convert 79 9 (.slice (some ⟨g9, 0, none⟩) L.length cap)) w3 = .ok (.string (strOf L)) w3 := by
    refine run_convert_bytes_back w3 _ _ 5 ⟨g9, 0, none⟩ cap L (unhide hu1) (unhide hu2) (unhide hu3) fun j hj => ?_
    have hadd : (⟨g9, 0, none⟩ : Addr).add j = ⟨g9, j, none⟩ := by unfold Addr.add; split <;> simp_all
    rw [hadd]
    have hv : (bytesV L)[j]? = some (.int .u8 (L[j].toNat : Int)) := by
      unfold bytesV
      rw [List.getElem?_map, List.getElem?_eq_getElem hj]; rfl
    rw [← h49, List.getElem?_take_of_lt (by omega)] at hv
    simp only [World.cell?, hc9]
    simpa using hv
  clear k3 hLl hL0 hc9 h19 h29 h39 h49 hb9 c0 c1 cf
  generalize L.length = n at *
  generalize strOf L = S at *
  go_wp2_with fail
  go_ret
  exact ⟨S, rfl, unhide PK, unhide BB⟩

set_option maxHeartbeats 800000 in
/-- Encode of a stamp. -/
theorem encode_ok {s : ByteArray} {id : Tr Bool} {ev : Tr Nat} (hm : s.size ≤ maxLen) (f : readR s = .ok id ev) (P : PT id ev) (w : World) :
    Calls Tryd.prog 21 #[.string s] w fun e w' => ∃ c, e = .returned (.tuple #[.string c, .int .i64 0]) ∧ Packed c (wbits id ev) ∧ Below w.heap.size w w' := by
  have R := hide (sread_ok hm f w)
  have S := hide (fun w v u h g => pkWrite_any id ev P w v u h g)
  clear f P
  go_enter Tryd.func21, Tryd.ntmps21
  go_wp2_with fail
  refine (unhide R).mono ?_
  rintro e w1 ⟨k, j, rfl, h1, h2, b1⟩
  have S2 := hide (unhide S _ _ _ (TA.below h1 (below_alloc w1 (.cells #[.pointer (some ⟨k, 0, none⟩), .pointer (some ⟨j, 0, none⟩)] 63))) (TA.below h2 (below_alloc w1 (.cells #[.pointer (some ⟨k, 0, none⟩), .pointer (some ⟨j, 0, none⟩)] 63))))
  have B := hide (below_trans b1 (below_alloc w1 (.cells #[.pointer (some ⟨k, 0, none⟩), .pointer (some ⟨j, 0, none⟩)] 63)))
  clear h1 h2 b1 S
  go_wp2_with fail
  refine (unhide S2).mono ?_
  rintro e w2 ⟨c, rfl, pk, b2⟩
  replace pk := hide pk
  replace b2 := hide b2
  go_wp2_with fail
  go_ret2
  exact ⟨c, rfl, unhide pk, below_trans (unhide B) (unhide b2)⟩

end Go.Proofs.YtoebmfhgaalcdaaDoor
