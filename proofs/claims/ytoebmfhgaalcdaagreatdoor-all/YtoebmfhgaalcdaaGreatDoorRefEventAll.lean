/-
  Our own. sprigsref.Event: what the program makes of an event is what may come of it.
-/
import Derived.Test.YtoebmfhgaalcdaaGreatDoorRefPeek
import Derived.Test.YtoebmfhgaalcdaaGreatDoorRefBrk
import Derived.Test.YtoebmfhgaalcdaaGreatDoorCalls3
import Derived.Test.YtoebmfhgaalcdaaGreatDoorRefBad
namespace Go.Proofs.YtoebmfhgaalcdaaGreatDoor
open Go.RowKit

def allTo (f : Nat → Bool) : Nat → Bool
  | 0 => true
  | j + 1 => allTo f j && f j
theorem allTo_iff (f : Nat → Bool) : ∀ n, allTo f n = true ↔ ∀ k, k < n → f k = true
  | 0 => ⟨fun _ k h => by omega, fun _ => rfl⟩
  | n + 1 => by
    show (allTo f n && f n) = true ↔ _
    rw [Bool.and_eq_true, allTo_iff f n]
    constructor
    · rintro ⟨h1, h2⟩ k hk
      by_cases e : k = n
      · subst e; exact h2
      · exact h1 k (by omega)
    · intro h; exact ⟨fun k hk => h k (by omega), h n (by omega)⟩
theorem allTo_succ (f : Nat → Bool) (j : Nat) : allTo f (j + 1) = (allTo f j && f j) := rfl
def anyTo (f : Nat → Bool) : Nat → Bool
  | 0 => false
  | j + 1 => anyTo f j || f j
theorem anyTo_of (f : Nat → Bool) : ∀ n k, k < n → f k = true → anyTo f n = true
  | 0, k, h, _ => by omega
  | n + 1, k, h, e => by
    show (anyTo f n || f n) = true
    by_cases g : k = n
    · subst g; rw [e, Bool.or_true]
    · rw [anyTo_of f n k (by omega) e, Bool.true_or]
theorem anyTo_succ (f : Nat → Bool) (j : Nat) : anyTo f (j + 1) = (anyTo f j || f j) := rfl

/-- All that is held counts asj high asj can be. -/
def fullC (H : Nat → Bool) (C : Nat → Nat) : Nat → Bool := fun k => !H k || decide (C k = 1099511627776)

set_option maxRecDepth 100000 in
set_option maxHeartbeats 8000000 in
theorem rEvent_walk (s t : ByteArray) (_hs : s.size ≤ 20000) (_ht : t.size ≤ 20000) (H : Nat → Bool) (C D : Nat → Nat) (z top : Nat) (I : ByteArray) (n0 dp old x1 now x2 : Int) (w : World)
    (R1 : Calls Tryz.prog 38 #[.string s] w fun e w' => ∃ b, e = .returned (.tuple #[.pointer (some ⟨b, 0, none⟩), .int .i64 0, .int .i64 0]) ∧ w.heap.size ≤ b ∧ St b H C w' ∧ Below w.heap.size w w')
    (R2 : ∀ w, Calls Tryz.prog 38 #[.string t] w fun e w' => ∃ b, e = .returned (.tuple #[.pointer (some ⟨b, 0, none⟩), .int .i64 0, .int .i64 0]) ∧ w.heap.size ≤ b ∧ St b H D w' ∧ Below w.heap.size w w')
    (S : ∀ b w1, St b H C w1 → Calls Tryz.prog 87 #[.pointer (some ⟨b, 0, none⟩)] w1 fun e w' => e = .returned (.int .i64 (z : Nat)) ∧ w' = w1) (hz : z ≠ 0)
    (MO : ∀ b w1, St b H C w1 → Calls Tryz.prog 79 #[.pointer (some ⟨b, 0, none⟩), .int .i64 0, .int .i64 256] w1 fun e w' => e = .returned (.int .i64 (top : Nat)) ∧ w' = w1) (htop : top ≤ 1099511627776)
    (NF : allTo (fullC H C) 256 = false) (FC : ∀ k, k < 256 → C k ≤ D k ∧ (H k = false → D k = C k) ∧ D k ≤ top + 1) (GR : anyTo (fun k => decide (C k < D k)) 256 = true)
    (IT : ∀ b w1, St b H C w1 → Calls Tryz.prog 88 #[.pointer (some ⟨b, 0, none⟩), .int .i64 0, .int .i64 256] w1 fun e w' => e = .returned (.string I) ∧ w' = w1)
    (si : I.size ≤ s.size) (ti : I.size ≤ t.size)
    (BI : ∀ w, Calls Tryz.prog 89 #[.string I] w fun e w' => e = .returned (.tuple #[.int .i64 n0, .int .i64 dp]) ∧ w' = w)
    (BS : ∀ w, Calls Tryz.prog 89 #[.string (s.extract I.size s.size)] w fun e w' => e = .returned (.tuple #[.int .i64 old, .int .i64 x1]) ∧ w' = w)
    (BT : ∀ w, Calls Tryz.prog 89 #[.string (t.extract I.size t.size)] w fun e w' => e = .returned (.tuple #[.int .i64 now, .int .i64 x2]) ∧ w' = w)
    (ho : 0 ≤ old ∧ old ≤ 20000) (hd : 0 ≤ dp ∧ dp ≤ 20000) (hle : now ≤ old + dp) :
    Calls Tryz.prog 40 #[.string s, .string t] w fun o w' => o = .returned (.tuple #[.int .i64 0, .bool true]) ∧ Below w.heap.size w w' := by
  replace R1 := hide R1
  replace R2 := hide R2
  replace S := hide S
  replace MO := hide MO
  replace NF := hide NF
  replace FC := hide FC
  replace GR := hide GR
  replace IT := hide IT
  replace BI := hide BI
  replace BS := hide BS
  replace BT := hide BT
  have z0 : ((z : Int) == 0) = false := beq_eq_false_iff_ne.2 (by omega)
  have AS := hide (allTo_succ (fullC H C))
  have A0 : Hid (allTo (fullC H C) 0 = true) := hide rfl
  have YS := hide (anyTo_succ (fun k => decide (C k < D k)))
  have Y0 : Hid (anyTo (fun k => decide (C k < D k)) 0 = false) := hide rfl
  generalize allTo (fullC H C) = AF at *
  generalize anyTo (fun k => decide (C k < D k)) = YF at *
  go_enter Tryz.func40, Tryz.ntmps40
  go_wp2_with fail
  refine (unhide R1).mono ?_
  rintro o w1 ⟨b, rfl, hb, sc, b1⟩
  have S1 := hide (unhide S b w1 sc)
  replace sc := hide sc
  replace b1 := hide b1
  clear S R1
  go_wp2_with fail
  refine (unhide S1).mono ?_
  rintro o w2 ⟨rfl, hw2⟩
  subst hw2
  clear S1
  go_wp2_with fail
  go_loop [9, 10] (fun f x => ∃ j : Nat, j ≤ 256 ∧ x = .int .i64 (j : Nat) ∧ f = .bool (AF j)) (fun _ x => 256 - (intOf x).toNat)
  case atStart => exact ⟨0, by omega, rfl, by rw [unhide A0]⟩
  case round =>
    obtain ⟨j, hj, rfl, rfl⟩ := hrel
    by_cases hlt : j < 256
    · have c1 := (unhide sc).holds j hlt
      have c2 := (unhide sc).counts j hlt
      have j0 : (0 : Int) ≤ (j : Int) := by omega
      have j1 : (j : Int) < 256 := by omega
      have asj := unhide AS j
      unfold fullC at asj
      generalize AF j = fj at *
      generalize hfs : AF (j + 1) = fs at *
      replace hfs := hide hfs
      generalize H j = hv at *
      generalize C j = cv at *
      cases fj
      · obtain rfl : fs = false := asj
        go_wp2_with fail
        go_round
        case rel => exact ⟨j + 1, by omega, by go_num, by rw [unhide hfs]⟩
        case measure => simp [intOf]; omega
      · cases hv
        · obtain rfl : fs = true := asj
          go_wp2_with fail
          go_round
          case rel => exact ⟨j + 1, by omega, by go_num, by rw [unhide hfs]⟩
          case measure => simp [intOf]; omega
        · by_cases e : cv = 1099511627776
          · have d : ((cv : Int) == 1099511627776) = true := beq_iff_eq.2 (by omega)
            have d2 : decide (cv = 1099511627776) = true := decide_eq_true e
            rw [d2] at asj
            obtain rfl : fs = true := asj
            replace e := hide e
            clear d2
            go_wp2_with fail
            go_round
            case rel => exact ⟨j + 1, by omega, by go_num, by rw [unhide hfs]⟩
            case measure => simp [intOf]; omega
          · have d : ((cv : Int) == 1099511627776) = false := beq_eq_false_iff_ne.2 (by omega)
            have d2 : decide (cv = 1099511627776) = false := decide_eq_false e
            rw [d2] at asj
            obtain rfl : fs = false := asj
            replace e := hide e
            clear d2
            go_wp2_with fail
            go_round
            case rel => exact ⟨j + 1, by omega, by go_num, by rw [unhide hfs]⟩
            case measure => simp [intOf]; omega
    · have hj6 : j = 256 := by omega
      subst hj6
      rw [unhide NF]
      clear AS A0 NF
      go_wp2_with fail
      refine (unhide R2 _).mono ?_
      rintro o w3 ⟨b2, rfl, hb2, sd, b3⟩
      have lb := (unhide sc).lt
      have sc3 := hide ((unhide sc).below b3)
      have M1 := hide (unhide MO b w3 (unhide sc3))
      have I1 := hide (fun n => unhide IT b (w3.drewN n) ((unhide sc3).keep rfl))
      replace sd := hide sd
      replace b3 := hide (below_trans (unhide b1) b3)
      clear R2 MO IT sc b1
      go_wp2_with fail
      refine (unhide M1).mono ?_
      rintro o w4 ⟨rfl, hw4⟩
      subst hw4
      clear M1
      go_wp2_with fail
      go_loopg [14, 16] 256 (fun q g x wr => ∃ j n : Nat, j + q = 256 ∧ x = .int .i64 (j : Nat) ∧ g = .bool (YF j) ∧ wr = w4.drewN n)
      case atStart => exact ⟨0, 0, rfl, rfl, by rw [unhide Y0], rfl⟩
      case round =>
        obtain ⟨j, n, hj, rfl, rfl, rfl⟩ := hrel
        have HJ := hide hj
        have hj256 : j ≤ 256 := by omega
        clear hj
        by_cases hlt : j < 256
        · have c1 := (unhide sc3).holds j hlt
          have c2 := (unhide sc3).counts j hlt
          have c3 := (unhide sd).holds j hlt
          have c4 := (unhide sd).counts j hlt
          have j0 : (0 : Int) ≤ (j : Int) := by omega
          have j1 : (j : Int) < 256 := by omega
          have ys := unhide YS j
          obtain ⟨f1, f2, f3⟩ := unhide FC j hlt
          generalize YF j = gj at *
          generalize hgs : YF (j + 1) = gs at *
          replace hgs := hide hgs
          generalize H j = hv at *
          generalize C j = cv at *
          generalize D j = dv at *
          have t1 : ¬ (dv : Int) < (cv : Int) := by omega
          have t2 : ¬ (top : Int) + 1 < (dv : Int) := by omega
          have ew : IntKind.i64.wrap ((top : Int) + 1) = (top : Int) + 1 := by rw [IntKind.wrap_i64]; omega
          by_cases hgt : cv < dv
          · have t3 : (cv : Int) < (dv : Int) := by omega
            have d1 : decide (cv < dv) = true := decide_eq_true hgt
            obtain rfl : hv = true := by
              cases hv
              · have := f2 rfl; omega
              · rfl
            rw [d1, Bool.or_true] at ys
            subst ys
            clear d1 f2
            go_wp2_with fail
            go_quiet (fail)
            cases gj
            all_goals
              go_wp2_with fail
              go_roundg (gk - 1)
              case measure => have := unhide HJ; omega
              case rel => exact ⟨j + 1, n + nq, by have := unhide HJ; omega, by go_num, by rw [unhide hgs], by simp [World.drewN]⟩
          · have d1 : decide (cv < dv) = false := decide_eq_false hgt
            rw [d1, Bool.or_false] at ys
            subst ys
            obtain rfl : dv = cv := by omega
            have t3 : ¬ (dv : Int) < (dv : Int) := by omega
            clear d1 f2 t1 f1 hgt
            cases hv
            all_goals
              go_wp2_with fail
              go_quiet (fail)
              cases gs
              all_goals
                go_wp2_with fail
                go_roundg (gk - 1)
                case measure => have := unhide HJ; omega
                case rel => exact ⟨j + 1, n + nq, by have := unhide HJ; omega, by go_num, by rw [unhide hgs], by simp [World.drewN]⟩
        · have hj6 : j = 256 := by omega
          subst hj6
          rw [unhide GR]
          have I2 := hide (unhide I1 n)
          clear I1 sc3 sd YS Y0 FC GR
          have q1 : (0 : Int) ≤ (I.size : Int) := by omega
          have q2 : (I.size : Int) ≤ (s.size : Int) := by omega
          have q3 : (I.size : Int) ≤ (t.size : Int) := by omega
          have b4 := hide (below_trans (unhide b3) (below_drewN w4 n))
          go_wp2_with fail
          refine (unhide I2).mono ?_
          rintro o w5 ⟨rfl, hw5⟩
          subst hw5
          go_wp2_with fail
          refine (unhide BI _).mono ?_
          rintro o w5 ⟨rfl, hw5⟩
          rw [hw5]
          clear hw5 w5
          go_wp2_with fail
          refine (unhide BS _).mono ?_
          rintro o w5 ⟨rfl, hw5⟩
          rw [hw5]
          clear hw5 w5
          go_wp2_with fail
          refine (unhide BT _).mono ?_
          rintro o w5 ⟨rfl, hw5⟩
          rw [hw5]
          clear hw5 w5
          go_wp2_with fail
          go_ret2
          exact ⟨rfl, unhide b4⟩

end Go.Proofs.YtoebmfhgaalcdaaGreatDoor

namespace Go.Proofs.YtoebmfhgaalcdaaGreatDoor
open Go.RowKit

set_option maxRecDepth 100000 in
set_option maxHeartbeats 4000000 in
theorem rEvent_full_walk (s : ByteArray) (H : Nat → Bool) (C : Nat → Nat) (z : Nat) (w : World)
    (R1 : Calls Tryz.prog 38 #[.string s] w fun e w' => ∃ b, e = .returned (.tuple #[.pointer (some ⟨b, 0, none⟩), .int .i64 0, .int .i64 0]) ∧ w.heap.size ≤ b ∧ St b H C w' ∧ Below w.heap.size w w')
    (S : ∀ b w1, St b H C w1 → Calls Tryz.prog 87 #[.pointer (some ⟨b, 0, none⟩)] w1 fun e w' => e = .returned (.int .i64 (z : Nat)) ∧ w' = w1) (hz : z ≠ 0)
    (NF : allTo (fullC H C) 256 = true) :
    Calls Tryz.prog 40 #[.string s, .string { data := #[] }] w fun o w' => o = .returned (.tuple #[.int .i64 7, .bool true]) ∧ Below w.heap.size w w' := by
  replace R1 := hide R1
  replace S := hide S
  replace NF := hide NF
  have z0 : ((z : Int) == 0) = false := beq_eq_false_iff_ne.2 (by omega)
  have AS := hide (allTo_succ (fullC H C))
  have A0 : Hid (allTo (fullC H C) 0 = true) := hide rfl
  generalize allTo (fullC H C) = AF at *
  go_enter Tryz.func40, Tryz.ntmps40
  go_wp2_with fail
  refine (unhide R1).mono ?_
  rintro o w1 ⟨b, rfl, hb, sc, b1⟩
  have S1 := hide (unhide S b w1 sc)
  replace sc := hide sc
  replace b1 := hide b1
  clear S R1
  go_wp2_with fail
  refine (unhide S1).mono ?_
  rintro o w2 ⟨rfl, hw2⟩
  subst hw2
  clear S1
  go_wp2_with fail
  go_loop [9, 10] (fun f x => ∃ j : Nat, j ≤ 256 ∧ x = .int .i64 (j : Nat) ∧ f = .bool (AF j)) (fun _ x => 256 - (intOf x).toNat)
  case atStart => exact ⟨0, by omega, rfl, by rw [unhide A0]⟩
  case round =>
    obtain ⟨j, hj, rfl, rfl⟩ := hrel
    by_cases hlt : j < 256
    · have c1 := (unhide sc).holds j hlt
      have c2 := (unhide sc).counts j hlt
      have j0 : (0 : Int) ≤ (j : Int) := by omega
      have j1 : (j : Int) < 256 := by omega
      have asj := unhide AS j
      unfold fullC at asj
      generalize AF j = fj at *
      generalize hfs : AF (j + 1) = fs at *
      replace hfs := hide hfs
      generalize H j = hv at *
      generalize C j = cv at *
      cases fj
      · obtain rfl : fs = false := asj
        go_wp2_with fail
        go_round
        case rel => exact ⟨j + 1, by omega, by go_num, by rw [unhide hfs]⟩
        case measure => simp [intOf]; omega
      · cases hv
        · obtain rfl : fs = true := asj
          go_wp2_with fail
          go_round
          case rel => exact ⟨j + 1, by omega, by go_num, by rw [unhide hfs]⟩
          case measure => simp [intOf]; omega
        · by_cases e : cv = 1099511627776
          · have d : ((cv : Int) == 1099511627776) = true := beq_iff_eq.2 (by omega)
            have d2 : decide (cv = 1099511627776) = true := decide_eq_true e
            rw [d2] at asj
            obtain rfl : fs = true := asj
            replace e := hide e
            clear d2
            go_wp2_with fail
            go_round
            case rel => exact ⟨j + 1, by omega, by go_num, by rw [unhide hfs]⟩
            case measure => simp [intOf]; omega
          · have d : ((cv : Int) == 1099511627776) = false := beq_eq_false_iff_ne.2 (by omega)
            have d2 : decide (cv = 1099511627776) = false := decide_eq_false e
            rw [d2] at asj
            obtain rfl : fs = false := asj
            replace e := hide e
            clear d2
            go_wp2_with fail
            go_round
            case rel => exact ⟨j + 1, by omega, by go_num, by rw [unhide hfs]⟩
            case measure => simp [intOf]; omega
    · have hj6 : j = 256 := by omega
      subst hj6
      rw [unhide NF]
      clear AS A0 NF
      go_wp2_with fail
      go_ret2
      exact ⟨rfl, unhide b1⟩

set_option maxRecDepth 100000 in
set_option maxHeartbeats 2000000 in
theorem rEvent_nothing {s : ByteArray} {id : Tr Bool} {ev : Tr Nat} (hm : s.size ≤ maxLen) (f : readR s = .ok id ev) (h0 : shareP id 256 = 0) (w : World) :
    Calls Tryz.prog 40 #[.string s, .string { data := #[] }] w fun o w' => o = .returned (.tuple #[.int .i64 4, .bool true]) ∧ Below w.heap.size w w' := by
  have R := hide (rread_ok hm f w)
  have SH := SC.share id (readR_inv f).1.di
  have S := fun b w1 (h : SC b id ev w1) => rShare_any b _ _ w1 h
  rw [SH, h0] at S
  clear SH f h0
  replace S := hide S
  go_enter Tryz.func40, Tryz.ntmps40
  go_wp2_with fail
  refine (unhide R).mono ?_
  rintro o w1 ⟨b, rfl, _, sc, b1⟩
  have S1 := hide (unhide S b w1 sc)
  replace sc := hide sc
  replace b1 := hide b1
  clear S
  go_wp2_with fail
  refine (unhide S1).mono ?_
  rintro o w2 ⟨rfl, rfl⟩
  go_wp2_with fail
  go_ret2
  exact ⟨rfl, unhide b1⟩

theorem full_iff {id : Tr Bool} {ev : Tr Nat} (P : PT id ev) : allTo (fullC (fun k => cellT id 8 k) (fun k => cellT ev 8 k)) 256 = true ↔ eventP id ev = none := by
  rw [allTo_iff, event_none id ev P.pe P.hi]
  constructor
  · intro h p hp
    obtain ⟨k, hk, hv⟩ := road_cell 8 p
    have this : (!cellT id 8 k || decide (cellT ev 8 k = 1099511627776)) = true := h k hk
    rw [hv id P.di] at hp
    rw [hv ev P.de]
    rw [hp] at this
    simpa using this
  · intro h k _
    show (!cellT id 8 k || decide (cellT ev 8 k = 1099511627776)) = true
    cases e : cellT id 8 k with
    | false => rfl
    | true =>
      have h9 : cellT ev 8 k = 1099511627776 := h _ e
      rw [h9]; simp

theorem share_st {id : Tr Bool} {ev : Tr Nat} (P : PT id ev) (b : Nat) (w1 : World) (h : St b (fun k => cellT id 8 k) (fun k => cellT ev 8 k) w1) :
    Calls Tryz.prog 87 #[.pointer (some ⟨b, 0, none⟩)] w1 fun e w' => e = .returned (.int .i64 (shareP id 256 : Nat)) ∧ w' = w1 := by
  have := rShare_any b _ _ w1 h
  rw [SC.share id P.di] at this
  exact this
theorem most_st {id : Tr Bool} {ev : Tr Nat} (P : PT id ev) (b : Nat) (w1 : World) (h : St b (fun k => cellT id 8 k) (fun k => cellT ev 8 k) w1) :
    Calls Tryz.prog 79 #[.pointer (some ⟨b, 0, none⟩), .int .i64 0, .int .i64 256] w1 fun e w' => e = .returned (.int .i64 (highest ev : Nat)) ∧ w' = w1 := by
  have M := most_any b 0 256 _ _ w1 h (by omega) (by omega)
  have e := high_cells (fun k => cellT ev 8 k) 8 0
  rw [ev_cells P.pe P.de, pow8] at e
  rw [e] at M
  exact M
theorem idText_st {id : Tr Bool} {ev : Tr Nat} (P : PT id ev) (b : Nat) (w1 : World) (h : St b (fun k => cellT id 8 k) (fun k => cellT ev 8 k) w1) :
    Calls Tryz.prog 88 #[.pointer (some ⟨b, 0, none⟩), .int .i64 0, .int .i64 256] w1 fun e w' => e = .returned (.string (strOf (idText id))) ∧ w' = w1 := by
  have T : Calls Tryz.prog 88 #[.pointer (some ⟨b, 0, none⟩), .int .i64 0, .int .i64 256] w1 fun e w' => e = .returned (.string (strOf (idText (ofCells (fun k => cellT id 8 k) 8 0)))) ∧ w' = w1 := ridText_any b _ _ 8 (by omega) 0 w1 h (by decide)
  rw [id_cells P.pi P.di] at T
  exact T

theorem strOf_cut (T : List UInt8) (a b : Nat) : (strOf T).extract a b = strOf ((T.drop a).take (b - a)) := by
  apply ByteArray.ext
  simp [strOf, List.extract_eq_take_drop]
theorem tx_tail (id : Tr Bool) (ev : Tr Nat) : (strOf (idText id)).size ≤ (tx id ev).size ∧ (tx id ev).extract (strOf (idText id)).size (tx id ev).size = strOf (59 :: evText (toEv ev 0)) := by
  have e : tx id ev = strOf (idText id ++ 59 :: evText (toEv ev 0)) := rfl
  refine ⟨?_, ?_⟩
  · rw [e, strOf_size, strOf_size, List.length_append]; omega
  · rw [e, strOf_cut, strOf_size, strOf_size, List.drop_left, List.take_of_length_le (by rw [List.length_append]; omega)]

theorem brackets_id (t : Tr Bool) (h : (idText t).length ≤ 20000) : ∃ n0 : Int, ((deepT t : Nat) : Int) ≤ 20000 ∧ ∀ w, Calls Tryz.prog 89 #[.string (strOf (idText t))] w fun e w' => e = .returned (.tuple #[.int .i64 n0, .int .i64 (deepT t : Nat)]) ∧ w' = w := by
  have B := fun w => brackets_any (strOf (idText t)) (by rw [strOf_size]; exact h) w
  have S := brk_small (idText t) 0 0 0 0 (by omega) (by omega) (by omega)
  have e : (strOf (idText t)).data.toList = idText t := by simp [strOf]
  have I := brk_id t 0 0 0 (by omega)
  have d : (if (0 : Int) < 0 + ((deepT t : Nat) : Int) then 0 + ((deepT t : Nat) : Int) else 0) = ((deepT t : Nat) : Int) := by split <;> omega
  rw [d] at I
  rw [e, I] at B
  rw [I] at S
  exact ⟨_, by simp only at S; omega, B⟩
theorem brackets_ev (t : Tr Nat) (h : (evText (toEv t 0)).length < 20000) : ∃ x : Int, ((pairsT t : Nat) : Int) ≤ 20000 ∧ ∀ w, Calls Tryz.prog 89 #[.string (strOf (59 :: evText (toEv t 0)))] w fun e w' => e = .returned (.tuple #[.int .i64 (pairsT t : Nat), .int .i64 x]) ∧ w' = w := by
  have B := fun w => brackets_any (strOf (59 :: evText (toEv t 0))) (by rw [strOf_size]; exact h) w
  have S := brk_small (59 :: evText (toEv t 0)) 0 0 0 0 (by omega) (by omega) (by omega)
  have e : (strOf (59 :: evText (toEv t 0))).data.toList = 59 :: evText (toEv t 0) := by simp [strOf]
  obtain ⟨m, _, I⟩ := brk_ev t 0 0 0 0 (by omega)
  have I2 : brk (0, 0, 0) (59 :: evText (toEv t 0)) = (0 + ((pairsT t : Nat) : Int), 0, m) := by
    rw [brk_cons, bstep_other 0 0 0 59 (by omega) (by decide) (by decide)]; exact I
  rw [e, I2] at B
  rw [I2] at S
  simp only [Int.zero_add] at B S
  simp only [List.length_cons] at S
  exact ⟨m, by omega, B⟩

theorem rEvent_ok {id : Tr Bool} {ev t : Tr Nat} (P : PT id ev) (h0 : shareP id 256 ≠ 0) (he : eventP id ev = some t) (w : World) :
    Calls Tryz.prog 40 #[.string (tx id ev), .string (tx id t)] w fun o w' => o = .returned (.tuple #[.int .i64 0, .bool true]) ∧ Below w.heap.size w w' := by
  have E := event_some id ev t P.pe P.di P.de P.hi he
  have Q : PT id t := ⟨P.pi, P.di, E.plain, E.deep, E.cap⟩
  have f1 : readR (tx id ev) = .ok id ev := P.read
  have f2 : readR (tx id t) = .ok id t := Q.read
  have l1 := idText_len id 8 P.di
  have l2 := evText_len ev 8 0 P.de P.hi
  have l3 := evText_len t 8 0 Q.de Q.hi
  obtain ⟨n0, d1, B1⟩ := brackets_id id (by omega)
  obtain ⟨x1, d2, B2⟩ := brackets_ev ev (by omega)
  obtain ⟨x2, d3, B3⟩ := brackets_ev t (by omega)
  obtain ⟨t1, t2⟩ := tx_tail id ev
  obtain ⟨t3, t4⟩ := tx_tail id t
  rw [← t2] at B2
  rw [← t4] at B3
  refine rEvent_walk (tx id ev) (tx id t) (by have := P.size20; omega) (by have := Q.size20; omega) (fun k => cellT id 8 k) (fun k => cellT ev 8 k) (fun k => cellT t 8 k) (shareP id 256) (highest ev) (strOf (idText id)) n0 _ _ x1 _ x2 w
    (rread_ok P.size f1 w) (fun w => rread_ok Q.size f2 w) (share_st P) h0 (most_st P) P.hi ?_ ?_ ?_ (idText_st P) t1 t3 B1 B2 B3 ⟨by omega, d2⟩ ⟨by omega, d1⟩ ?_
  · cases e : allTo (fullC (fun k => cellT id 8 k) (fun k => cellT ev 8 k)) 256 with
    | false => rfl
    | true => rw [(full_iff P).1 e] at he; cases he
  · intro k _
    refine ⟨E.more _, fun h => E.rest _ h, ?_⟩
    have := le_highest t (roadOf 8 k)
    have := E.high
    show t.val (roadOf 8 k) ≤ _
    omega
  · obtain ⟨p, hp, hlt⟩ := E.some
    obtain ⟨k, hk, hv⟩ := road_cell 8 p
    rw [hv ev P.de, hv t E.deep] at hlt
    exact anyTo_of _ 256 k hk (decide_eq_true hlt)
  · have := E.pairs
    omega

theorem event_both (s : ByteArray) (hm : s.size ≤ maxLen) : ∃ (A : ByteArray) (cd : Int), A.size ≤ 20000 ∧
    (∀ w, Tab w → Calls Tryz.prog 15 #[.string s] w fun o w' => o = .returned (.tuple #[.string A, .int .i64 cd]) ∧ Below w.heap.size w w') ∧
    (∀ w, Calls Tryz.prog 40 #[.string s, .string A] w fun o w' => o = .returned (.tuple #[.int .i64 cd, .bool true]) ∧ Below w.heap.size w w') := by
  cases f : readR s using Rd1.cs with
  | bad e p => exact ⟨_, _, Nat.zero_le _, fun w _ => event_bad hm f w, fun w => rEvent_bad hm f w⟩
  | ok id ev =>
    obtain ⟨P, hs⟩ := readR_inv f
    have hs : s = tx id ev := hs
    by_cases h0 : shareP id 256 = 0
    · exact ⟨_, _, Nat.zero_le _, fun w _ => event_nothing hm f h0 w, fun w => rEvent_nothing hm f h0 w⟩
    · cases he : eventP id ev with
      | none => exact ⟨_, _, Nat.zero_le _, fun w _ => event_full hm f P h0 he w, fun w => rEvent_full_walk s _ _ _ w (rread_ok hm f w) (share_st P) h0 ((full_iff P).2 he)⟩
      | some t =>
        have E := event_some id ev t P.pe P.di P.de P.hi he
        have Q : PT id t := ⟨P.pi, P.di, E.plain, E.deep, E.cap⟩
        refine ⟨tx id t, 0, by have := Q.size20; omega, fun w T => event_ok hm f P h0 he Q w T, fun w => ?_⟩
        rw [hs]
        exact rEvent_ok P h0 he w

end Go.Proofs.YtoebmfhgaalcdaaGreatDoor
