/-
  Our own. sprigskeep.Firm: true, whatever the input. (Laid by wip/mk/firm.py.)
-/
import Derived.Test.YtoebmfhgaalcdaaGreatDoorFirmP
namespace Go.Proofs.YtoebmfhgaalcdaaGreatDoor
open Go.RowKit

set_option maxRecDepth 100000 in
set_option maxHeartbeats 4000000 in
theorem firm_any (v : Value) (l : List Int) (n : Int) (w : World) (_T : Tab w) (h : Sl w.heap.size w v l) (hn1 : -9223372036854775808 ≤ n) (hn2 : n ≤ 9223372036854775807) :
    Calls Tryz.prog 6 #[v, .int .i64 n] w fun e w' => e = .returned (.bool true) ∧ Below w.heap.size w w' := by
  obtain ⟨e1, PS⟩ := stamp_tx l
  have A := aStamp_any v l w h
  rw [e1] at A
  generalize stampId l = id at *
  generalize evTree 0 (stampEv l) = ev at *
  have pk := pickP_lt n 24 (by omega)
  have PK := hide (fun w1 => pick_any n 24 w1 hn1 hn2 (by omega) (by omega))
  generalize pickP n 24 = k at *
  obtain ⟨t, e, p, ⟨ts, tb⟩, HC⟩ := firm_cells k pk
  have tm : t.size ≤ maxLen := by unfold maxLen; omega
  have CK := hide (fun w1 => check_any t w1 tm)
  rw [chk_of_bad tb] at CK
  have FK := hide (fun w1 => fork_bad tm tb w1)
  have PE := hide (fun w1 => peek_bad tm tb w1)
  have J1 := hide (fun w1 => join_bad1 (t := { data := #[] }) tm tb w1)
  have J2 := hide (fun w1 => join_bad2 PS.size PS.read tm tb w1)
  have SH := hide (fun w1 => share_bad tm tb w1)
  have EV := hide (fun w1 => event_bad tm tb w1)
  have L1 := hide (fun w1 => leq_bad1 (t := { data := #[] }) tm tb w1)
  have L2 := hide (fun w1 => leq_bad2 PS.size PS.read tm tb w1)
  have EN := hide (fun w1 => encode_bad tm tb w1)
  have FD := few_T deep_PT (by rw [deep_share]; omega)
  rw [← deep_tx, deep_share] at FD
  replace FD := hide FD
  have FN := few_T none_PT (by rw [share_false]; omega)
  rw [← none_tx, share_false] at FN
  replace FN := hide FN
  have JC := clash_T whole_PT right_PT (by rfl)
  rw [← whole_tx, ← right_tx] at JC
  replace JC := hide JC
  have DZ := hide (fun w1 => decode_bad (s := zeros) (by rw [zeros_size]; unfold maxLen; omega) readC_zeros w1)
  have FI := hide (fun w1 => fine_yes (tx id ev) w1 PS.size (chk_of_ok PS.read))
  replace A := hide A
  replace HC := hide HC
  unfold tx at *
  generalize strOf (wtext id ev) = S at *
  have FD2 := FD
  have FN2 := FN
  have HM := make_zeros
  have HV := conv_zeros
  have k0 : (0 : Int) ≤ (k : Int) := by omega
  have k1 : (k : Int) < 24 := by omega
  clear ts tb tm PS
  go_enter Tryz.func6, Tryz.ntmps6
  go_wp2_with fail
  refine (unhide A).mono ?_
  rintro o w1 ⟨rfl, b1⟩
  obtain ⟨cT, cP, cE, bb⟩ := unhide HC w1
  have b2 := hide (below_trans b1 bb)
  clear b1 bb HC
  go_wp2_with fail
  generalize ((((w1.alloc zerosObj).alloc (.cells #[Value.string { data := #[] }, Value.string { data := #[120] }, Value.string { data := #[49] }, Value.string { data := #[49, 59] }, Value.string { data := #[49, 59, 120] }, Value.string { data := #[59, 48] }, Value.string { data := #[50, 59, 48] }, Value.string { data := #[40, 49, 44, 48, 59, 48] }, Value.string { data := #[40, 49, 44, 48, 41, 41, 59, 48] }, Value.string { data := #[49, 59, 40, 48, 44, 49] }, Value.string { data := #[49, 59, 40, 48, 44, 49, 44, 48] }, Value.string { data := #[49, 59, 32, 48] }, Value.string { data := #[49, 59, 45, 49] }, Value.string { data := #[49, 59, 48, 48] }, Value.string { data := #[49, 59, 49, 48, 57, 57, 53, 49, 49, 54, 50, 55, 55, 55, 55] }, Value.string { data := #[40, 49, 44, 49, 41, 59, 48] }, Value.string { data := #[40, 48, 44, 48, 41, 59, 48] }, Value.string { data := #[40, 40, 49, 44, 49, 41, 44, 48, 41, 59, 48] }, Value.string { data := #[49, 59, 40, 48, 44, 48, 44, 48, 41] }, Value.string { data := #[49, 59, 40, 48, 44, 49, 44, 49, 41] }, Value.string { data := #[49, 59, 40, 49, 44, 50, 44, 51, 41] }, Value.string { data := #[49, 59, 40, 49, 48, 57, 57, 53, 49, 49, 54, 50, 55, 55, 55, 54, 44, 48, 44, 49, 41] }, Value.string { data := #[40, 40, 40, 40, 40, 40, 40, 40, 40, 49, 44, 48, 41, 44, 48, 41, 44, 48, 41, 44, 48, 41, 44, 48, 41, 44, 48, 41, 44, 48, 41, 44, 48, 41, 44, 48, 41, 59, 48] }, Value.string zeros] 9)).alloc (.cells #[Value.int .i64 0, Value.int .i64 0, Value.int .i64 1, Value.int .i64 2, Value.int .i64 2, Value.int .i64 0, Value.int .i64 0, Value.int .i64 4, Value.int .i64 5, Value.int .i64 6, Value.int .i64 8, Value.int .i64 2, Value.int .i64 2, Value.int .i64 3, Value.int .i64 14, Value.int .i64 0, Value.int .i64 0, Value.int .i64 1, Value.int .i64 2, Value.int .i64 2, Value.int .i64 2, Value.int .i64 21, Value.int .i64 8, Value.int .i64 0] 3)).alloc (.cells #[Value.int .i64 2, Value.int .i64 2, Value.int .i64 2, Value.int .i64 2, Value.int .i64 2, Value.int .i64 2, Value.int .i64 2, Value.int .i64 2, Value.int .i64 2, Value.int .i64 2, Value.int .i64 2, Value.int .i64 2, Value.int .i64 2, Value.int .i64 2, Value.int .i64 2, Value.int .i64 3, Value.int .i64 3, Value.int .i64 3, Value.int .i64 3, Value.int .i64 3, Value.int .i64 3, Value.int .i64 7, Value.int .i64 2, Value.int .i64 1] 29)) = W at *
  clear HM
  refine (unhide PK _).mono ?_
  rintro o w3 ⟨rfl, hw3⟩
  rw [hw3]
  clear hw3 w3 PK
  go_wp2_with fail
  refine (unhide CK _).mono ?_
  rintro o w10 ⟨rfl, b10⟩
  have c10 := cell_keep b10 cP
  replace b10 := hide (below_trans (unhide b2) b10)
  clear CK b2 cP cT cE
  go_wp2_with fail
  refine (unhide FK _).mono ?_
  rintro o w11 ⟨rfl, b11⟩
  have c11 := cell_keep b11 c10
  replace b11 := hide (below_trans (unhide b10) b11)
  clear FK b10 c10
  go_wp2_with fail
  refine (unhide PE _).mono ?_
  rintro o w12 ⟨rfl, b12⟩
  have c12 := cell_keep b12 c11
  replace b12 := hide (below_trans (unhide b11) b12)
  clear PE b11 c11
  go_wp2_with fail
  refine (unhide J1 _).mono ?_
  rintro o w13 ⟨rfl, b13⟩
  have c13 := cell_keep b13 c12
  replace b13 := hide (below_trans (unhide b12) b13)
  clear J1 b12 c12
  go_wp2_with fail
  refine (unhide J2 _).mono ?_
  rintro o w14 ⟨rfl, b14⟩
  have c14 := cell_keep b14 c13
  replace b14 := hide (below_trans (unhide b13) b14)
  clear J2 b13 c13
  go_wp2_with fail
  refine (unhide SH _).mono ?_
  rintro o w15 ⟨rfl, b15⟩
  have c15 := cell_keep b15 c14
  replace b15 := hide (below_trans (unhide b14) b15)
  clear SH b14 c14
  go_wp2_with fail
  refine (unhide EV _).mono ?_
  rintro o w16 ⟨rfl, b16⟩
  have c16 := cell_keep b16 c15
  replace b16 := hide (below_trans (unhide b15) b16)
  clear EV b15 c15
  go_wp2_with fail
  refine (unhide L1 _).mono ?_
  rintro o w17 ⟨rfl, b17⟩
  have c17 := cell_keep b17 c16
  replace b17 := hide (below_trans (unhide b16) b17)
  clear L1 b16 c16
  go_wp2_with fail
  refine (unhide L2 _).mono ?_
  rintro o w18 ⟨rfl, b18⟩
  have c18 := cell_keep b18 c17
  replace b18 := hide (below_trans (unhide b17) b18)
  clear L2 b17 c17
  go_wp2_with fail
  refine (unhide EN _).mono ?_
  rintro o w19 ⟨rfl, b19⟩
  have c19 := cell_keep b19 c18
  replace b19 := hide (below_trans (unhide b18) b19)
  clear EN b18 c18
  go_wp2_with fail
  refine (unhide FD _).mono ?_
  rintro o w20 ⟨rfl, b20⟩
  have c20 := cell_keep b20 c19
  replace b20 := hide (below_trans (unhide b19) b20)
  clear FD b19 c19
  go_wp2_with fail
  refine (unhide FN _).mono ?_
  rintro o w21 ⟨rfl, b21⟩
  have c21 := cell_keep b21 c20
  replace b21 := hide (below_trans (unhide b20) b21)
  clear FN b20 c20
  go_wp2_with fail
  refine (unhide JC _).mono ?_
  rintro o w22 ⟨rfl, b22⟩
  have c22 := cell_keep b22 c21
  replace b22 := hide (below_trans (unhide b21) b22)
  clear JC b21 c21
  have HM := make_zeros
  go_wp2_with fail
  refine (unhide DZ _).mono ?_
  rintro o w30 ⟨rfl, b30⟩
  have c30 := cell_keep (below_trans (below_alloc _ _) b30) c22
  replace b30 := hide (below_trans (below_trans (unhide b22) (below_alloc _ _)) b30)
  clear DZ b22 c22 HM HV
  go_wp2_with fail
  refine (unhide FD2 _).mono ?_
  rintro o w31 ⟨rfl, b31⟩
  have c31 := cell_keep b31 c30
  replace b31 := hide (below_trans (unhide b30) b31)
  clear FD2 b30 c30
  go_wp2_with fail
  refine (unhide FN2 _).mono ?_
  rintro o w32 ⟨rfl, b32⟩
  have c32 := cell_keep b32 c31
  replace b32 := hide (below_trans (unhide b31) b32)
  clear FN2 b31 c31
  go_wp2_with fail
  refine (unhide FI _).mono ?_
  rintro o w33 ⟨rfl, b33⟩
  have c33 := cell_keep b33 c32
  replace b33 := hide (below_trans (unhide b32) b33)
  clear FI b32 c32
  go_wp2_with fail
  go_ret
  exact ⟨rfl, unhide b33⟩

end Go.Proofs.YtoebmfhgaalcdaaGreatDoor
