/-
  Our own. sprigskeep.Written: what a call does, of any raw numbers.
-/
import Derived.Test.YtoebmfhgaalcdaaTexts3
import Derived.Test.YtoebmfhgaalcdaaKeepStamp
import Derived.Deep.LoopGhost
namespace Go.Proofs.Ytoebmfhgaalcdaa
open Go.RowKit

theorem strOf_extract (T : List UInt8) (a b : Nat) : (strOf T).extract a b = strOf ((T.drop a).take (b - a)) := by
  apply ByteArray.ext
  simp [strOf, ByteArray.data_extract]

/-- A call of Check that is known. -/
theorem check_of (s : ByteArray) (a b : Nat) (hm : s.size ≤ 30000) (h : chk s = (a, b)) (w : World) :
    Calls Try.prog 7 #[.string s] w fun e w' => e = .returned (.tuple #[.int .i64 a, .int .i64 b]) ∧ Below w.heap.size w w' := by
  have C := check_any s w (by unfold maxLen; omega)
  rw [h] at C
  exact C

/-- What is known of a call of Check. -/
def Chk (s : ByteArray) (a b : Int) : Prop := ∀ w : World, Calls Try.prog 7 #[.string s] w fun e w' => e = .returned (.tuple #[.int .i64 a, .int .i64 b]) ∧ Below w.heap.size w w'

set_option maxRecDepth 100000 in
set_option maxHeartbeats 4000000 in
theorem written_core (v : Value) (at_ : Int) (w : World) (S : ByteArray) (k i0 : Nat) (z1 : S.size ≤ 4000) (z2 : k < S.size) (z3 : i0 + 1 < S.size) (n1 : nx S i0 = 59) (n2 : ∀ j, j < i0 → nx S j ≠ 59)
    (A : Hid (Calls Try.prog 4 #[v] w fun e w' => e = .returned (.string S) ∧ Below w.heap.size w w'))
    (F : Hid (∀ w1 : World, Calls Try.prog 5 #[.string S] w1 fun e w' => e = .returned (.bool true) ∧ Below w1.heap.size w1 w'))
    (P : Hid (∀ w1 : World, Calls Try.prog 6 #[.int .i64 at_, .int .i64 S.size] w1 fun e w' => e = .returned (.int .i64 k) ∧ w' = w1))
    (C1 : Chk (S.extract 0 k) 2 k)
    (C2 : Chk (S ++ { data := #[41] }) 2 S.size)
    (C4 : Chk ({ data := #[40, 49, 44, 49, 41] } ++ S.extract i0 S.size) 3 0)
    (C5 : Chk (S.extract 0 i0 ++ { data := #[59, 40, 51, 44, 49, 44, 49, 41] }) 3 ((i0 : Int) + 1))
    (C6 : Chk (S.extract 0 i0 ++ { data := #[59, 40, 48, 44, 49, 44, 40, 50, 44, 48, 44, 49, 41, 41] }) 3 ((i0 : Int) + 1))
    (C7 : Chk (S.extract 0 (i0 + 1) ++ { data := #[48] } ++ S.extract (i0 + 1) S.size) 2 ((i0 : Int) + 2))
    : Calls Try.prog 3 #[v, .int .i64 at_] w fun e w' => e = .returned (.bool true) ∧ Below w.heap.size w w' := by
  have N1 := hide n1
  have N2 := hide n2
  clear n1 n2
  go_enter Try.func3, Try.ntmps3
  go_wp2_with fail
  refine (unhide A).mono ?_
  rintro e1 w1 ⟨rfl, b1⟩
  go_wp2_with fail
  refine (unhide F _).mono ?_
  rintro e1 w2 ⟨rfl, b2⟩
  have b12 := b1.trans (b2.mono b1.size)
  clear b1 b2
  go_wp2_with fail
  refine (unhide P _).mono ?_
  rintro e1 w2 ⟨rfl, rfl⟩
  go_wp2_with fail
  refine (C1 _).mono ?_
  rintro e1 w3 ⟨rfl, b3⟩
  have b13 := b12.trans (b3.mono b12.size)
  clear b12 b3
  go_wp2_with fail
  refine (C2 _).mono ?_
  rintro e1 w4 ⟨rfl, b4⟩
  have b14 := b13.trans (b4.mono b13.size)
  clear b13 b4
  go_wp2_with fail
  go_loop [12] (fun x => ∃ j : Nat, j ≤ i0 ∧ x = .int .i64 j) (fun x => i0 - (intOf x).toNat)
  case atStart => exact ⟨0, Nat.zero_le _, rfl⟩
  case round =>
    obtain ⟨j, hj, rfl⟩ := hrel
    have hjs : j < S.size := by omega
    by_cases hlt : j < i0
    · have hne : ((S[j].toNat : Int) != 59) = true := by
        have := (unhide N2) j hlt
        rw [nx_in S j hjs] at this
        rw [bne_iff_ne]; omega
      go_wp2_with fail
      go_round
      case rel => exact ⟨j + 1, by omega, by go_num⟩
      case measure => simp [intOf]; omega
    · have he : j = i0 := by omega
      subst he
      have heq : ((S[j].toNat : Int) != 59) = false := by
        have := (unhide N1)
        rw [nx_in S j hjs] at this
        rw [bne_eq_false_iff_eq]; omega
      clear hj hlt
      go_wp2_with fail
      refine (C4 _).mono ?_
      rintro e1 w5 ⟨rfl, b5⟩
      have b15 := b14.trans (b5.mono b14.size)
      clear b14 b5
      go_wp2_with fail
      refine (C5 _).mono ?_
      rintro e1 w6 ⟨rfl, b6⟩
      have b16 := b15.trans (b6.mono b15.size)
      clear b15 b6
      go_wp2_with fail
      refine (C6 _).mono ?_
      rintro e1 w7 ⟨rfl, b7⟩
      have b17 := b16.trans (b7.mono b16.size)
      clear b16 b7
      have ew : IntKind.i64.wrap ((j : Int) + 1) = (j : Int) + 1 := by rw [IntKind.wrap_i64]; omega
      have z4 : (j : Int) + 1 ≤ (S.size : Int) := by omega
      go_wp2_with fail
      go_region_with (go_at_call 7; refine (C7 _).mono ?_; rintro e1 w8 ⟨rfl, b8⟩)
      all_goals go_wp2_with fail
      all_goals go_ret
      all_goals exact ⟨rfl, (b17.drew).trans (b8.mono b17.size)⟩

set_option maxRecDepth 100000 in
set_option maxHeartbeats 4000000 in
theorem written_cut (v : Value) (at_ : Int) (w : World) (S : ByteArray) (k' i0 : Nat) (z1 : S.size ≤ 4000) (z2 : k' + 1 < S.size) (z3 : i0 + 1 < S.size) (n1 : nx S i0 = 59) (n2 : ∀ j, j < i0 → nx S j ≠ 59)
    (A : Hid (Calls Try.prog 4 #[v] w fun e w' => e = .returned (.string S) ∧ Below w.heap.size w w'))
    (F : Hid (∀ w1 : World, Calls Try.prog 5 #[.string S] w1 fun e w' => e = .returned (.bool true) ∧ Below w1.heap.size w1 w'))
    (P : Hid (∀ w1 : World, Calls Try.prog 6 #[.int .i64 at_, .int .i64 S.size] w1 fun e w' => e = .returned (.int .i64 ((k' + 1 : Nat) : Int)) ∧ w' = w1))
    (C1 : Chk (S.extract 0 (k' + 1)) 0 0) (d1 : 48 ≤ nx S k' ∧ nx S k' ≤ 57) (d2 : 48 ≤ nx S (k' + 1) ∧ nx S (k' + 1) ≤ 57)
    (C2 : Chk (S ++ { data := #[41] }) 2 S.size)
    (C4 : Chk ({ data := #[40, 49, 44, 49, 41] } ++ S.extract i0 S.size) 3 0)
    (C5 : Chk (S.extract 0 i0 ++ { data := #[59, 40, 51, 44, 49, 44, 49, 41] }) 3 ((i0 : Int) + 1))
    (C6 : Chk (S.extract 0 i0 ++ { data := #[59, 40, 48, 44, 49, 44, 40, 50, 44, 48, 44, 49, 41, 41] }) 3 ((i0 : Int) + 1))
    (C7 : Chk (S.extract 0 (i0 + 1) ++ { data := #[48] } ++ S.extract (i0 + 1) S.size) 2 ((i0 : Int) + 2))
    : Calls Try.prog 3 #[v, .int .i64 at_] w fun e w' => e = .returned (.bool true) ∧ Below w.heap.size w w' := by
  have z5 : k' < S.size := by omega
  rw [nx_in S k' z5] at d1
  rw [nx_in S (k' + 1) z2] at d2
  have d3 : (48 : Int) ≤ (S[k'].toNat : Int) := by omega
  have d4 : (S[k'].toNat : Int) ≤ 57 := by omega
  have d5 : (48 : Int) ≤ (S[k' + 1].toNat : Int) := by omega
  have d6 : (S[k' + 1].toNat : Int) ≤ 57 := by omega
  clear d1 d2
  have N1 := hide n1
  have N2 := hide n2
  clear n1 n2
  go_enter Try.func3, Try.ntmps3
  go_wp2_with fail
  refine (unhide A).mono ?_
  rintro e1 w1 ⟨rfl, b1⟩
  go_wp2_with fail
  refine (unhide F _).mono ?_
  rintro e1 w2 ⟨rfl, b2⟩
  have b12 := b1.trans (b2.mono b1.size)
  clear b1 b2
  go_wp2_with fail
  refine (unhide P _).mono ?_
  rintro e1 w2 ⟨rfl, rfl⟩
  go_wp2_with fail
  refine (C1 _).mono ?_
  rintro e1 w3 ⟨rfl, b3⟩
  have b13 := b12.trans (b3.mono b12.size)
  clear b12 b3
  go_wp2_with fail
  refine (C2 _).mono ?_
  rintro e1 w4 ⟨rfl, b4⟩
  have b14 := b13.trans (b4.mono b13.size)
  clear b13 b4
  go_wp2_with fail
  go_loop [12] (fun x => ∃ j : Nat, j ≤ i0 ∧ x = .int .i64 j) (fun x => i0 - (intOf x).toNat)
  case atStart => exact ⟨0, Nat.zero_le _, rfl⟩
  case round =>
    obtain ⟨j, hj, rfl⟩ := hrel
    have hjs : j < S.size := by omega
    by_cases hlt : j < i0
    · have hne : ((S[j].toNat : Int) != 59) = true := by
        have := (unhide N2) j hlt
        rw [nx_in S j hjs] at this
        rw [bne_iff_ne]; omega
      go_wp2_with fail
      go_round
      case rel => exact ⟨j + 1, by omega, by go_num⟩
      case measure => simp [intOf]; omega
    · have he : j = i0 := by omega
      subst he
      have heq : ((S[j].toNat : Int) != 59) = false := by
        have := (unhide N1)
        rw [nx_in S j hjs] at this
        rw [bne_eq_false_iff_eq]; omega
      clear hj hlt
      go_wp2_with fail
      refine (C4 _).mono ?_
      rintro e1 w5 ⟨rfl, b5⟩
      have b15 := b14.trans (b5.mono b14.size)
      clear b14 b5
      go_wp2_with fail
      refine (C5 _).mono ?_
      rintro e1 w6 ⟨rfl, b6⟩
      have b16 := b15.trans (b6.mono b15.size)
      clear b15 b6
      go_wp2_with fail
      refine (C6 _).mono ?_
      rintro e1 w7 ⟨rfl, b7⟩
      have b17 := b16.trans (b7.mono b16.size)
      clear b16 b7
      have ew : IntKind.i64.wrap ((j : Int) + 1) = (j : Int) + 1 := by rw [IntKind.wrap_i64]; omega
      have z4 : (j : Int) + 1 ≤ (S.size : Int) := by omega
      go_wp2_with fail
      go_region_with (go_at_call 7; refine (C7 _).mono ?_; rintro e1 w8 ⟨rfl, b8⟩)
      all_goals go_wp2_with fail
      all_goals go_ret
      all_goals exact ⟨rfl, (b17.drew).trans (b8.mono b17.size)⟩


/-- Written, of any raw numbers. -/
theorem written_any (v : Value) (l : List Int) (at_ : Int) (w : World) (hs : Sl w.heap.size w v l) (h1 : -9223372036854775808 ≤ at_) (h2 : at_ ≤ 9223372036854775807) :
    Calls Try.prog 3 #[v, .int .i64 at_] w fun e w' => e = .returned (.bool true) ∧ Below w.heap.size w w' := by
  have A := aStamp_any v l w hs
  have hl := stampText_len l
  have G := stamp_good l
  have eT : stampText l = whole (stampId l) (stampEv l) := rfl
  rw [eT] at A hl
  clear eT hs
  generalize stampId l = t at *
  generalize stampEv l = e at *
  have hp := evText_pos e
  have hw := whole_len t e
  have z : (strOf (whole t e)).size = (whole t e).length := strOf_size _
  have hk := pickP_lt at_ (whole t e).length (by omega)
  have P := fun w1 => pick_any at_ (whole t e).length w1 h1 h2 (by omega) (by omega)
  generalize pickP at_ (whole t e).length = kk at *
  rw [← z] at P
  have F := fun w1 => fine_yes _ w1 (by unfold maxLen; rw [strOf_size]; omega) (chk_whole G (by omega))
  have n1 : nx (strOf (whole t e)) (idText t).length = 59 := by rw [nx_strOf, whole_at]; rfl
  have n2 : ∀ j, j < (idText t).length → nx (strOf (whole t e)) j ≠ 59 := fun j hj => by rw [nx_strOf]; exact whole_before t e j hj
  have e41 : strOf (whole t e) ++ { data := #[41] } = strOf (whole t e ++ [41]) := strOf_append (whole t e) [41]
  have C2 : Chk (strOf (whole t e) ++ { data := #[41] }) 2 ((strOf (whole t e)).size : Int) := by
    rw [e41, z]; exact check_of _ _ _ (by rw [strOf_size]; simp; omega) (chk_more G (by omega))
  have x1 : (strOf (whole t e)).extract (idText t).length (strOf (whole t e)).size = strOf (59 :: evText e) := by
    rw [strOf_extract, z]
    congr 1
    rw [List.take_of_length_le (by simp)]
    simp [whole]
  have x2 : (strOf (whole t e)).extract 0 (idText t).length = strOf (idText t) := by
    rw [strOf_extract]
    congr 1
    simp [whole]
  have x3 : (strOf (whole t e)).extract 0 ((idText t).length + 1) = strOf (idText t ++ [59]) := by
    rw [strOf_extract]
    congr 1
    simp [whole, List.take_append]
    exact List.take_of_length_le (by omega)
  have x4 : (strOf (whole t e)).extract ((idText t).length + 1) (strOf (whole t e)).size = strOf (evText e) := by
    rw [strOf_extract, z]
    congr 1
    rw [List.take_of_length_le (by simp)]
    simp [whole, List.drop_append]
  have C4 : Chk ({ data := #[40, 49, 44, 49, 41] } ++ (strOf (whole t e)).extract (idText t).length (strOf (whole t e)).size) 3 0 := by
    rw [x1, show ({ data := #[40, 49, 44, 49, 41] } : ByteArray) = strOf [40, 49, 44, 49, 41] from rfl, strOf_append]
    exact check_of _ 3 0 (by rw [strOf_size]; simp; omega) (chk_ones G (by omega))
  have C5 : Chk ((strOf (whole t e)).extract 0 (idText t).length ++ { data := #[59, 40, 51, 44, 49, 44, 49, 41] }) 3 (((idText t).length : Int) + 1) := by
    have e5 : evText (.br 3 (.num 1) (.num 1)) = [40, 51, 44, 49, 44, 49, 41] := by
      simp only [evText, digs_one 3 (by omega), digs_one 1 (by omega)]; rfl
    have w5 : whole t (.br 3 (.num 1) (.num 1)) = idText t ++ [59, 40, 51, 44, 49, 44, 49, 41] := by rw [whole, e5]
    have r := chk_rough (t := t) 3 (.num 1) (.num 1) G.dt G.pt (by simp [Ev.deep]) (by simp [Ev.deep]) (by omega) (by simp [plainE]) (by simp [plainE]) (by simp [front]) (by simp [front])
      (by simp [evTree, highest]) (by rw [w5]; simp; omega)
    rw [x2, show ({ data := #[59, 40, 51, 44, 49, 44, 49, 41] } : ByteArray) = strOf [59, 40, 51, 44, 49, 44, 49, 41] from rfl, strOf_append, ← w5]
    exact check_of _ 3 ((idText t).length + 1) (by rw [strOf_size, w5]; simp; omega) r
  have C6 : Chk ((strOf (whole t e)).extract 0 (idText t).length ++ { data := #[59, 40, 48, 44, 49, 44, 40, 50, 44, 48, 44, 49, 41, 41] }) 3 (((idText t).length : Int) + 1) := by
    have e6 : evText (.br 0 (.num 1) (.br 2 (.num 0) (.num 1))) = [40, 48, 44, 49, 44, 40, 50, 44, 48, 44, 49, 41, 41] := by
      simp only [evText, digs_one 0 (by omega), digs_one 1 (by omega), digs_one 2 (by omega)]; rfl
    have w6 : whole t (.br 0 (.num 1) (.br 2 (.num 0) (.num 1))) = idText t ++ [59, 40, 48, 44, 49, 44, 40, 50, 44, 48, 44, 49, 41, 41] := by rw [whole, e6]
    have r := chk_rough (t := t) 0 (.num 1) (.br 2 (.num 0) (.num 1)) G.dt G.pt (by simp [Ev.deep]) (by simp [Ev.deep]) (by omega) (by simp [plainE]) (by simp [plainE, front, isZero]) (by simp [front]) (by simp [front])
      (by simp [evTree, highest]) (by rw [w6]; simp; omega)
    rw [x2, show ({ data := #[59, 40, 48, 44, 49, 44, 40, 50, 44, 48, 44, 49, 41, 41] } : ByteArray) = strOf [59, 40, 48, 44, 49, 44, 40, 50, 44, 48, 44, 49, 41, 41] from rfl, strOf_append, ← w6]
    exact check_of _ 3 ((idText t).length + 1) (by rw [strOf_size, w6]; simp; omega) r
  have C7 : Chk ((strOf (whole t e)).extract 0 ((idText t).length + 1) ++ { data := #[48] } ++ (strOf (whole t e)).extract ((idText t).length + 1) (strOf (whole t e)).size) 2 (((idText t).length : Int) + 2) := by
    rw [x3, x4, show ({ data := #[48] } : ByteArray) = strOf [48] from rfl, strOf_append, strOf_append,
      show idText t ++ [59] ++ [48] ++ evText e = idText t ++ 59 :: 48 :: evText e by simp]
    exact check_of _ 2 ((idText t).length + 2) (by rw [strOf_size]; simp; omega) (chk_nought G (by omega))
  rcases chk_cut G (by omega) _ hk with c | ⟨c, k1, d1, d2⟩
  · have C1 : Chk ((strOf (whole t e)).extract 0 kk) 2 (kk : Int) := by
      rw [strOf_extract, Nat.sub_zero, List.drop_zero]
      exact check_of _ _ _ (by rw [strOf_size, List.length_take]; omega) c
    exact written_core v at_ w _ _ _ (by omega) (by omega) (by omega) n1 n2 (hide A) (hide F) (hide P) C1 C2 C4 C5 C6 C7
  · obtain ⟨k', rfl⟩ : ∃ k', kk = k' + 1 := ⟨kk - 1, by omega⟩
    have C1 : Chk ((strOf (whole t e)).extract 0 (k' + 1)) 0 0 := by
      rw [strOf_extract, Nat.sub_zero, List.drop_zero]
      exact check_of _ 0 0 (by rw [strOf_size, List.length_take]; omega) c
    exact written_cut v at_ w _ _ _ (by omega) (by omega) (by omega) n1 n2 (hide A) (hide F) (hide P) C1 (by rw [nx_strOf]; exact d1) (by rw [nx_strOf]; exact d2) C2 C4 C5 C6 C7

end Go.Proofs.Ytoebmfhgaalcdaa
