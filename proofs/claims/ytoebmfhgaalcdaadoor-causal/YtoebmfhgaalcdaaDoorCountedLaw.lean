/-
  Our own. sprigskeep.Counted: true, whatever the raw numbers.
-/
import Derived.Test.YtoebmfhgaalcdaaDoorCalls3
import Derived.Test.YtoebmfhgaalcdaaDoorStampsK
namespace Go.Proofs.YtoebmfhgaalcdaaDoor
open Go.RowKit

theorem strOf_ext (T : List UInt8) (a b : Nat) : (strOf T).extract a b = strOf ((T.drop a).take (b - a)) := by
  apply ByteArray.ext
  simp [strOf, ByteArray.data_extract]

/-- The ID's text and what stands behind it. -/
theorem tx_head {id : Tr Bool} {e : Tr Nat} (_P : PT id e) : (tx id e).extract 0 ((idText id).length + 1) = strOf (idText id ++ [59]) ∧ (idText id).length + 1 < (tx id e).size ∧ nx (tx id e) (idText id).length = 59 ∧ ∀ j, j < (idText id).length → nx (tx id e) j ≠ 59 := by
  refine ⟨?_, ?_, ?_, ?_⟩
  · rw [tx, strOf_ext]
    congr 1
    simp [wtext, whole, List.take_append]
    exact List.take_of_length_le (by omega)
  · rw [tx, strOf_size, wtext, whole_len]
    have := evText_pos (toEv e 0)
    omega
  · rw [tx, nx_strOf, wtext, whole_at]; rfl
  · intro j hj
    rw [tx, nx_strOf, wtext]; exact whole_before id _ j hj

theorem head_num (id : Tr Bool) (n : Nat) : strOf (idText id ++ [59]) ++ strOf (digs n) = tx id (.leaf n) := by
  rw [strOf_append, tx, wtext, whole]
  congr 1
  simp [toEv, evText]

theorem PT.num {id : Tr Bool} {e : Tr Nat} (P : PT id e) (n : Nat) (hn : n ≤ 1099511627776) : PT id (.leaf n) := ⟨P.pi, P.di, trivial, Nat.zero_le _, hn⟩

/-- Where something is held and no number is the greatest, there is an event. -/
theorem event_exists {id : Tr Bool} {e : Tr Nat} (P : PT id e) (hs : shareP id 256 ≠ 0) (hi : highest e < 1099511627776) : ∃ t, eventP id e = some t := by
  cases h : eventP id e with
  | some t => exact ⟨t, rfl⟩
  | none =>
    exfalso
    have N := (event_none id e P.pe P.hi).1 h
    apply hs
    rw [(share_zero id 8 P.di P.pi).2]
    refine leaf_of_val false P.pi fun p => ?_
    cases hv : id.val p with
    | false => rfl
    | true => have := N p hv; have := le_highest e p; omega

theorem atMost_more {id : Tr Bool} {e t : Tr Nat} (E : Evented id e t) : atMostP e t = true ∧ atMostP t e = false := by
  refine ⟨(atMost_iff _ _).2 E.more, ?_⟩
  rw [Bool.eq_false_iff, ne_eq, atMost_iff]
  intro h
  obtain ⟨p, _, hp⟩ := E.some
  have := h p
  omega

theorem digits_of (n : Nat) (hn : n ≤ 4611686018427387904) (w : World) : Calls Tryd.prog 19 #[.int .i64 (n : Int)] w fun e w' => e = .returned (.string (strOf (digs n))) ∧ Below w.heap.size w w' := digits_any n hn w

theorem high_small' (l : List Int) : highest (evTree 0 (stampEv l)) ≤ 540 := by
  have h2 := anEvP_props l 8 false (anIdP l 8 0).2
  have h3 := high_small _ 0 h2.2.1
  have h4 := h2.1
  show highest (evTree 0 (anEvP l 8 false (anIdP l 8 0).2).1) ≤ _
  omega

theorem one_zero : ({ data := #[49, 59, 48] } : ByteArray) = tx (.leaf true) (.leaf 0) := by kernel_rfl
theorem one_PT (n : Nat) (hn : n ≤ 1099511627776) : PT (.leaf true) (.leaf n) := ⟨trivial, Nat.zero_le _, trivial, Nat.zero_le _, hn⟩
theorem event_whole (n : Nat) (hn : n < 1099511627776) : eventP (.leaf true) (.leaf n) = some (.leaf (n + 1)) := by
  have a : atMostP (fillP (.leaf true) (.leaf n)).2 (.leaf n) = true := by
    rw [atMost_iff]; intro p; exact Nat.le_refl _
  unfold eventP
  rw [if_pos a]
  show (if (true && decide (n < 1099511627776)) = true then some (Tr.leaf (n + 1)) else none) = _
  rw [if_pos (by simp [hn])]

set_option maxRecDepth 100000 in
set_option maxHeartbeats 2000000 in
theorem counted_zero (v : Value) (n : Int) (w : World) (T : Tab w) (id : Tr Bool) (e0 : Tr Nat) (P0 : PT id e0) (hs : shareP id 256 = 0)
    (A : Calls Tryd.prog 17 #[v] w fun e w' => e = .returned (.string (tx id e0)) ∧ Below w.heap.size w w') :
    Calls Tryd.prog 6 #[v, .int .i64 n] w fun e w' => e = .returned (.bool true) ∧ Below w.heap.size w w' := by
  have S := share_T P0
  rw [hs] at S
  have E1 := nothing_T P0 hs
  have F1 := few_T P0 (by omega)
  rw [if_pos hs] at F1
  have E2 := event_T (one_PT 0 (by omega)) (by rw [share_true]; omega) (event_whole 0 (by omega))
  have D : ((tx (.leaf true) (.leaf (0 + 1))).toList == [49, 59, 48]) = false := by
    have D0 : ((tx (.leaf true) (.leaf (0 + 1))).toList == (tx (.leaf true) (.leaf 0)).toList) = false := tx_diff fun e => by
      have := (tx_inj (one_PT (0 + 1) (by omega)) (one_PT 0 (by omega)) e).2
      injection this with this; injection this with this; omega
    rw [← one_zero, show ({ data := #[49, 59, 48] } : ByteArray) = strOf [49, 59, 48] from rfl, strOf_list] at D0
    exact D0
  rw [← one_zero] at E2
  generalize tx (.leaf true) (.leaf (0 + 1)) = X at *
  generalize tx id e0 = S0 at *
  replace A := hide A
  replace S := hide S
  replace E1 := hide E1
  replace F1 := hide F1
  replace E2 := hide E2
  replace T := hide T
  replace D := hide D
  clear P0 hs
  have b0 := hide (Below.refl w.heap.size w)
  go_enter Tryd.func6, Tryd.ntmps6
  go_wp2_with fail
  refine (unhide A).mono ?_
  rintro e w1 ⟨rfl, b1⟩
  replace b0 := hide (below_trans (unhide b0) b1)
  clear b1
  go_wp2_with fail
  refine (unhide S _).mono ?_
  rintro e w1 ⟨rfl, b1⟩
  replace b0 := hide (below_trans (unhide b0) b1)
  clear b1
  go_wp2_with fail
  refine (unhide E1 _).mono ?_
  rintro e w1 ⟨rfl, b1⟩
  replace b0 := hide (below_trans (unhide b0) b1)
  clear b1
  go_wp2_with fail
  refine (unhide F1 _).mono ?_
  rintro e w1 ⟨rfl, b1⟩
  replace b0 := hide (below_trans (unhide b0) b1)
  clear b1
  go_wp2_with fail
  refine (unhide E2 _ ((unhide T).below (unhide b0))).mono ?_
  rintro e w1 ⟨rfl, b1⟩
  replace b0 := hide (below_trans (unhide b0) b1)
  clear b1
  replace D := unhide D
  go_wp2_with fail
  go_ret
  exact ⟨rfl, unhide b0⟩

/-- Of the event at the last number below the greatest: is every number the greatest now? -/
theorem last_event {id : Tr Bool} {t : Tr Nat} (P : PT id (.leaf 1099511627775)) (he : eventP id (.leaf 1099511627775) = some t) :
    (shareP id 256 = 256 ∧ id = .leaf true ∧ t = .leaf 1099511627776 ∧ atMostP (.leaf 1099511627776) t = true) ∨ (shareP id 256 ≠ 256 ∧ atMostP (.leaf 1099511627776) t = false) := by
  by_cases h : id = .leaf true
  · left
    subst h
    rw [event_whole 1099511627775 (by omega)] at he
    injection he with he
    exact ⟨rfl, rfl, he.symm, by rw [← he]; exact (atMost_iff _ _).2 fun p => Nat.le_refl _⟩
  · right
    have E := (P.event he).2
    refine ⟨fun hf => h ((share_full id 8 P.di P.pi).1 hf), ?_⟩
    rw [Bool.eq_false_iff, ne_eq, atMost_iff]
    intro hall
    apply h
    refine leaf_of_val true P.pi fun p => ?_
    cases hv : id.val p with
    | true => rfl
    | false =>
      have h1 := E.rest p hv
      have h2 := hall p
      rw [val_leaf] at h1 h2
      omega

/-- What an event of the loop needs. -/
structure Round (id : Tr Bool) (PX S X : ByteArray) (i0 : Nat) : Prop where
  e1 : S.extract 0 (i0 + 1) = PX
  e2 : X.extract 0 (i0 + 1) = PX
  z1 : i0 + 1 ≤ S.size
  z2 : i0 + 1 ≤ X.size
  z3 : S.size ≤ 8685
  z4 : X.size ≤ 8685

set_option maxRecDepth 100000 in
set_option maxHeartbeats 4000000 in
theorem counted_pos (v : Value) (n : Int) (hn1 : -9223372036854775808 ≤ n) (hn2 : n ≤ 9223372036854775807) (w : World) (T : Tab w) (id : Tr Bool) (e0 : Tr Nat) (P0 : PT id e0) (hi : highest e0 ≤ 540) (hs : shareP id 256 ≠ 0)
    (A : Calls Tryd.prog 17 #[v] w fun e w' => e = .returned (.string (tx id e0)) ∧ Below w.heap.size w w') :
    Calls Tryd.prog 6 #[v, .int .i64 n] w fun e w' => e = .returned (.bool true) ∧ Below w.heap.size w w' := by
  have S := share_T P0
  have hp := pickP_lt n 12 (by omega)
  have PK : ∀ w, Calls Tryd.prog 16 #[.int .i64 n, .int .i64 12] w fun e w' => e = .returned (.int .i64 (pickP n 12 : Nat)) ∧ w' = w := fun w => pick_any n 12 w hn1 hn2 (by omega) (by omega)
  obtain ⟨_, z0, n1, n2⟩ := tx_head P0
  have z1 := P0.size20
  have DG : ∀ w, Calls Tryd.prog 19 #[.int .i64 1099511627776] w fun e w' => e = .returned (.string (strOf (digs 1099511627776))) ∧ Below w.heap.size w w' := digits_of 1099511627776 (by omega)
  have DG2 : ∀ w, Calls Tryd.prog 19 #[.int .i64 1099511627775] w fun e w' => e = .returned (.string (strOf (digs 1099511627775))) ∧ Below w.heap.size w w' := digits_of 1099511627775 (by omega)
  have hq : (shareP id 256 : Nat) ≤ 256 := share_row id 256
  -- the last steps, told ahead
  have FU := full_T (P0.num 1099511627776 (Nat.le_refl _)) hs ((event_none id (.leaf 1099511627776) trivial (Nat.le_refl _)).2 fun p _ => rfl)
  obtain ⟨t9, h9⟩ := event_exists (P0.num 1099511627775 (by omega)) hs (show 1099511627775 < 1099511627776 by omega)
  have EV9 := event_T (P0.num 1099511627775 (by omega)) hs h9
  have LQ9 := leq_T (one_PT 1099511627776 (Nat.le_refl _)).none ((P0.num 1099511627775 (by omega)).event h9).1
  have LE := last_event (P0.num 1099511627775 (by omega)) h9
  rw [← head_num id 1099511627776] at FU
  rw [← head_num id 1099511627775] at EV9
  rw [← head_num (.leaf false) 1099511627776] at LQ9
  have HX : strOf (idText (.leaf false) ++ [59]) = { data := #[48, 59] } := rfl
  rw [HX] at LQ9
  have DS : (strOf (digs 1099511627776)).size ≤ 13 := by rw [strOf_size]; exact digs_len 12 _ (by omega)
  have DS2 : (strOf (digs 1099511627775)).size ≤ 13 := by rw [strOf_size]; exact digs_len 12 _ (by omega)
  have PS : (strOf (idText id ++ [59])).size ≤ 1100 := by have := idText_len id 8 P0.di; rw [strOf_size]; simp; omega
  have TL : (shareP id 256 = 256 ∧ ((tx id t9).toList == ({ data := #[49, 59] } ++ strOf (digs 1099511627776)).toList) = true ∧ atMostP (.leaf 1099511627776) t9 = true) ∨ (shareP id 256 ≠ 256 ∧ atMostP (.leaf 1099511627776) t9 = false) := by
    rcases LE with ⟨h1, rfl, rfl, h4⟩ | h
    · refine Or.inl ⟨h1, ?_, h4⟩
      have e : ({ data := #[49, 59] } : ByteArray) ++ strOf (digs 1099511627776) = tx (.leaf true) (.leaf 1099511627776) := head_num (.leaf true) 1099511627776
      rw [e]; exact tx_same _ _
    · exact Or.inr h
  have RD : ∀ e, PT id e → ∀ t, PT id t → Round id (strOf (idText id ++ [59])) (tx id e) (tx id t) (idText id).length := fun e P t Q => ⟨(tx_head P).1, (tx_head Q).1, by have := (tx_head P).2.1; omega, by have := (tx_head Q).2.1; omega, P.size20, Q.size20⟩
  have C1 := cat_ok (strOf (idText id ++ [59])) (strOf (digs 1099511627776)) (by omega)
  have C2 := cat_ok (strOf (idText id ++ [59])) (strOf (digs 1099511627775)) (by omega)
  have o1 : ({ data := #[48, 59] } : ByteArray).size = 2 := rfl
  have o2 : ({ data := #[49, 59] } : ByteArray).size = 2 := rfl
  have C3 := cat_ok { data := #[48, 59] } (strOf (digs 1099511627776)) (by omega)
  have C4 := cat_ok { data := #[49, 59] } (strOf (digs 1099511627776)) (by omega)
  have EX : ∀ e, PT id e → highest e ≤ 600 → ∃ t, PT id t ∧ highest t ≤ highest e + 1 ∧ (∀ w, Tab w → Calls Tryd.prog 18 #[.string (tx id e)] w fun o w' => o = .returned (.tuple #[.string (tx id t), .int .i64 0]) ∧ Below w.heap.size w w') ∧
      (∀ w, Calls Tryd.prog 10 #[.string (tx id e), .string (tx id t)] w fun o w' => o = .returned (.tuple #[.bool true, .int .i64 0]) ∧ Below w.heap.size w w') ∧
      (∀ w, Calls Tryd.prog 10 #[.string (tx id t), .string (tx id e)] w fun o w' => o = .returned (.tuple #[.bool false, .int .i64 0]) ∧ Below w.heap.size w w') := by
    intro e P he
    obtain ⟨t, ht⟩ := event_exists P hs (by omega)
    obtain ⟨Q, E⟩ := P.event ht
    obtain ⟨a1, a2⟩ := atMost_more E
    refine ⟨t, Q, E.high, fun w T => event_T P hs ht w T, ?_, ?_⟩
    · have := leq_T P Q; rw [a1] at this; exact this
    · have := leq_T Q P; rw [a2] at this; exact this
  clear LE HX o1 o2 DS DS2 PS h9
  generalize shareP id 256 = sh at *
  generalize strOf (digs 1099511627776) = DM at *
  generalize strOf (digs 1099511627775) = DN at *
  generalize strOf (idText id ++ [59]) = PX at *
  generalize (idText id).length = i0 at *
  generalize tx id t9 = X9 at *
  generalize atMostP (.leaf 1099511627776) t9 = a9 at *
  generalize hm : pickP n 12 = m at *
  replace A := hide A
  replace S := hide S
  replace PK := hide PK
  replace DG := hide DG
  replace DG2 := hide DG2
  replace FU := hide FU
  replace EV9 := hide EV9
  replace LQ9 := hide LQ9
  replace TL := hide TL
  replace RD := hide RD
  replace EX := hide EX
  replace C1 := hide C1
  replace C2 := hide C2
  replace C3 := hide C3
  replace C4 := hide C4
  replace T := hide T
  replace n1 := hide n1
  replace n2 := hide n2
  have HI := hide hi
  have PP := hide P0
  have s0 : ((sh : Int) == 0) = false := beq_eq_false_iff_ne.2 (by omega)
  clear hm hi hn1 hn2
  have b0 := hide (Below.refl w.heap.size w)
  generalize hS0 : tx id e0 = S0 at *
  replace hS0 := hide hS0
  clear P0 hs
  go_enter Tryd.func6, Tryd.ntmps6
  go_wp2_with fail
  refine (unhide A).mono ?_
  rintro e w1 ⟨rfl, b1⟩
  replace b0 := hide (below_trans (unhide b0) b1)
  clear b1
  go_wp2_with fail
  refine (unhide S _).mono ?_
  rintro e w2 ⟨rfl, b1⟩
  replace b0 := hide (below_trans (unhide b0) b1)
  clear b1
  go_wp2_with fail
  go_loop [15] (fun x => ∃ j : Nat, j ≤ i0 ∧ x = .int .i64 j) (fun x => i0 - (intOf x).toNat)
  case atStart => exact ⟨0, Nat.zero_le _, rfl⟩
  case round =>
    obtain ⟨j, hj, rfl⟩ := hrel
    have hjs : j < S0.size := by omega
    by_cases hlt : j < i0
    · have hne : ((S0[j].toNat : Int) != 59) = true := by
        have := (unhide n2) j hlt
        rw [nx_in S0 j hjs] at this
        rw [bne_iff_ne]; omega
      go_wp2_with fail
      go_round
      case rel => exact ⟨j + 1, by omega, by go_num⟩
      case measure => simp [intOf]; omega
    · have he : j = i0 := by omega
      subst he
      have heq : ((S0[j].toNat : Int) != 59) = false := by
        have := (unhide n1)
        rw [nx_in S0 j hjs] at this
        rw [bne_eq_false_iff_eq]; omega
      clear hj hlt
      go_wp2_with fail
      go_loopg [5, 16] (m + 1) (fun k x y wr => ∃ (e : Tr Nat) (i : Nat), i + k = m + 1 ∧ x = .string (tx id e) ∧ y = .int .i64 (i : Int) ∧ PT id e ∧ highest e ≤ 540 + i ∧ Below w.heap.size w wr)
      case atStart => exact ⟨e0, 0, by omega, by rw [unhide hS0], rfl, unhide PP, unhide HI, unhide b0⟩
      case round =>
        obtain ⟨e, i, hk, rfl, rfl, Pe, he, hb⟩ := hrel
        replace hb := hide hb
        replace hk := hide hk
        have ew : IntKind.i64.wrap ((m : Int) + 1) = (m : Int) + 1 := by rw [IntKind.wrap_i64]; omega
        have ej : IntKind.i64.wrap ((j : Int) + 1) = (j : Int) + 1 := by rw [IntKind.wrap_i64]; omega
        by_cases hlt : i < m + 1
        · have hl : (i : Int) < (m : Int) + 1 := by omega
          obtain ⟨t, Q, ht, EV, L1, L2⟩ := unhide EX e Pe (by omega)
          obtain ⟨r1, r2, r3, r4, r5, r6⟩ := unhide RD e Pe t Q
          have ei : IntKind.i64.wrap ((i : Int) + 1) = (i : Int) + 1 := by rw [IntKind.wrap_i64]; omega
          have HT : Hid (highest t ≤ 540 + (i + 1)) := hide (by omega)
          have HX := hide (show tx id t = tx id t from rfl)
          replace Q := hide Q
          replace EV := hide EV
          replace L1 := hide L1
          replace L2 := hide L2
          have g1 : decide ((tx id t).size ≤ j) = false := decide_eq_false (by omega)
          have g2 : (j : Int) + 1 ≤ ((tx id t).size : Int) := by omega
          have g3 : (j : Int) + 1 ≤ ((tx id e).size : Int) := by omega
          have g4 : (0 : Int) ≤ (j : Int) + 1 := by omega
          clear Pe he ht hlt r3 r4
          generalize tx id e = Se at *
          generalize hX : tx id t = Xe at *
          replace hX := hide hX
          clear HX
          go_wp2_with fail
          refine (unhide PK _).mono ?_
          rintro o w3 ⟨rfl, rfl⟩
          go_wp2_with fail
          refine (unhide EV _ ((unhide T).below (unhide hb))).mono ?_
          rintro o w4 ⟨rfl, b4⟩
          replace hb := hide (below_trans (unhide hb) b4)
          clear b4
          go_wp2_with fail
          go_quiet (fail)
          replace hb := hide (below_trans (unhide hb) (below_drewN _ nq))
          go_wp2_with fail
          refine (unhide L1 _).mono ?_
          rintro o w5 ⟨rfl, b5⟩
          replace hb := hide (below_trans (unhide hb) b5)
          clear b5
          go_wp2_with fail
          refine (unhide L2 _).mono ?_
          rintro o w6 ⟨rfl, b6⟩
          replace hb := hide (below_trans (unhide hb) b6)
          clear b6
          go_wp2_with fail
          go_roundg (gk - 1)
          case measure => have := unhide hk; omega
          case rel => exact ⟨t, i + 1, by have := unhide hk; omega, by rw [unhide hX], by go_num, unhide Q, unhide HT, unhide hb⟩
        · have hl : ¬ (i : Int) < (m : Int) + 1 := by omega
          obtain ⟨r1, _, r3, _, r5, _⟩ := unhide RD e Pe e Pe
          have g3 : (j : Int) + 1 ≤ ((tx id e).size : Int) := by omega
          have g4 : (0 : Int) ≤ (j : Int) + 1 := by omega
          clear Pe he hlt
          generalize tx id e = Se at *
          go_wp2_with fail
          refine (unhide PK _).mono ?_
          rintro o w3 ⟨rfl, rfl⟩
          go_wp2_with fail
          replace C1 := unhide C1
          go_region_held3 (fun w' => True) (trivial)
            (first
              | (go_at_call 19; refine (unhide DG _).mono ?_; rintro o w5 ⟨rfl, b5⟩; replace b5 := hide b5)
              | (go_at_call 18; refine (unhide FU _).mono ?_; rintro o w6 ⟨rfl, b6⟩; replace b6 := hide b6))
          all_goals
            replace hb := hide (below_trans (below_trans (below_trans (unhide hb) (below_drew _)) (unhide b5)) (unhide b6))
            clear b5 C1
            go_wp2_with fail
            replace C2 := unhide C2
            go_region_held3 (fun w' => True) (trivial)
              (first
                | (go_at_call 19; refine (unhide DG2 _).mono ?_; rintro o w7 ⟨rfl, b7⟩; replace hb := hide (below_trans (below_trans (unhide hb) (below_drew _)) b7); replace b7 := hide b7)
                | (go_at_call 18; refine (unhide EV9 _ ((unhide T).below (unhide hb))).mono ?_; rintro o w8 ⟨rfl, b8⟩; replace hb := hide (below_trans (unhide hb) b8); replace b8 := hide b8))
            all_goals
              clear C2
              go_wp2_with fail
              refine (unhide DG _).mono ?_
              rintro o w9 ⟨rfl, b9⟩
              replace hb := hide (below_trans (unhide hb) b9)
              clear b9
              replace C3 := unhide C3
              go_wp2_with fail
              refine (unhide LQ9 _).mono ?_
              rintro o w10 ⟨rfl, b10⟩
              replace hb := hide (below_trans (unhide hb) b10)
              clear b10 C3
              rcases unhide TL with ⟨t1, t2, rfl⟩ | ⟨t1, rfl⟩
              · have t3 : ((sh : Int) == 256) = true := beq_iff_eq.2 (by omega)
                replace C4 := unhide C4
                clear t1
                go_wp2_with fail
                refine (unhide DG _).mono ?_
                rintro o w11 ⟨rfl, b11⟩
                replace hb := hide (below_trans (unhide hb) b11)
                clear b11
                go_wp2_with fail
                go_ret
                exact ⟨rfl, unhide hb⟩
              · have t3 : ((sh : Int) == 256) = false := beq_eq_false_iff_ne.2 (by omega)
                clear t1
                go_wp2_with fail
                go_ret
                exact ⟨rfl, unhide hb⟩

theorem counted_any (v : Value) (l : List Int) (n : Int) (w : World) (T : Tab w) (h : Sl w.heap.size w v l) (hn1 : -9223372036854775808 ≤ n) (hn2 : n ≤ 9223372036854775807) :
    Calls Tryd.prog 6 #[v, .int .i64 n] w fun e w' => e = .returned (.bool true) ∧ Below w.heap.size w w' := by
  obtain ⟨e1, P1⟩ := stamp_tx l
  have A := aStamp_any v l w h
  rw [e1] at A
  by_cases hs : shareP (stampId l) 256 = 0
  · exact counted_zero v n w T _ _ P1 hs A
  · exact counted_pos v n hn1 hn2 w T _ _ P1 (high_small' l) hs A

end Go.Proofs.YtoebmfhgaalcdaaDoor
