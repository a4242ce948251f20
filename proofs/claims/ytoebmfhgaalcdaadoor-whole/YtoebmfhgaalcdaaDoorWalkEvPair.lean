/-
  Our own. The reader's ev at brackets; ev, of any text, from any place.
-/
import Derived.Test.YtoebmfhgaalcdaaDoorWalkEv
namespace Go.Proofs.YtoebmfhgaalcdaaDoor
open Go.RowKit

set_option maxHeartbeats 400000 in
/-- Do two EVs make a pair that is not plain? -/
theorem rough_evs_any (w : World) (x y : Value) (l t : Tr Nat) (ln tn : Nat) (hl : TI w x l) (ht : TI w y t) :
    Calls Tryd.prog 96 #[x, y, .int .i64 (ln : Nat), .int .i64 (tn : Nat)] w fun e w' => e = .returned (.bool (decide (0 < ln) && decide (0 < tn) || sameI l t)) ∧ ∃ n, w' = w.drewN n := by
  have SM := sameI_any w x y l t hl ht
  obtain ⟨m, rfl⟩ := TA.root hl
  obtain ⟨m2, rfl⟩ := TA.root ht
  generalize sameI l t = S at *
  have SM := hide SM
  clear hl ht
  by_cases p : 0 < ln
  · have p1 : (0 : Int) < (ln : Int) := by omega
    by_cases q : 0 < tn
    · have q1 : (0 : Int) < (tn : Int) := by omega
      rw [decide_eq_true p, decide_eq_true q]
      go_enter Tryd.func96, Tryd.ntmps96
      go_wp2_with fail
      go_ret
      exact ⟨rfl, 0, rfl⟩
    · have q1 : ¬ (0 : Int) < (tn : Int) := by omega
      rw [decide_eq_true p, decide_eq_false q, Bool.and_false, Bool.false_or]
      go_enter Tryd.func96, Tryd.ntmps96
      go_wp2_with fail
      refine (unhide SM).mono ?_
      rintro e w9 ⟨rfl, n9, rfl⟩
      go_wp2_with fail
      go_ret
      exact ⟨rfl, n9, rfl⟩
  · have p1 : ¬ (0 : Int) < (ln : Int) := by omega
    rw [decide_eq_false p, Bool.false_and, Bool.false_or]
    go_enter Tryd.func96, Tryd.ntmps96
    go_wp2_with fail
    refine (unhide SM).mono ?_
    rintro e w9 ⟨rfl, n9, rfl⟩
    go_wp2_with fail
    go_ret
    exact ⟨rfl, n9, rfl⟩

set_option maxHeartbeats 2000000 in
theorem ev_pair (b : Nat) (s : ByteArray) (hs : s.size ≤ 20000) (h : Nat) (hh : h < 8)
    (ih : Hid (∀ (base i r : Nat) (w : World), base ≤ (99 - h) * 1099511627776 → Rd b s i r w → i ≤ s.size → Calls Tryd.prog 76 #[.pointer (some ⟨b, 0, none⟩), .int .i64 (h : Nat), .int .i64 (base : Nat)] w fun e w' => EvEnd b s w (evR s h base i r) e w'))
    (base i r : Nat) (w : World) (hb : base ≤ (99 - (h + 1)) * 1099511627776) (h0 : Rd b s i r w) (ho : nx s i = 40) :
    Calls Tryd.prog 76 #[.pointer (some ⟨b, 0, none⟩), .int .i64 ((h + 1 : Nat) : Int), .int .i64 (base : Nat)] w fun e w' => EvEnd b s w (evR s (h + 1) base i r) e w' := by
  have hi : i < s.size := lt_of_nx s i (by omega)
  have he : ((nx s i : Int) != 40) = false := by rw [bne_eq_false_iff_eq]; omega
  have hb2 : base ≤ 109951162777600 := by omega
  have HO := hide ho
  clear ho
  go_enter Tryd.func76, Tryd.ntmps76
  go_wp2_with fail
  refine (next_k b s i r _ h0 (by omega)).mono ?_
  rintro e w1 ⟨rfl, h1, a1⟩
  go_wp2_with fail
  refine (open_ok b s i r (h + 1) _ h1 hs hi (unhide HO) (by omega)).mono ?_
  rintro e w2 ⟨rfl, h2, a2⟩
  have a12 := a1.trans a2
  clear a1 a2 h1 h0
  cases f : numR s (i + 1) using Nm.cs with
  | bad j =>
    have HF : Hid (evR s (h + 1) base i r = .bad j) := evR_bad0 (unhide HO) f
    have NM := num_any b s (i + 1) r w2 h2 hs (by omega)
    rw [f] at NM
    have NM := hide NM
    clear f
    go_wp2_with fail
    refine (unhide NM).mono ?_
    rintro e w3 ⟨rfl, a3⟩
    refine ⟨rfl, ?_⟩
    rw [HF.out]
    exact ⟨rfl, a12.trans a3⟩
  | ok n i1 =>
    obtain ⟨n1, n2, n3⟩ := numR_ok (by omega) f
    have NM := num_any b s (i + 1) r w2 h2 hs (by omega)
    rw [f] at NM
    have NM := hide NM
    have F := hide f
    clear f
    go_wp2_with fail
    refine (unhide NM).mono ?_
    rintro e w3 ⟨rfl, h3, a3⟩
    have a13 := a12.trans a3
    clear NM h2 a12 a3
    by_cases g : nx s i1 = 44
    · have G := hide g
      clear g
      have l1 : i1 < s.size := lt_of_nx s i1 (by rw [unhide G]; omega)
      go_wp2_with fail
      refine (pass_ok b s i1 r 44 _ h3 hs l1 (unhide G)).mono ?_
      rintro e w4 ⟨rfl, h4, a4⟩
      have a14 := a13.trans a4
      clear h3 a13 a4
      cases f2 : evR s h (base + n) (i1 + 1) r using Rs.cs with
      | bad j =>
        have HF : Hid (evR s (h + 1) base i r = .bad j) := evR_bad2 (unhide HO) (unhide F) (unhide G) f2
        have IH := ih.out (base + n) (i1 + 1) r w4 (by omega) h4 (by omega)
        rw [f2] at IH
        clear f2
        have IH := hide IH
        go_wp2_with fail
        refine (unhide IH).mono ?_
        rintro e w5 ⟨rfl, a5⟩
        refine ⟨rfl, ?_⟩
        rw [HF.out]
        exact ⟨rfl, a14.trans a5⟩
      | ok o i2 r2 =>
        obtain ⟨l, ln⟩ := o
        have IH := ih.out (base + n) (i1 + 1) r w4 (by omega) h4 (by omega)
        rw [f2] at IH
        have F2 := hide f2
        have IH := hide IH
        clear f2
        go_wp2_with fail
        refine (unhide IH).mono ?_
        rintro e w5 ⟨v, rfl, t5, h5, b5, a5⟩
        clear IH
        obtain ⟨m, rfl⟩ := TA.root t5
        have a15 := a14.trans a5
        clear a14 a5 h4
        by_cases g2 : nx s i2 = 44
        · have G2 := hide g2
          clear g2
          have l2 : i2 < s.size := lt_of_nx s i2 (by rw [unhide G2]; omega)
          go_wp2_with fail
          refine (pass_ok b s i2 r2 44 _ h5 hs l2 (unhide G2)).mono ?_
          rintro e w6 ⟨rfl, h6, a6⟩
          have t6 := t5.apart h5 a6
          have a16 := a15.trans a6
          clear t5 h5 a15 a6
          cases f3 : evR s h (base + n) (i2 + 1) r2 using Rs.cs with
          | bad j =>
            have HF : Hid (evR s (h + 1) base i r = .bad j) := evR_bad4 (unhide HO) (unhide F) (unhide G) (unhide F2) (unhide G2) f3
            have IH := ih.out (base + n) (i2 + 1) r2 w6 (by omega) h6 (by omega)
            rw [f3] at IH
            clear f3
            have IH := hide IH
            go_wp2_with fail
            refine (unhide IH).mono ?_
            rintro e w7 ⟨rfl, a7⟩
            refine ⟨rfl, ?_⟩
            rw [HF.out]
            exact ⟨rfl, a16.trans a7⟩
          | ok o i4 r4 =>
            obtain ⟨t, tn⟩ := o
            have IH := ih.out (base + n) (i2 + 1) r2 w6 (by omega) h6 (by omega)
            rw [f3] at IH
            have F3 := hide f3
            have IH := hide IH
            clear f3
            go_wp2_with fail
            refine (unhide IH).mono ?_
            rintro e w7 ⟨v, rfl, u7, h7, b7, a7⟩
            clear IH
            obtain ⟨m2, rfl⟩ := TA.root u7
            have t7 := t6.apart h6 a7
            have a17 := a16.trans a7
            clear a16 a7 h6 t6
            by_cases g3 : nx s i4 = 41
            · have l4 : i4 < s.size := lt_of_nx s i4 (by omega)
              have HF : Hid (evR s (h + 1) base i r = .ok (.pair l t, n) (i4 + 1) (if (decide (0 < ln) && decide (0 < tn) || sameI l t) = true then min r4 i else r4)) := evR_pair (unhide HO) (unhide F) (unhide G) (unhide F2) (unhide G2) (unhide F3) g3
              have G3 := hide g3
              clear g3 F G F2 G2 F3
              go_wp2_with fail
              refine (pass_ok b s i4 r4 41 _ h7 hs l4 (unhide G3)).mono ?_
              rintro e w8 ⟨rfl, h8, a8⟩
              have t8 := t7.apart h7 a8
              have u8 := u7.apart h7 a8
              have a18 := a17.trans a8
              clear t7 u7 h7 a17 a8
              have RE := rough_evs_any w8 _ _ l t ln tn t8 u8
              cases hB : (decide (0 < ln) && decide (0 < tn) || sameI l t)
              · rw [hB] at RE HF
                have RE := hide RE
                clear hB
                go_wp2_with fail
                refine (unhide RE).mono ?_
                rintro e w9 ⟨rfl, n9, rfl⟩
                go_wp2_with fail
                refine (pairI_any _ _ _).mono ?_
                rintro e w10 ⟨rfl, rfl⟩
                go_wp2_with fail
                go_ret2
                rw [HF.out]
                exact ⟨_, rfl, TI.pair (t8.drewN n9) (u8.drewN n9), (h8.drewN n9).alloc _, by omega, (a18.trans (Apart.drewN b w8 n9)).alloc _⟩
              · rw [hB] at RE HF
                have RE := hide RE
                clear hB
                go_wp2_with fail
                refine (unhide RE).mono ?_
                rintro e w9 ⟨rfl, n9, rfl⟩
                go_wp2_with fail
                refine (rough_any b s (i4 + 1) r4 i _ (h8.drewN n9)).mono ?_
                rintro e w10 ⟨rfl, h10, a10⟩
                have t10 := (t8.drewN n9).apart (h8.drewN n9) a10
                have u10 := (u8.drewN n9).apart (h8.drewN n9) a10
                have a110 := (a18.trans (Apart.drewN b w8 n9)).trans a10
                clear t8 u8 h8 a18 a10
                go_wp2_with fail
                refine (pairI_any _ _ _).mono ?_
                rintro e w11 ⟨rfl, rfl⟩
                go_wp2_with fail
                go_ret2
                rw [HF.out]
                exact ⟨_, rfl, TI.pair t10 u10, h10.alloc _, by omega, a110.alloc _⟩
            · have HF : Hid (evR s (h + 1) base i r = .bad i4) := evR_bad5 (unhide HO) (unhide F) (unhide G) (unhide F2) (unhide G2) (unhide F3) g3
              go_wp2_with fail
              refine (pass_bad b s i4 r4 41 _ h7 b7 g3).mono ?_
              rintro e w8 ⟨rfl, a8⟩
              refine ⟨rfl, ?_⟩
              rw [HF.out]
              exact ⟨rfl, a17.trans a8⟩
        · have HF : Hid (evR s (h + 1) base i r = .bad i2) := evR_bad3 (unhide HO) (unhide F) (unhide G) (unhide F2) g2
          go_wp2_with fail
          refine (pass_bad b s i2 r2 44 _ h5 b5 g2).mono ?_
          rintro e w6 ⟨rfl, a6⟩
          refine ⟨rfl, ?_⟩
          rw [HF.out]
          exact ⟨rfl, a15.trans a6⟩
    · have HF : Hid (evR s (h + 1) base i r = .bad i1) := evR_bad1 (unhide HO) (unhide F) g
      go_wp2_with fail
      refine (pass_bad b s i1 r 44 _ h3 n3 g).mono ?_
      rintro e w4 ⟨rfl, a4⟩
      refine ⟨rfl, ?_⟩
      rw [HF.out]
      exact ⟨rfl, a13.trans a4⟩

/-- The reader's ev, of any text, from any place. -/
theorem ev_any (b : Nat) (s : ByteArray) (hs : s.size ≤ 20000) : ∀ (h : Nat), h < 9 → ∀ (base i r : Nat) (w : World), base ≤ (99 - h) * 1099511627776 → Rd b s i r w → i ≤ s.size →
    Calls Tryd.prog 76 #[.pointer (some ⟨b, 0, none⟩), .int .i64 (h : Nat), .int .i64 (base : Nat)] w fun e w' => EvEnd b s w (evR s h base i r) e w' := by
  intro h
  induction h with
  | zero =>
    intro _ base i r w hb h0 hi
    by_cases c0 : nx s i = 40
    · rw [evR_deep c0]; exact ev_deep b s i r base w h0 hi c0
    · exact ev_num b s i r 0 base w h0 hs hi (by omega) c0
  | succ h ih =>
    intro hh base i r w hb h0 hi
    by_cases c0 : nx s i = 40
    · exact ev_pair b s hs h (by omega) (hide (ih (by omega))) base i r w hb h0 c0
    · exact ev_num b s i r (h + 1) base w h0 hs hi (by omega) c0

end Go.Proofs.YtoebmfhgaalcdaaDoor
