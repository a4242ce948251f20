/-
  Our own. The reader's num: what a call does.
-/
import Derived.Test.YtoebmfhgaalcdaaGreatDoorWalk1
import Derived.Test.YtoebmfhgaalcdaaGreatDoorPlain
import Derived.Deep.LoopGhost
import Derived.Test.YtoebmfhgaalcdaaGreatDoorTrees
namespace Go.Proofs.YtoebmfhgaalcdaaGreatDoor
open Go.RowKit

/-- What a call of num leaves. -/
def NumEnd (b : Nat) (s : ByteArray) (r : Nat) (w : World) (o : Nm) (e : Ending) (w' : World) : Prop :=
  match o with
  | ⟨.inl (n, j)⟩ => e = .returned (.int .i64 n) ∧ Rd b s j r w' ∧ Apart b w w'
  | ⟨.inr j⟩ => e = .panicked (thrown 2 j) ∧ Apart b w w'

set_option maxHeartbeats 400000 in
theorem num_none (b : Nat) (s : ByteArray) (i r : Nat) (w : World) (h : Rd b s i r w) (hi : i ≤ s.size) (hd : isDig (nx s i) = false) :
    Calls Tryz.prog 135 #[.pointer (some ⟨b, 0, none⟩)] w fun e w' => e = .panicked (thrown 2 i) ∧ Apart b w w' := by
  go_enter Tryz.func135, Tryz.ntmps135
  go_wp2_with fail
  refine (next_k b s i r _ h hi).mono ?_
  rintro e w1 ⟨rfl, h1, a1⟩
  go_wp2_with fail
  refine (isDigit_any _ _).mono ?_
  rintro e w' ⟨rfl, rfl⟩
  go_wp2_with fail
  refine (giveUp_any b s i r _ h1).mono ?_
  rintro e w' ⟨rfl, rfl⟩
  exact ⟨rfl, rfl, a1⟩

set_option maxHeartbeats 400000 in
theorem num_nought (b : Nat) (s : ByteArray) (i r : Nat) (w : World) (h : Rd b s i r w) (hs : s.size ≤ 20000) (hi : i < s.size) (hd : nx s i = 48) :
    Calls Tryz.prog 135 #[.pointer (some ⟨b, 0, none⟩)] w fun e w' => e = .returned (.int .i64 0) ∧ Rd b s (i + 1) r w' ∧ Apart b w w' := by
  have hg : isDig (nx s i) = true := by rw [hd]; rfl
  have he : ((nx s i : Int) == 48) = true := beq_iff_eq.2 (by omega)
  have HD : Hid (nx s i = 48) := hd
  clear hd
  go_enter Tryz.func135, Tryz.ntmps135
  go_wp2_with fail
  refine (next_k b s i r _ h (by omega)).mono ?_
  rintro e w1 ⟨rfl, h1, a1⟩
  go_wp2_with fail
  refine (isDigit_any _ _).mono ?_
  rintro e w' ⟨rfl, rfl⟩
  go_wp2_with fail
  refine (next_k b s i r _ h1 (by omega)).mono ?_
  rintro e w2 ⟨rfl, h2, a2⟩
  go_wp2_with fail
  refine (pass_ok b s i r 48 _ h2 hs hi HD.out).mono ?_
  rintro e w3 ⟨rfl, h3, a3⟩
  go_wp2_with fail
  go_ret
  exact ⟨rfl, h3, (a1.trans a2).trans a3⟩

set_option maxHeartbeats 400000 in
theorem num_some (b : Nat) (s : ByteArray) (i r : Nat) (w : World) (h : Rd b s i r w) (hs : s.size ≤ 20000) (hi : i < s.size) (hd : nx s i ≠ 48) (hg : isDig (nx s i) = true) :
    Calls Tryz.prog 135 #[.pointer (some ⟨b, 0, none⟩)] w fun e w' => NumEnd b s r w (numGo s (s.size + 1 - i) i 0) e w' := by
  have he : ((nx s i : Int) == 48) = false := beq_eq_false_iff_ne.2 (by omega)
  go_enter Tryz.func135, Tryz.ntmps135
  go_wp2_with fail
  refine (next_k b s i r _ h (by omega)).mono ?_
  rintro e w1 ⟨rfl, h1, a1⟩
  go_wp2_with fail
  refine (isDigit_any _ _).mono ?_
  rintro e w' ⟨rfl, rfl⟩
  go_wp2_with fail
  refine (next_k b s i r _ h1 (by omega)).mono ?_
  rintro e w2 ⟨rfl, h2, a2⟩
  go_wp2_with fail
  have a12 := a1.trans a2
  clear hd hg he h h1 a1 a2
  go_loopg [3] (s.size + 1 - i) (fun k v wr => ∃ j n : Nat, k = s.size + 1 - j ∧ j ≤ s.size ∧ n ≤ 1099511627776 ∧ v = .int .i64 n ∧ Rd b s j r wr ∧ Apart b w wr ∧ numGo s (s.size + 1 - i) i 0 = numGo s (s.size + 1 - j) j n)
  case atStart => exact ⟨i, 0, rfl, by omega, by omega, rfl, h2, a12, rfl⟩
  case round =>
    obtain ⟨j, n, hk, hj, hn, rfl, hr, ha, hgo⟩ := hrel
    have HG : Hid (numGo s (s.size + 1 - i) i 0 = numGo s (s.size + 1 - j) j n) := hgo
    have HK : Hid (gk = s.size + 1 - j) := hk
    clear hgo hk h2 a12
    cases hg : isDig (nx s j)
    · go_wp2_with fail
      refine (next_k b s j r _ hr hj).mono ?_
      rintro e w3 ⟨rfl, h3, a3⟩
      go_wp2_with fail
      refine (isDigit_any _ _).mono ?_
      rintro e w' ⟨rfl, rfl⟩
      go_wp2_with fail
      go_ret
      rw [HG.out, numGo_end s j n hj hg]
      exact ⟨rfl, h3, ha.trans a3⟩
    · obtain ⟨d1, d2⟩ := (isDig_iff _).1 hg
      have hlt : j < s.size := lt_of_nx s j (by omega)
      have d3 : (48 : Int) ≤ (nx s j : Int) := by omega
      have d4 : (nx s j : Int) ≤ 57 := by omega
      go_wp2_with fail
      refine (next_k b s j r _ hr hj).mono ?_
      rintro e w3 ⟨rfl, h3, a3⟩
      go_wp2_with fail
      refine (isDigit_any _ _).mono ?_
      rintro e w' ⟨rfl, rfl⟩
      go_wp2_with fail
      refine (next_k b s j r _ h3 hj).mono ?_
      rintro e w4 ⟨rfl, h4, a4⟩
      by_cases hov : 1099511627776 < 10 * n + (nx s j - 48)
      · go_wp2_with fail
        refine (giveUp_any b s j r _ h4).mono ?_
        rintro e w5 ⟨rfl, rfl⟩
        refine ⟨rfl, ?_⟩
        rw [HG.out, numGo_bad s j n hlt hg hov]
        exact ⟨rfl, (ha.trans a3).trans a4⟩
      · obtain ⟨c0, c1, c2, cf⟩ := h4.cells
        go_wp2_with fail
        go_roundg (s.size + 1 - (j + 1))
        case measure => rw [HK.out]; omega
        case rel =>
          refine ⟨j + 1, 10 * n + (nx s j - 48), rfl, by omega, by omega, ?_, h4.setAt (j + 1), ((ha.trans a3).trans a4).setCell rfl _, ?_⟩
          · have e : ((10 * n + (nx s j - 48) : Nat) : Int) = 10 * (n : Int) + ((nx s j : Int) - 48) := by omega
            rw [e]
          · rw [HG.out, numGo_step s j n hlt hg hov]

theorem num_any (b : Nat) (s : ByteArray) (i r : Nat) (w : World) (h : Rd b s i r w) (hs : s.size ≤ 20000) (hi : i ≤ s.size) :
    Calls Tryz.prog 135 #[.pointer (some ⟨b, 0, none⟩)] w fun e w' => NumEnd b s r w (numR s i) e w' := by
  unfold numR
  cases hg : isDig (nx s i)
  · exact num_none b s i r w h hi hg
  · have hlt : i < s.size := lt_of_nx s i (by have := (isDig_iff _).1 hg; omega)
    simp only [Bool.true_eq_false, if_false]
    by_cases hd : nx s i = 48
    · rw [if_pos hd]; exact num_nought b s i r w h hs hlt hd
    · rw [if_neg hd]; exact num_some b s i r w h hs hlt hd hg

end Go.Proofs.YtoebmfhgaalcdaaGreatDoor

namespace Go.Proofs.YtoebmfhgaalcdaaGreatDoor
open Go.RowKit

/-- What a call of id leaves. -/
def IdEnd (b : Nat) (s : ByteArray) (w : World) (o : Rs (Tr Bool)) (e : Ending) (w' : World) : Prop :=
  match o with
  | ⟨.inl (t, j, r)⟩ => ∃ v, e = .returned v ∧ TB w' v t ∧ Rd b s j r w' ∧ j ≤ s.size ∧ Apart b w w'
  | ⟨.inr j⟩ => e = .panicked (thrown 2 j) ∧ Apart b w w'

theorem heap_new (w : World) (o : Obj) : (w.alloc o).heap[w.heap.size]? = some o := by
  show (w.heap.push o)[w.heap.size]? = _
  simp

theorem TB.leaf (w : World) (a : Bool) : TB (w.alloc (.cells #[.bool a, .pointer none, .pointer none] 92)) (.pointer (some ⟨w.heap.size, 0, none⟩)) (.leaf a) :=
  ⟨_, rfl, heap_new w _⟩

set_option maxHeartbeats 400000 in
theorem id_leaf0 (b : Nat) (s : ByteArray) (i r k : Nat) (w : World) (h : Rd b s i r w) (hs : s.size ≤ 20000) (hc : nx s i = 48) :
    Calls Tryz.prog 97 #[.pointer (some ⟨b, 0, none⟩), .int .i64 k] w fun e w' => IdEnd b s w (.ok (.leaf false) (i + 1) r) e w' := by
  have hi : i < s.size := lt_of_nx s i (by omega)
  have he : ((nx s i : Int) == 48) = true := beq_iff_eq.2 (by omega)
  have HC : Hid (nx s i = 48) := hc
  clear hc
  go_enter Tryz.func97, Tryz.ntmps97
  go_wp2_with fail
  refine (next_k b s i r _ h (by omega)).mono ?_
  rintro e w1 ⟨rfl, h1, a1⟩
  go_wp2_with fail
  refine (pass_ok b s i r 48 _ h1 hs hi HC.out).mono ?_
  rintro e w2 ⟨rfl, h2, a2⟩
  go_wp2_with fail
  refine (leafB_any false _).mono ?_
  rintro e w3 ⟨rfl, rfl⟩
  go_wp2_with fail
  go_ret
  exact ⟨_, rfl, TB.leaf w2 false, h2.alloc _, by omega, (a1.trans a2).alloc _⟩

set_option maxHeartbeats 400000 in
theorem id_leaf1 (b : Nat) (s : ByteArray) (i r k : Nat) (w : World) (h : Rd b s i r w) (hs : s.size ≤ 20000) (hc : nx s i = 49) :
    Calls Tryz.prog 97 #[.pointer (some ⟨b, 0, none⟩), .int .i64 k] w fun e w' => IdEnd b s w (.ok (.leaf true) (i + 1) r) e w' := by
  have hi : i < s.size := lt_of_nx s i (by omega)
  have he : ((nx s i : Int) == 48) = false := beq_eq_false_iff_ne.2 (by omega)
  have he2 : ((nx s i : Int) == 49) = true := beq_iff_eq.2 (by omega)
  have HC : Hid (nx s i = 49) := hc
  clear hc
  go_enter Tryz.func97, Tryz.ntmps97
  go_wp2_with fail
  refine (next_k b s i r _ h (by omega)).mono ?_
  rintro e w1 ⟨rfl, h1, a1⟩
  go_wp2_with fail
  refine (pass_ok b s i r 49 _ h1 hs hi HC.out).mono ?_
  rintro e w2 ⟨rfl, h2, a2⟩
  go_wp2_with fail
  refine (leafB_any true _).mono ?_
  rintro e w3 ⟨rfl, rfl⟩
  go_wp2_with fail
  go_ret
  exact ⟨_, rfl, TB.leaf w2 true, h2.alloc _, by omega, (a1.trans a2).alloc _⟩

set_option maxHeartbeats 400000 in
theorem id_deep (b : Nat) (s : ByteArray) (i r : Nat) (w : World) (h : Rd b s i r w) (hi : i ≤ s.size) (hc : nx s i ≠ 48) (hd : nx s i ≠ 49) :
    Calls Tryz.prog 97 #[.pointer (some ⟨b, 0, none⟩), .int .i64 0] w fun e w' => IdEnd b s w (.bad i) e w' := by
  have he : ((nx s i : Int) == 48) = false := beq_eq_false_iff_ne.2 (by omega)
  have he2 : ((nx s i : Int) == 49) = false := beq_eq_false_iff_ne.2 (by omega)
  clear hc hd
  go_enter Tryz.func97, Tryz.ntmps97
  go_wp2_with fail
  refine (next_k b s i r _ h hi).mono ?_
  rintro e w1 ⟨rfl, h1, a1⟩
  go_wp2_with fail
  refine (open_none b s i r _ h1).mono ?_
  rintro e w2 ⟨rfl, a2⟩
  exact ⟨rfl, rfl, a1.trans a2⟩

set_option maxHeartbeats 400000 in
theorem id_bad0 (b : Nat) (s : ByteArray) (i r k : Nat) (w : World) (h : Rd b s i r w) (hi : i ≤ s.size) (hk : 0 < k) (hc : nx s i ≠ 48) (hd : nx s i ≠ 49) (ho : nx s i ≠ 40) :
    Calls Tryz.prog 97 #[.pointer (some ⟨b, 0, none⟩), .int .i64 k] w fun e w' => IdEnd b s w (.bad i) e w' := by
  have he : ((nx s i : Int) == 48) = false := beq_eq_false_iff_ne.2 (by omega)
  have he2 : ((nx s i : Int) == 49) = false := beq_eq_false_iff_ne.2 (by omega)
  have HO : Hid (nx s i ≠ 40) := ho
  clear hc hd ho
  go_enter Tryz.func97, Tryz.ntmps97
  go_wp2_with fail
  refine (next_k b s i r _ h hi).mono ?_
  rintro e w1 ⟨rfl, h1, a1⟩
  go_wp2_with fail
  refine (open_bad b s i r k _ h1 hi HO.out hk).mono ?_
  rintro e w2 ⟨rfl, a2⟩
  exact ⟨rfl, rfl, a1.trans a2⟩

theorem TB.pair {w : World} {p q : Option Addr} {l t : Tr Bool} (hl : TB w (.pointer p) l) (ht : TB w (.pointer q) t) :
    TB (w.alloc (.cells #[.bool false, .pointer p, .pointer q] 92)) (.pointer (some ⟨w.heap.size, 0, none⟩)) (.pair l t) :=
  ⟨_, _, _, rfl, heap_new w _, TB.below ((Below.refl _ _).alloc (Nat.le_refl _) _) hl, TB.below ((Below.refl _ _).alloc (Nat.le_refl _) _) ht⟩

set_option maxHeartbeats 1000000 in
theorem id_pair (b : Nat) (s : ByteArray) (hs : s.size ≤ 20000) (h : Nat) (hh : h < 100)
    (ih : Hid (∀ (i r : Nat) (w : World), Rd b s i r w → i ≤ s.size → Calls Tryz.prog 97 #[.pointer (some ⟨b, 0, none⟩), .int .i64 (h : Nat)] w fun e w' => IdEnd b s w (idR s h i r) e w'))
    (i r : Nat) (w : World) (h0 : Rd b s i r w) (ho : nx s i = 40) :
    Calls Tryz.prog 97 #[.pointer (some ⟨b, 0, none⟩), .int .i64 ((h + 1 : Nat) : Int)] w fun e w' => IdEnd b s w (idR s (h + 1) i r) e w' := by
  have hi : i < s.size := lt_of_nx s i (by omega)
  have he : ((nx s i : Int) == 48) = false := beq_eq_false_iff_ne.2 (by omega)
  have he2 : ((nx s i : Int) == 49) = false := beq_eq_false_iff_ne.2 (by omega)
  have HO : Hid (nx s i = 40) := ho
  clear ho
  go_enter Tryz.func97, Tryz.ntmps97
  go_wp2_with fail
  refine (next_k b s i r _ h0 (by omega)).mono ?_
  rintro e w1 ⟨rfl, h1, a1⟩
  go_wp2_with fail
  refine (open_ok b s i r (h + 1) _ h1 hs hi HO.out (by omega)).mono ?_
  rintro e w2 ⟨rfl, h2, a2⟩
  have a12 := a1.trans a2
  clear a1 a2 h1 h0
  cases f1 : idR s h (i + 1) r using Rs.cs with
  | bad j =>
    have HF : Hid (idR s (h + 1) i r = .bad j) := idR_bad1 HO.out f1
    have IH := ih.out (i + 1) r w2 h2 (by omega)
    rw [f1] at IH
    clear f1
    have IH := hide IH
    go_wp2_with fail
    refine (unhide IH).mono ?_
    rintro e w3 ⟨rfl, a3⟩
    refine ⟨rfl, ?_⟩
    rw [HF.out]
    exact ⟨rfl, a12.trans a3⟩
  | ok l i2 r2 =>
    have IH := ih.out (i + 1) r w2 h2 (by omega)
    rw [f1] at IH
    have F1 := hide f1
    have IH := hide IH
    clear f1
    go_wp2_with fail
    refine (unhide IH).mono ?_
    rintro e w3 ⟨v, rfl, t3, h3, b3, a3⟩
    clear IH
    obtain ⟨m, rfl⟩ := TA.root t3
    have a13 := a12.trans a3
    clear a12 a3 h2
    by_cases g : nx s i2 = 44
    · have G := hide g
      clear g
      have l2 : i2 < s.size := lt_of_nx s i2 (by rw [unhide G]; omega)
      go_wp2_with fail
      refine (pass_ok b s i2 r2 44 _ h3 hs l2 (unhide G)).mono ?_
      rintro e w4 ⟨rfl, h4, a4⟩
      have t4 := t3.apart h3 a4
      have a14 := a13.trans a4
      clear t3 h3 a13 a4
      cases f2 : idR s h (i2 + 1) r2 using Rs.cs with
      | bad j =>
        have HF : Hid (idR s (h + 1) i r = .bad j) := idR_bad3 HO.out (unhide F1) (unhide G) f2
        have IH := ih.out (i2 + 1) r2 w4 h4 (by omega)
        rw [f2] at IH
        clear f2
        have IH := hide IH
        go_wp2_with fail
        refine (unhide IH).mono ?_
        rintro e w5 ⟨rfl, a5⟩
        refine ⟨rfl, ?_⟩
        rw [HF.out]
        exact ⟨rfl, a14.trans a5⟩
      | ok t i4 r4 =>
        have IH := ih.out (i2 + 1) r2 w4 h4 (by omega)
        rw [f2] at IH
        have F2 := hide f2
        have IH := hide IH
        clear f2
        go_wp2_with fail
        refine (unhide IH).mono ?_
        rintro e w5 ⟨v, rfl, u5, h5, b5, a5⟩
        clear IH
        obtain ⟨m2, rfl⟩ := TA.root u5
        have t5 := t4.apart h4 a5
        have a15 := a14.trans a5
        clear a14 a5 h4 t4
        by_cases g2 : nx s i4 = 41
        · have l4 : i4 < s.size := lt_of_nx s i4 (by omega)
          have HF : Hid (idR s (h + 1) i r = .ok (.pair l t) (i4 + 1) (if sameB l t = true then min r4 i else r4)) := idR_pair HO.out (unhide F1) (unhide G) (unhide F2) g2
          have G2 := hide g2
          clear g2 F1 G F2
          go_wp2_with fail
          refine (pass_ok b s i4 r4 41 _ h5 hs l4 (unhide G2)).mono ?_
          rintro e w6 ⟨rfl, h6, a6⟩
          have t6 := t5.apart h5 a6
          have u6 := u5.apart h5 a6
          have a16 := a15.trans a6
          clear t5 u5 h5 a15 a6
          cases hsame : sameB l t
          · have SM := sameB_any w6 _ _ l t t6 u6
            rw [hsame] at SM
            rw [hsame] at HF
            have SM := hide SM
            clear hsame
            go_wp2_with fail
            refine (unhide SM).mono ?_
            rintro e w7 ⟨rfl, n7, rfl⟩
            go_wp2_with fail
            refine (pairB_any _ _ _).mono ?_
            rintro e w8 ⟨rfl, rfl⟩
            go_wp2_with fail
            go_ret
            rw [HF.out]
            exact ⟨_, rfl, TB.pair (t6.drewN n7) (u6.drewN n7), (h6.drewN n7).alloc _, by omega, (a16.trans (Apart.drewN b w6 n7)).alloc _⟩
          · have SM := sameB_any w6 _ _ l t t6 u6
            rw [hsame] at SM
            rw [hsame] at HF
            have SM := hide SM
            clear hsame
            go_wp2_with fail
            refine (unhide SM).mono ?_
            rintro e w7 ⟨rfl, n7, rfl⟩
            go_wp2_with fail
            refine (rough_any b s (i4 + 1) r4 i _ (h6.drewN n7)).mono ?_
            rintro e w8 ⟨rfl, h8, a8⟩
            have t8 := (t6.drewN n7).apart (h6.drewN n7) a8
            have u8 := (u6.drewN n7).apart (h6.drewN n7) a8
            have a18 := (a16.trans (Apart.drewN b w6 n7)).trans a8
            clear t6 u6 h6 a16 a8
            go_wp2_with fail
            refine (pairB_any _ _ _).mono ?_
            rintro e w9 ⟨rfl, rfl⟩
            go_wp2_with fail
            go_ret
            rw [HF.out]
            exact ⟨_, rfl, TB.pair t8 u8, h8.alloc _, by omega, a18.alloc _⟩
        · have HF : Hid (idR s (h + 1) i r = .bad i4) := idR_bad4 HO.out (unhide F1) (unhide G) (unhide F2) g2
          go_wp2_with fail
          refine (pass_bad b s i4 r4 41 _ h5 b5 g2).mono ?_
          rintro e w6 ⟨rfl, a6⟩
          refine ⟨rfl, ?_⟩
          rw [HF.out]
          exact ⟨rfl, a15.trans a6⟩
    · have HF : Hid (idR s (h + 1) i r = .bad i2) := idR_bad2 HO.out (unhide F1) g
      go_wp2_with fail
      refine (pass_bad b s i2 r2 44 _ h3 b3 g).mono ?_
      rintro e w4 ⟨rfl, a4⟩
      refine ⟨rfl, ?_⟩
      rw [HF.out]
      exact ⟨rfl, a13.trans a4⟩

/-- The reader's id, of any text, from any place. -/
theorem id_any (b : Nat) (s : ByteArray) (hs : s.size ≤ 20000) : ∀ (h : Nat), h < 100 → ∀ (i r : Nat) (w : World), Rd b s i r w → i ≤ s.size →
    Calls Tryz.prog 97 #[.pointer (some ⟨b, 0, none⟩), .int .i64 (h : Nat)] w fun e w' => IdEnd b s w (idR s h i r) e w' := by
  intro h
  induction h with
  | zero =>
    intro _ i r w h0 hi
    by_cases c0 : nx s i = 48
    · rw [idR_zero 0 c0]; exact id_leaf0 b s i r 0 w h0 hs c0
    · by_cases c1 : nx s i = 49
      · rw [idR_one 0 c1]; exact id_leaf1 b s i r 0 w h0 hs c1
      · rw [idR_deep c0 c1]; exact id_deep b s i r w h0 hi c0 c1
  | succ h ih =>
    intro hh i r w h0 hi
    by_cases c0 : nx s i = 48
    · rw [idR_zero _ c0]; exact id_leaf0 b s i r (h + 1) w h0 hs c0
    · by_cases c1 : nx s i = 49
      · rw [idR_one _ c1]; exact id_leaf1 b s i r (h + 1) w h0 hs c1
      · by_cases c2 : nx s i = 40
        · exact id_pair b s hs h (by omega) (hide (ih (by omega))) i r w h0 c2
        · rw [idR_bad0 c0 c1 c2]; exact id_bad0 b s i r (h + 1) w h0 hi (by omega) c0 c1 c2

end Go.Proofs.YtoebmfhgaalcdaaGreatDoor

namespace Go.Proofs.YtoebmfhgaalcdaaGreatDoor
open Go.RowKit

/-- What a call of ev leaves. -/
def EvEnd (b : Nat) (s : ByteArray) (w : World) (o : Rs (Tr Nat × Nat)) (e : Ending) (w' : World) : Prop :=
  match o with
  | ⟨.inl ((t, n), j, r)⟩ => ∃ v, e = .returned (.tuple #[v, .int .i64 n]) ∧ TI w' v t ∧ Rd b s j r w' ∧ j ≤ s.size ∧ Apart b w w'
  | ⟨.inr j⟩ => e = .panicked (thrown 2 j) ∧ Apart b w w'

theorem TI.leaf (w : World) (a : Nat) : TI (w.alloc (.cells #[.int .i64 a, .pointer none, .pointer none] 139)) (.pointer (some ⟨w.heap.size, 0, none⟩)) (.leaf a) :=
  ⟨_, rfl, heap_new w _⟩
theorem TI.pair {w : World} {p q : Option Addr} {l t : Tr Nat} (hl : TI w (.pointer p) l) (ht : TI w (.pointer q) t) :
    TI (w.alloc (.cells #[.int .i64 0, .pointer p, .pointer q] 139)) (.pointer (some ⟨w.heap.size, 0, none⟩)) (.pair l t) :=
  ⟨_, _, _, rfl, heap_new w _, TI.below ((Below.refl _ _).alloc (Nat.le_refl _) _) hl, TI.below ((Below.refl _ _).alloc (Nat.le_refl _) _) ht⟩

set_option maxHeartbeats 400000 in
theorem ev_num (b : Nat) (s : ByteArray) (i r k base : Nat) (w : World) (h : Rd b s i r w) (hs : s.size ≤ 20000) (hi : i ≤ s.size) (hb : base ≤ 109951162777600) (hc : nx s i ≠ 40) :
    Calls Tryz.prog 99 #[.pointer (some ⟨b, 0, none⟩), .int .i64 k, .int .i64 base] w fun e w' => EvEnd b s w (evR s k base i r) e w' := by
  have he : ((nx s i : Int) != 40) = true := by rw [bne_iff_ne]; omega
  cases f : numR s i using Nm.cs with
  | bad j =>
    have HF : Hid (evR s k base i r = .bad j) := evR_numbad k hc f
    have NM := fun w1 (h1 : Rd b s i r w1) => num_any b s i r w1 h1 hs hi
    rw [f] at NM
    have NM := hide NM
    clear f hc
    go_enter Tryz.func99, Tryz.ntmps99
    go_wp2_with fail
    refine (next_k b s i r _ h hi).mono ?_
    rintro e w1 ⟨rfl, h1, a1⟩
    go_wp2_with fail
    refine (unhide NM _ h1).mono ?_
    rintro e w2 ⟨rfl, a2⟩
    refine ⟨rfl, ?_⟩
    rw [HF.out]
    exact ⟨rfl, a1.trans a2⟩
  | ok n j =>
    have HF : Hid (evR s k base i r = .ok (.leaf (base + n), n) j r) := evR_num k hc f
    obtain ⟨n1, n2, n3⟩ := numR_ok hi f
    have NM := fun w1 (h1 : Rd b s i r w1) => num_any b s i r w1 h1 hs hi
    rw [f] at NM
    have NM := hide NM
    clear f hc
    go_enter Tryz.func99, Tryz.ntmps99
    go_wp2_with fail
    refine (next_k b s i r _ h hi).mono ?_
    rintro e w1 ⟨rfl, h1, a1⟩
    go_wp2_with fail
    refine (unhide NM _ h1).mono ?_
    rintro e w2 ⟨rfl, h2, a2⟩
    go_wp2_with fail
    refine (leafI_any _ _).mono ?_
    rintro e w3 ⟨rfl, rfl⟩
    go_wp2_with fail
    go_ret2
    rw [HF.out]
    exact ⟨_, rfl, TI.leaf w2 (base + n), h2.alloc _, n3, (a1.trans a2).alloc _⟩

set_option maxHeartbeats 400000 in
theorem ev_deep (b : Nat) (s : ByteArray) (i r : Nat) (base : Int) (w : World) (h : Rd b s i r w) (hi : i ≤ s.size) (hc : nx s i = 40) :
    Calls Tryz.prog 99 #[.pointer (some ⟨b, 0, none⟩), .int .i64 0, .int .i64 base] w fun e w' => EvEnd b s w (.bad i) e w' := by
  have he : ((nx s i : Int) != 40) = false := by rw [bne_eq_false_iff_eq]; omega
  clear hc
  go_enter Tryz.func99, Tryz.ntmps99
  go_wp2_with fail
  refine (next_k b s i r _ h hi).mono ?_
  rintro e w1 ⟨rfl, h1, a1⟩
  go_wp2_with fail
  refine (open_none b s i r _ h1).mono ?_
  rintro e w2 ⟨rfl, a2⟩
  exact ⟨rfl, rfl, a1.trans a2⟩

end Go.Proofs.YtoebmfhgaalcdaaGreatDoor

namespace Go.Proofs.YtoebmfhgaalcdaaGreatDoor
open Go.RowKit

set_option maxHeartbeats 400000 in
/-- Do two EVs make a pair that is not plain? -/
theorem rough_evs_any (w : World) (x y : Value) (l t : Tr Nat) (ln tn : Nat) (hl : TI w x l) (ht : TI w y t) :
    Calls Tryz.prog 121 #[x, y, .int .i64 (ln : Nat), .int .i64 (tn : Nat)] w fun e w' => e = .returned (.bool (decide (0 < ln) && decide (0 < tn) || sameI l t)) ∧ ∃ n, w' = w.drewN n := by
  have SM := sameI_any w x y l t hl ht
  obtain ⟨m, rfl⟩ := TA.root hl
  obtain ⟨m2, rfl⟩ := TA.root ht
  generalize sameI l t = S at *
  have SM := hide SM
  clear hl ht
  by_cases p : 0 < ln
  · have p1 : (0 : Int) < (ln : Int) := by omega
    by_cases q : 0 < tn
    · have q1 : (0 : Int) < (tn : Int) := by omega
      rw [decide_eq_true p, decide_eq_true q]
      go_enter Tryz.func121, Tryz.ntmps121
      go_wp2_with fail
      go_ret
      exact ⟨rfl, 0, rfl⟩
    · have q1 : ¬ (0 : Int) < (tn : Int) := by omega
      rw [decide_eq_true p, decide_eq_false q, Bool.and_false, Bool.false_or]
      go_enter Tryz.func121, Tryz.ntmps121
      go_wp2_with fail
      refine (unhide SM).mono ?_
      rintro e w9 ⟨rfl, n9, rfl⟩
      go_wp2_with fail
      go_ret
      exact ⟨rfl, n9, rfl⟩
  · have p1 : ¬ (0 : Int) < (ln : Int) := by omega
    rw [decide_eq_false p, Bool.false_and, Bool.false_or]
    go_enter Tryz.func121, Tryz.ntmps121
    go_wp2_with fail
    refine (unhide SM).mono ?_
    rintro e w9 ⟨rfl, n9, rfl⟩
    go_wp2_with fail
    go_ret
    exact ⟨rfl, n9, rfl⟩

set_option maxHeartbeats 2000000 in
theorem ev_pair (b : Nat) (s : ByteArray) (hs : s.size ≤ 20000) (h : Nat) (hh : h < 8)
    (ih : Hid (∀ (base i r : Nat) (w : World), base ≤ (99 - h) * 1099511627776 → Rd b s i r w → i ≤ s.size → Calls Tryz.prog 99 #[.pointer (some ⟨b, 0, none⟩), .int .i64 (h : Nat), .int .i64 (base : Nat)] w fun e w' => EvEnd b s w (evR s h base i r) e w'))
    (base i r : Nat) (w : World) (hb : base ≤ (99 - (h + 1)) * 1099511627776) (h0 : Rd b s i r w) (ho : nx s i = 40) :
    Calls Tryz.prog 99 #[.pointer (some ⟨b, 0, none⟩), .int .i64 ((h + 1 : Nat) : Int), .int .i64 (base : Nat)] w fun e w' => EvEnd b s w (evR s (h + 1) base i r) e w' := by
  have hi : i < s.size := lt_of_nx s i (by omega)
  have he : ((nx s i : Int) != 40) = false := by rw [bne_eq_false_iff_eq]; omega
  have hb2 : base ≤ 109951162777600 := by omega
  have HO := hide ho
  clear ho
  go_enter Tryz.func99, Tryz.ntmps99
  go_wp2_with fail
  refine (next_k b s i r _ h0 (by omega)).mono ?_
  rintro e w1 ⟨rfl, h1, a1⟩
  go_wp2_with fail
  refine (open_ok b s i r (h + 1) _ h1 hs hi (unhide HO) (by omega)).mono ?_
  rintro e w2 ⟨rfl, h2, a2⟩
  have a12 := a1.trans a2
  clear a1 a2 h1 h0
  cases f : numR s (i + 1) using Nm.cs with
  | bad j =>
    have HF : Hid (evR s (h + 1) base i r = .bad j) := evR_bad0 (unhide HO) f
    have NM := num_any b s (i + 1) r w2 h2 hs (by omega)
    rw [f] at NM
    have NM := hide NM
    clear f
    go_wp2_with fail
    refine (unhide NM).mono ?_
    rintro e w3 ⟨rfl, a3⟩
    refine ⟨rfl, ?_⟩
    rw [HF.out]
    exact ⟨rfl, a12.trans a3⟩
  | ok n i1 =>
    obtain ⟨n1, n2, n3⟩ := numR_ok (by omega) f
    have NM := num_any b s (i + 1) r w2 h2 hs (by omega)
    rw [f] at NM
    have NM := hide NM
    have F := hide f
    clear f
    go_wp2_with fail
    refine (unhide NM).mono ?_
    rintro e w3 ⟨rfl, h3, a3⟩
    have a13 := a12.trans a3
    clear NM h2 a12 a3
    by_cases g : nx s i1 = 44
    · have G := hide g
      clear g
      have l1 : i1 < s.size := lt_of_nx s i1 (by rw [unhide G]; omega)
      go_wp2_with fail
      refine (pass_ok b s i1 r 44 _ h3 hs l1 (unhide G)).mono ?_
      rintro e w4 ⟨rfl, h4, a4⟩
      have a14 := a13.trans a4
      clear h3 a13 a4
      cases f2 : evR s h (base + n) (i1 + 1) r using Rs.cs with
      | bad j =>
        have HF : Hid (evR s (h + 1) base i r = .bad j) := evR_bad2 (unhide HO) (unhide F) (unhide G) f2
        have IH := ih.out (base + n) (i1 + 1) r w4 (by omega) h4 (by omega)
        rw [f2] at IH
        clear f2
        have IH := hide IH
        go_wp2_with fail
        refine (unhide IH).mono ?_
        rintro e w5 ⟨rfl, a5⟩
        refine ⟨rfl, ?_⟩
        rw [HF.out]
        exact ⟨rfl, a14.trans a5⟩
      | ok o i2 r2 =>
        obtain ⟨l, ln⟩ := o
        have IH := ih.out (base + n) (i1 + 1) r w4 (by omega) h4 (by omega)
        rw [f2] at IH
        have F2 := hide f2
        have IH := hide IH
        clear f2
        go_wp2_with fail
        refine (unhide IH).mono ?_
        rintro e w5 ⟨v, rfl, t5, h5, b5, a5⟩
        clear IH
        obtain ⟨m, rfl⟩ := TA.root t5
        have a15 := a14.trans a5
        clear a14 a5 h4
        by_cases g2 : nx s i2 = 44
        · have G2 := hide g2
          clear g2
          have l2 : i2 < s.size := lt_of_nx s i2 (by rw [unhide G2]; omega)
          go_wp2_with fail
          refine (pass_ok b s i2 r2 44 _ h5 hs l2 (unhide G2)).mono ?_
          rintro e w6 ⟨rfl, h6, a6⟩
          have t6 := t5.apart h5 a6
          have a16 := a15.trans a6
          clear t5 h5 a15 a6
          cases f3 : evR s h (base + n) (i2 + 1) r2 using Rs.cs with
          | bad j =>
            have HF : Hid (evR s (h + 1) base i r = .bad j) := evR_bad4 (unhide HO) (unhide F) (unhide G) (unhide F2) (unhide G2) f3
            have IH := ih.out (base + n) (i2 + 1) r2 w6 (by omega) h6 (by omega)
            rw [f3] at IH
            clear f3
            have IH := hide IH
            go_wp2_with fail
            refine (unhide IH).mono ?_
            rintro e w7 ⟨rfl, a7⟩
            refine ⟨rfl, ?_⟩
            rw [HF.out]
            exact ⟨rfl, a16.trans a7⟩
          | ok o i4 r4 =>
            obtain ⟨t, tn⟩ := o
            have IH := ih.out (base + n) (i2 + 1) r2 w6 (by omega) h6 (by omega)
            rw [f3] at IH
            have F3 := hide f3
            have IH := hide IH
            clear f3
            go_wp2_with fail
            refine (unhide IH).mono ?_
            rintro e w7 ⟨v, rfl, u7, h7, b7, a7⟩
            clear IH
            obtain ⟨m2, rfl⟩ := TA.root u7
            have t7 := t6.apart h6 a7
            have a17 := a16.trans a7
            clear a16 a7 h6 t6
            by_cases g3 : nx s i4 = 41
            · have l4 : i4 < s.size := lt_of_nx s i4 (by omega)
              have HF : Hid (evR s (h + 1) base i r = .ok (.pair l t, n) (i4 + 1) (if (decide (0 < ln) && decide (0 < tn) || sameI l t) = true then min r4 i else r4)) := evR_pair (unhide HO) (unhide F) (unhide G) (unhide F2) (unhide G2) (unhide F3) g3
              have G3 := hide g3
              clear g3 F G F2 G2 F3
              go_wp2_with fail
              refine (pass_ok b s i4 r4 41 _ h7 hs l4 (unhide G3)).mono ?_
              rintro e w8 ⟨rfl, h8, a8⟩
              have t8 := t7.apart h7 a8
              have u8 := u7.apart h7 a8
              have a18 := a17.trans a8
              clear t7 u7 h7 a17 a8
              have RE := rough_evs_any w8 _ _ l t ln tn t8 u8
              cases hB : (decide (0 < ln) && decide (0 < tn) || sameI l t)
              · rw [hB] at RE HF
                have RE := hide RE
                clear hB
                go_wp2_with fail
                refine (unhide RE).mono ?_
                rintro e w9 ⟨rfl, n9, rfl⟩
                go_wp2_with fail
                refine (pairI_any _ _ _).mono ?_
                rintro e w10 ⟨rfl, rfl⟩
                go_wp2_with fail
                go_ret2
                rw [HF.out]
                exact ⟨_, rfl, TI.pair (t8.drewN n9) (u8.drewN n9), (h8.drewN n9).alloc _, by omega, (a18.trans (Apart.drewN b w8 n9)).alloc _⟩
              · rw [hB] at RE HF
                have RE := hide RE
                clear hB
                go_wp2_with fail
                refine (unhide RE).mono ?_
                rintro e w9 ⟨rfl, n9, rfl⟩
                go_wp2_with fail
                refine (rough_any b s (i4 + 1) r4 i _ (h8.drewN n9)).mono ?_
                rintro e w10 ⟨rfl, h10, a10⟩
                have t10 := (t8.drewN n9).apart (h8.drewN n9) a10
                have u10 := (u8.drewN n9).apart (h8.drewN n9) a10
                have a110 := (a18.trans (Apart.drewN b w8 n9)).trans a10
                clear t8 u8 h8 a18 a10
                go_wp2_with fail
                refine (pairI_any _ _ _).mono ?_
                rintro e w11 ⟨rfl, rfl⟩
                go_wp2_with fail
                go_ret2
                rw [HF.out]
                exact ⟨_, rfl, TI.pair t10 u10, h10.alloc _, by omega, a110.alloc _⟩
            · have HF : Hid (evR s (h + 1) base i r = .bad i4) := evR_bad5 (unhide HO) (unhide F) (unhide G) (unhide F2) (unhide G2) (unhide F3) g3
              go_wp2_with fail
              refine (pass_bad b s i4 r4 41 _ h7 b7 g3).mono ?_
              rintro e w8 ⟨rfl, a8⟩
              refine ⟨rfl, ?_⟩
              rw [HF.out]
              exact ⟨rfl, a17.trans a8⟩
        · have HF : Hid (evR s (h + 1) base i r = .bad i2) := evR_bad3 (unhide HO) (unhide F) (unhide G) (unhide F2) g2
          go_wp2_with fail
          refine (pass_bad b s i2 r2 44 _ h5 b5 g2).mono ?_
          rintro e w6 ⟨rfl, a6⟩
          refine ⟨rfl, ?_⟩
          rw [HF.out]
          exact ⟨rfl, a15.trans a6⟩
    · have HF : Hid (evR s (h + 1) base i r = .bad i1) := evR_bad1 (unhide HO) (unhide F) g
      go_wp2_with fail
      refine (pass_bad b s i1 r 44 _ h3 n3 g).mono ?_
      rintro e w4 ⟨rfl, a4⟩
      refine ⟨rfl, ?_⟩
      rw [HF.out]
      exact ⟨rfl, a13.trans a4⟩

/-- The reader's ev, of any text, from any place. -/
theorem ev_any (b : Nat) (s : ByteArray) (hs : s.size ≤ 20000) : ∀ (h : Nat), h < 9 → ∀ (base i r : Nat) (w : World), base ≤ (99 - h) * 1099511627776 → Rd b s i r w → i ≤ s.size →
    Calls Tryz.prog 99 #[.pointer (some ⟨b, 0, none⟩), .int .i64 (h : Nat), .int .i64 (base : Nat)] w fun e w' => EvEnd b s w (evR s h base i r) e w' := by
  intro h
  induction h with
  | zero =>
    intro _ base i r w hb h0 hi
    by_cases c0 : nx s i = 40
    · rw [evR_deep c0]; exact ev_deep b s i r base w h0 hi c0
    · exact ev_num b s i r 0 base w h0 hs hi (by omega) c0
  | succ h ih =>
    intro hh base i r w hb h0 hi
    by_cases c0 : nx s i = 40
    · exact ev_pair b s hs h (by omega) (hide (ih (by omega))) base i r w hb h0 c0
    · exact ev_num b s i r (h + 1) base w h0 hs hi (by omega) c0

end Go.Proofs.YtoebmfhgaalcdaaGreatDoor
