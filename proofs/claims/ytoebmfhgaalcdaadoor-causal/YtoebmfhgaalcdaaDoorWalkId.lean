/-
  Our own. The reader's id: what a call does, of any text, from any place.
-/
import Derived.Test.YtoebmfhgaalcdaaDoorWalkNum
import Derived.Test.YtoebmfhgaalcdaaDoorTrees
namespace Go.Proofs.YtoebmfhgaalcdaaDoor
open Go.RowKit

/-- What a call of id leaves. -/
def IdEnd (b : Nat) (s : ByteArray) (w : World) (o : Rs (Tr Bool)) (e : Ending) (w' : World) : Prop :=
  match o with
  | ⟨.inl (t, j, r)⟩ => ∃ v, e = .returned v ∧ TB w' v t ∧ Rd b s j r w' ∧ j ≤ s.size ∧ Apart b w w'
  | ⟨.inr j⟩ => e = .panicked (thrown 2 j) ∧ Apart b w w'

theorem heap_new (w : World) (o : Obj) : (w.alloc o).heap[w.heap.size]? = some o := by
  show (w.heap.push o)[w.heap.size]? = _
  simp

theorem TB.leaf (w : World) (a : Bool) : TB (w.alloc (.cells #[.bool a, .pointer none, .pointer none] 99)) (.pointer (some ⟨w.heap.size, 0, none⟩)) (.leaf a) :=
  ⟨_, rfl, heap_new w _⟩

set_option maxHeartbeats 400000 in
theorem id_leaf0 (b : Nat) (s : ByteArray) (i r k : Nat) (w : World) (h : Rd b s i r w) (hs : s.size ≤ 20000) (hc : nx s i = 48) :
    Calls Tryd.prog 74 #[.pointer (some ⟨b, 0, none⟩), .int .i64 k] w fun e w' => IdEnd b s w (.ok (.leaf false) (i + 1) r) e w' := by
  have hi : i < s.size := lt_of_nx s i (by omega)
  have he : ((nx s i : Int) == 48) = true := beq_iff_eq.2 (by omega)
  have HC : Hid (nx s i = 48) := hc
  clear hc
  go_enter Tryd.func74, Tryd.ntmps74
  go_wp2_with fail
  refine (next_k b s i r _ h (by omega)).mono ?_
  rintro e w1 ⟨rfl, h1, a1⟩
  go_wp2_with fail
  refine (pass_ok b s i r 48 _ h1 hs hi HC.out).mono ?_
  rintro e w2 ⟨rfl, h2, a2⟩
  go_wp2_with fail
  refine (leafB_any false _).mono ?_
  rintro e w3 ⟨rfl, rfl⟩
  go_wp2_with fail
  go_ret
  exact ⟨_, rfl, TB.leaf w2 false, h2.alloc _, by omega, (a1.trans a2).alloc _⟩

set_option maxHeartbeats 400000 in
theorem id_leaf1 (b : Nat) (s : ByteArray) (i r k : Nat) (w : World) (h : Rd b s i r w) (hs : s.size ≤ 20000) (hc : nx s i = 49) :
    Calls Tryd.prog 74 #[.pointer (some ⟨b, 0, none⟩), .int .i64 k] w fun e w' => IdEnd b s w (.ok (.leaf true) (i + 1) r) e w' := by
  have hi : i < s.size := lt_of_nx s i (by omega)
  have he : ((nx s i : Int) == 48) = false := beq_eq_false_iff_ne.2 (by omega)
  have he2 : ((nx s i : Int) == 49) = true := beq_iff_eq.2 (by omega)
  have HC : Hid (nx s i = 49) := hc
  clear hc
  go_enter Tryd.func74, Tryd.ntmps74
  go_wp2_with fail
  refine (next_k b s i r _ h (by omega)).mono ?_
  rintro e w1 ⟨rfl, h1, a1⟩
  go_wp2_with fail
  refine (pass_ok b s i r 49 _ h1 hs hi HC.out).mono ?_
  rintro e w2 ⟨rfl, h2, a2⟩
  go_wp2_with fail
  refine (leafB_any true _).mono ?_
  rintro e w3 ⟨rfl, rfl⟩
  go_wp2_with fail
  go_ret
  exact ⟨_, rfl, TB.leaf w2 true, h2.alloc _, by omega, (a1.trans a2).alloc _⟩

set_option maxHeartbeats 400000 in
theorem id_deep (b : Nat) (s : ByteArray) (i r : Nat) (w : World) (h : Rd b s i r w) (hi : i ≤ s.size) (hc : nx s i ≠ 48) (hd : nx s i ≠ 49) :
    Calls Tryd.prog 74 #[.pointer (some ⟨b, 0, none⟩), .int .i64 0] w fun e w' => IdEnd b s w (.bad i) e w' := by
  have he : ((nx s i : Int) == 48) = false := beq_eq_false_iff_ne.2 (by omega)
  have he2 : ((nx s i : Int) == 49) = false := beq_eq_false_iff_ne.2 (by omega)
  clear hc hd
  go_enter Tryd.func74, Tryd.ntmps74
  go_wp2_with fail
  refine (next_k b s i r _ h hi).mono ?_
  rintro e w1 ⟨rfl, h1, a1⟩
  go_wp2_with fail
  refine (open_none b s i r _ h1).mono ?_
  rintro e w2 ⟨rfl, a2⟩
  exact ⟨rfl, rfl, a1.trans a2⟩

set_option maxHeartbeats 400000 in
theorem id_bad0 (b : Nat) (s : ByteArray) (i r k : Nat) (w : World) (h : Rd b s i r w) (hi : i ≤ s.size) (hk : 0 < k) (hc : nx s i ≠ 48) (hd : nx s i ≠ 49) (ho : nx s i ≠ 40) :
    Calls Tryd.prog 74 #[.pointer (some ⟨b, 0, none⟩), .int .i64 k] w fun e w' => IdEnd b s w (.bad i) e w' := by
  have he : ((nx s i : Int) == 48) = false := beq_eq_false_iff_ne.2 (by omega)
  have he2 : ((nx s i : Int) == 49) = false := beq_eq_false_iff_ne.2 (by omega)
  have HO : Hid (nx s i ≠ 40) := ho
  clear hc hd ho
  go_enter Tryd.func74, Tryd.ntmps74
  go_wp2_with fail
  refine (next_k b s i r _ h hi).mono ?_
  rintro e w1 ⟨rfl, h1, a1⟩
  go_wp2_with fail
  refine (open_bad b s i r k _ h1 hi HO.out hk).mono ?_
  rintro e w2 ⟨rfl, a2⟩
  exact ⟨rfl, rfl, a1.trans a2⟩

theorem TB.pair {w : World} {p q : Option Addr} {l t : Tr Bool} (hl : TB w (.pointer p) l) (ht : TB w (.pointer q) t) :
    TB (w.alloc (.cells #[.bool false, .pointer p, .pointer q] 99)) (.pointer (some ⟨w.heap.size, 0, none⟩)) (.pair l t) :=
  ⟨_, _, _, rfl, heap_new w _, TB.below ((Below.refl _ _).alloc (Nat.le_refl _) _) hl, TB.below ((Below.refl _ _).alloc (Nat.le_refl _) _) ht⟩

set_option maxHeartbeats 1000000 in
theorem id_pair (b : Nat) (s : ByteArray) (hs : s.size ≤ 20000) (h : Nat) (hh : h < 100)
    (ih : Hid (∀ (i r : Nat) (w : World), Rd b s i r w → i ≤ s.size → Calls Tryd.prog 74 #[.pointer (some ⟨b, 0, none⟩), .int .i64 (h : Nat)] w fun e w' => IdEnd b s w (idR s h i r) e w'))
    (i r : Nat) (w : World) (h0 : Rd b s i r w) (ho : nx s i = 40) :
    Calls Tryd.prog 74 #[.pointer (some ⟨b, 0, none⟩), .int .i64 ((h + 1 : Nat) : Int)] w fun e w' => IdEnd b s w (idR s (h + 1) i r) e w' := by
  have hi : i < s.size := lt_of_nx s i (by omega)
  have he : ((nx s i : Int) == 48) = false := beq_eq_false_iff_ne.2 (by omega)
  have he2 : ((nx s i : Int) == 49) = false := beq_eq_false_iff_ne.2 (by omega)
  have HO : Hid (nx s i = 40) := ho
  clear ho
  go_enter Tryd.func74, Tryd.ntmps74
  go_wp2_with fail
  refine (next_k b s i r _ h0 (by omega)).mono ?_
  rintro e w1 ⟨rfl, h1, a1⟩
  go_wp2_with fail
  refine (open_ok b s i r (h + 1) _ h1 hs hi HO.out (by omega)).mono ?_
  rintro e w2 ⟨rfl, h2, a2⟩
  have a12 := a1.trans a2
  clear a1 a2 h1 h0
  cases f1 : idR s h (i + 1) r using Rs.cs with
  | bad j =>
    have HF : Hid (idR s (h + 1) i r = .bad j) := idR_bad1 HO.out f1
    have IH := ih.out (i + 1) r w2 h2 (by omega)
    rw [f1] at IH
    clear f1
    have IH := hide IH
    go_wp2_with fail
    refine (unhide IH).mono ?_
    rintro e w3 ⟨rfl, a3⟩
    refine ⟨rfl, ?_⟩
    rw [HF.out]
    exact ⟨rfl, a12.trans a3⟩
  | ok l i2 r2 =>
    have IH := ih.out (i + 1) r w2 h2 (by omega)
    rw [f1] at IH
    have F1 := hide f1
    have IH := hide IH
    clear f1
    go_wp2_with fail
    refine (unhide IH).mono ?_
    rintro e w3 ⟨v, rfl, t3, h3, b3, a3⟩
    clear IH
    obtain ⟨m, rfl⟩ := TA.root t3
    have a13 := a12.trans a3
    clear a12 a3 h2
    by_cases g : nx s i2 = 44
    · have G := hide g
      clear g
      have l2 : i2 < s.size := lt_of_nx s i2 (by rw [unhide G]; omega)
      go_wp2_with fail
      refine (pass_ok b s i2 r2 44 _ h3 hs l2 (unhide G)).mono ?_
      rintro e w4 ⟨rfl, h4, a4⟩
      have t4 := t3.apart h3 a4
      have a14 := a13.trans a4
      clear t3 h3 a13 a4
      cases f2 : idR s h (i2 + 1) r2 using Rs.cs with
      | bad j =>
        have HF : Hid (idR s (h + 1) i r = .bad j) := idR_bad3 HO.out (unhide F1) (unhide G) f2
        have IH := ih.out (i2 + 1) r2 w4 h4 (by omega)
        rw [f2] at IH
        clear f2
        have IH := hide IH
        go_wp2_with fail
        refine (unhide IH).mono ?_
        rintro e w5 ⟨rfl, a5⟩
        refine ⟨rfl, ?_⟩
        rw [HF.out]
        exact ⟨rfl, a14.trans a5⟩
      | ok t i4 r4 =>
        have IH := ih.out (i2 + 1) r2 w4 h4 (by omega)
        rw [f2] at IH
        have F2 := hide f2
        have IH := hide IH
        clear f2
        go_wp2_with fail
        refine (unhide IH).mono ?_
        rintro e w5 ⟨v, rfl, u5, h5, b5, a5⟩
        clear IH
        obtain ⟨m2, rfl⟩ := TA.root u5
        have t5 := t4.apart h4 a5
        have a15 := a14.trans a5
        clear a14 a5 h4 t4
        by_cases g2 : nx s i4 = 41
        · have l4 : i4 < s.size := lt_of_nx s i4 (by omega)
          have HF : Hid (idR s (h + 1) i r = .ok (.pair l t) (i4 + 1) (if sameB l t = true then min r4 i else r4)) := idR_pair HO.out (unhide F1) (unhide G) (unhide F2) g2
          have G2 := hide g2
          clear g2 F1 G F2
          go_wp2_with fail
          refine (pass_ok b s i4 r4 41 _ h5 hs l4 (unhide G2)).mono ?_
          rintro e w6 ⟨rfl, h6, a6⟩
          have t6 := t5.apart h5 a6
          have u6 := u5.apart h5 a6
          have a16 := a15.trans a6
          clear t5 u5 h5 a15 a6
          cases hsame : sameB l t
          · have SM := sameB_any w6 _ _ l t t6 u6
            rw [hsame] at SM
            rw [hsame] at HF
            have SM := hide SM
            clear hsame
            go_wp2_with fail
            refine (unhide SM).mono ?_
            rintro e w7 ⟨rfl, n7, rfl⟩
            go_wp2_with fail
            refine (pairB_any _ _ _).mono ?_
            rintro e w8 ⟨rfl, rfl⟩
            go_wp2_with fail
            go_ret
            rw [HF.out]
            exact ⟨_, rfl, TB.pair (t6.drewN n7) (u6.drewN n7), (h6.drewN n7).alloc _, by omega, (a16.trans (Apart.drewN b w6 n7)).alloc _⟩
          · have SM := sameB_any w6 _ _ l t t6 u6
            rw [hsame] at SM
            rw [hsame] at HF
            have SM := hide SM
            clear hsame
            go_wp2_with fail
            refine (unhide SM).mono ?_
            rintro e w7 ⟨rfl, n7, rfl⟩
            go_wp2_with fail
            refine (rough_any b s (i4 + 1) r4 i _ (h6.drewN n7)).mono ?_
            rintro e w8 ⟨rfl, h8, a8⟩
            have t8 := (t6.drewN n7).apart (h6.drewN n7) a8
            have u8 := (u6.drewN n7).apart (h6.drewN n7) a8
            have a18 := (a16.trans (Apart.drewN b w6 n7)).trans a8
            clear t6 u6 h6 a16 a8
            go_wp2_with fail
            refine (pairB_any _ _ _).mono ?_
            rintro e w9 ⟨rfl, rfl⟩
            go_wp2_with fail
            go_ret
            rw [HF.out]
            exact ⟨_, rfl, TB.pair t8 u8, h8.alloc _, by omega, a18.alloc _⟩
        · have HF : Hid (idR s (h + 1) i r = .bad i4) := idR_bad4 HO.out (unhide F1) (unhide G) (unhide F2) g2
          go_wp2_with fail
          refine (pass_bad b s i4 r4 41 _ h5 b5 g2).mono ?_
          rintro e w6 ⟨rfl, a6⟩
          refine ⟨rfl, ?_⟩
          rw [HF.out]
          exact ⟨rfl, a15.trans a6⟩
    · have HF : Hid (idR s (h + 1) i r = .bad i2) := idR_bad2 HO.out (unhide F1) g
      go_wp2_with fail
      refine (pass_bad b s i2 r2 44 _ h3 b3 g).mono ?_
      rintro e w4 ⟨rfl, a4⟩
      refine ⟨rfl, ?_⟩
      rw [HF.out]
      exact ⟨rfl, a13.trans a4⟩

/-- The reader's id, of any text, from any place. -/
theorem id_any (b : Nat) (s : ByteArray) (hs : s.size ≤ 20000) : ∀ (h : Nat), h < 100 → ∀ (i r : Nat) (w : World), Rd b s i r w → i ≤ s.size →
    Calls Tryd.prog 74 #[.pointer (some ⟨b, 0, none⟩), .int .i64 (h : Nat)] w fun e w' => IdEnd b s w (idR s h i r) e w' := by
  intro h
  induction h with
  | zero =>
    intro _ i r w h0 hi
    by_cases c0 : nx s i = 48
    · rw [idR_zero 0 c0]; exact id_leaf0 b s i r 0 w h0 hs c0
    · by_cases c1 : nx s i = 49
      · rw [idR_one 0 c1]; exact id_leaf1 b s i r 0 w h0 hs c1
      · rw [idR_deep c0 c1]; exact id_deep b s i r w h0 hi c0 c1
  | succ h ih =>
    intro hh i r w h0 hi
    by_cases c0 : nx s i = 48
    · rw [idR_zero _ c0]; exact id_leaf0 b s i r (h + 1) w h0 hs c0
    · by_cases c1 : nx s i = 49
      · rw [idR_one _ c1]; exact id_leaf1 b s i r (h + 1) w h0 hs c1
      · by_cases c2 : nx s i = 40
        · exact id_pair b s hs h (by omega) (hide (ih (by omega))) i r w h0 c2
        · rw [idR_bad0 c0 c1 c2]; exact id_bad0 b s i r (h + 1) w h0 hi (by omega) c0 c1 c2

end Go.Proofs.YtoebmfhgaalcdaaDoor
