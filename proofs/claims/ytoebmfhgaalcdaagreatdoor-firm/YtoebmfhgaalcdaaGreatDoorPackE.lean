/-
  Our own. The reader of codes: ev, end, and the whole of it; Decode, of any code.
-/
import Derived.Test.YtoebmfhgaalcdaaGreatDoorPackR
import Derived.Test.YtoebmfhgaalcdaaGreatDoorWalkWrite
namespace Go.Proofs.YtoebmfhgaalcdaaGreatDoor
open Go.RowKit

set_option maxHeartbeats 400000 in
theorem rcev_end (b : Nat) (s : ByteArray) (hs : s.size ≤ 20000) (h base k : Nat) (r : Bool) (w : World) (h0 : Cr b s k r w) (hk : 8 * s.size = k) :
    Calls Tryz.prog 73 #[.pointer (some ⟨b, 0, none⟩), .int .i64 (h : Nat), .int .i64 (base : Nat)] w fun e w' => CEvEnd b s w (evC s h base k r) e w' := by
  rw [evC_end h (by omega)]
  have R := hide (ropen_end b s k h r w h0 hs hk.symm)
  go_enter Tryz.func73, Tryz.ntmps73
  go_wp2_with fail
  refine (unhide R).mono ?_
  rintro e w1 ⟨rfl, a1⟩
  exact ⟨rfl, rfl, a1⟩

set_option maxHeartbeats 400000 in
theorem rcev_deep (b : Nat) (s : ByteArray) (hs : s.size ≤ 20000) (base k : Nat) (r : Bool) (w : World) (h0 : Cr b s k r w) (hk : k < 8 * s.size) (hb : bitAt s k = true) :
    Calls Tryz.prog 73 #[.pointer (some ⟨b, 0, none⟩), .int .i64 0, .int .i64 (base : Nat)] w fun e w' => CEvEnd b s w (evC s 0 base k r) e w' := by
  rw [evC_deep (by omega) hb]
  have R := hide (ropen_deep b s k r w h0 hs hk hb)
  clear hb
  go_enter Tryz.func73, Tryz.ntmps73
  go_wp2_with fail
  refine (unhide R).mono ?_
  rintro e w1 ⟨rfl, a1⟩
  exact ⟨rfl, rfl, a1⟩

set_option maxHeartbeats 800000 in
theorem rcev_num (b : Nat) (s : ByteArray) (hs : s.size ≤ 20000) (h base k : Nat) (r : Bool) (w : World) (hbase : base ≤ 109951162777600) (h0 : Cr b s k r w) (hk : k < 8 * s.size) (hb : bitAt s k = false) :
    Calls Tryz.prog 73 #[.pointer (some ⟨b, 0, none⟩), .int .i64 (h : Nat), .int .i64 (base : Nat)] w fun e w' => CEvEnd b s w (evC s h base k r) e w' := by
  have HB := hide hb
  have R := ropen_ok b s k h r w h0 hs hk (Or.inl hb)
  rw [hb] at R
  have R := hide R
  clear hb
  cases f : gammaR s (k + 1) using Nm.cs with
  | bad j =>
    rw [evC_num0 h (by omega) (unhide HB) f]
    go_enter Tryz.func73, Tryz.ntmps73
    go_wp2_with fail
    refine (unhide R).mono ?_
    rintro e w1 ⟨rfl, h1, a1⟩
    have G := rgamma_any b s (k + 1) r w1 h1 hs (by omega)
    rw [f] at G
    have G := hide G
    go_wp2_with fail
    refine (unhide G).mono ?_
    rintro e w2 ⟨rfl, a2⟩
    exact ⟨rfl, rfl, a1.trans a2⟩
  | ok n k1 =>
    rw [evC_num h (by omega) (unhide HB) f]
    have n1 := gammaR_ok f
    have n2 : n ≤ 1099511627776 := n1.1
    have n3 : k1 ≤ 8 * s.size := by have := n1.2.2.2; omega
    clear n1
    go_enter Tryz.func73, Tryz.ntmps73
    go_wp2_with fail
    refine (unhide R).mono ?_
    rintro e w1 ⟨rfl, h1, a1⟩
    have G := rgamma_any b s (k + 1) r w1 h1 hs (by omega)
    rw [f] at G
    have G := hide G
    clear f
    go_wp2_with fail
    refine (unhide G).mono ?_
    rintro e w2 ⟨rfl, h2, a2⟩
    go_wp2_with fail
    try rw [show (base : Int) + (n : Int) = ((base + n : Nat) : Int) by omega]
    refine (leafI_any (base + n) _).mono ?_
    rintro e w3 ⟨rfl, rfl⟩
    go_wp2_with fail
    go_ret2
    exact ⟨_, rfl, ⟨w2.heap.size, rfl, heap_new w2 _⟩, h2.alloc _, n3, (a1.trans a2).alloc _⟩

set_option maxHeartbeats 2000000 in
theorem rcev_pair (b : Nat) (s : ByteArray) (hs : s.size ≤ 20000) (h : Nat) (hh : h < 8)
    (ih : Hid (∀ (base k : Nat) (r : Bool) (w : World), base ≤ (99 - h) * 1099511627776 → Cr b s k r w → k ≤ 8 * s.size → Calls Tryz.prog 73 #[.pointer (some ⟨b, 0, none⟩), .int .i64 (h : Nat), .int .i64 (base : Nat)] w fun e w' => CEvEnd b s w (evC s h base k r) e w'))
    (base k : Nat) (r : Bool) (w : World) (hbase : base ≤ (99 - (h + 1)) * 1099511627776) (h0 : Cr b s k r w) (hk : k < 8 * s.size) (hb : bitAt s k = true) :
    Calls Tryz.prog 73 #[.pointer (some ⟨b, 0, none⟩), .int .i64 ((h + 1 : Nat) : Int), .int .i64 (base : Nat)] w fun e w' => CEvEnd b s w (evC s (h + 1) base k r) e w' := by
  have HB := hide hb
  have hb2 : base ≤ 109951162777600 := by omega
  have R := ropen_ok b s k (h + 1) r w h0 hs hk (Or.inr (by omega))
  rw [hb] at R
  have R := hide R
  clear hb
  go_enter Tryz.func73, Tryz.ntmps73
  go_wp2_with fail
  refine (unhide R).mono ?_
  rintro e w1 ⟨rfl, h1, a1⟩
  clear R h0
  cases f : gammaR s (k + 1) using Nm.cs with
  | bad j =>
    have HF : Hid (evC s (h + 1) base k r = .bad j) := hide (evC_bad0 (by omega) f)
    have G := rgamma_any b s (k + 1) r w1 h1 hs (by omega)
    rw [f] at G
    have G := hide G
    clear f
    go_wp2_with fail
    refine (unhide G).mono ?_
    rintro e w2 ⟨rfl, a2⟩
    refine ⟨rfl, ?_⟩
    rw [unhide HF]
    exact ⟨rfl, a1.trans a2⟩
  | ok n k1 =>
    have n1 := gammaR_ok f
    have n2 : n ≤ 1099511627776 := n1.1
    have n3 : k1 ≤ 8 * s.size := by have := n1.2.2.2; omega
    have G := rgamma_any b s (k + 1) r w1 h1 hs (by omega)
    rw [f] at G
    have G := hide G
    have F := hide f
    clear n1 f
    go_wp2_with fail
    refine (unhide G).mono ?_
    rintro e w2 ⟨rfl, h2, a2⟩
    have a12 := a1.trans a2
    clear G h1 a1 a2
    cases f2 : evC s h (base + n) k1 r using Rc.cs with
    | bad j =>
      have HF : Hid (evC s (h + 1) base k r = .bad j) := hide (evC_bad1 (by omega) (unhide HB) (unhide F) f2)
      have IH := unhide ih (base + n) k1 r w2 (by omega) h2 n3
      rw [f2] at IH
      have IH := hide IH
      clear f2
      go_wp2_with fail
      refine (unhide IH).mono ?_
      rintro e w3 ⟨rfl, a3⟩
      refine ⟨rfl, ?_⟩
      rw [unhide HF]
      exact ⟨rfl, a12.trans a3⟩
    | ok o k2 r2 =>
      obtain ⟨l, ln⟩ := o
      have IH := unhide ih (base + n) k1 r w2 (by omega) h2 n3
      rw [f2] at IH
      have F2 := hide f2
      have IH := hide IH
      clear f2
      go_wp2_with fail
      refine (unhide IH).mono ?_
      rintro e w3 ⟨v, rfl, t3, h3, b3, a3⟩
      clear IH
      obtain ⟨m, rfl⟩ := TA.root t3
      have a13 := a12.trans a3
      clear a12 a3 h2
      cases f3 : evC s h (base + n) k2 r2 using Rc.cs with
      | bad j =>
        have HF : Hid (evC s (h + 1) base k r = .bad j) := hide (evC_bad2 (by omega) (unhide HB) (unhide F) (unhide F2) f3)
        have IH := unhide ih (base + n) k2 r2 w3 (by omega) h3 b3
        rw [f3] at IH
        have IH := hide IH
        clear f3
        go_wp2_with fail
        refine (unhide IH).mono ?_
        rintro e w4 ⟨rfl, a4⟩
        refine ⟨rfl, ?_⟩
        rw [unhide HF]
        exact ⟨rfl, a13.trans a4⟩
      | ok o k3 r3 =>
        obtain ⟨t, tn⟩ := o
        have HF := hide (evC_pair (by omega) (unhide HB) (unhide F) (unhide F2) f3)
        have IH := unhide ih (base + n) k2 r2 w3 (by omega) h3 b3
        rw [f3] at IH
        have IH := hide IH
        clear f3 F F2 HB
        go_wp2_with fail
        refine (unhide IH).mono ?_
        rintro e w4 ⟨v, rfl, u4, h4, b4, a4⟩
        clear IH
        obtain ⟨m2, rfl⟩ := TA.root u4
        have t4 := t3.apartC h3 a4
        have a14 := a13.trans a4
        clear t3 h3 a13 a4
        obtain ⟨c0, c1, c2, cf⟩ := h4.cells
        cases r3 with
        | true =>
          go_wp2_with fail
          have h5 := h4.setRough true
          have a5 := a14.setCell (p := ⟨b, 2, none⟩) rfl (.bool true)
          have t5 := t4.apartC h4 ((Apart.refl b w4).setCell (p := ⟨b, 2, none⟩) rfl (.bool true))
          have u5 := u4.apartC h4 ((Apart.refl b w4).setCell (p := ⟨b, 2, none⟩) rfl (.bool true))
          generalize w4.setCell ⟨b, 2, none⟩ (.bool true) = W5 at *
          refine (pairI_any _ _ _).mono ?_
          rintro e w6 ⟨rfl, rfl⟩
          go_wp2_with fail
          go_ret2
          rw [unhide HF]
          exact ⟨_, rfl, TI.pair t5 u5, h5.alloc _, b4, a5.alloc _⟩
        | false =>
          have SM := rough_evs_any w4 _ _ l t ln tn t4 u4
          generalize (decide (0 < ln) && decide (0 < tn) || sameI l t) = S at *
          have SM := hide SM
          go_wp2_with fail
          refine (unhide SM).mono ?_
          rintro e w5 ⟨rfl, n5, rfl⟩
          go_wp2_with fail
          have h5 := (h4.drewN n5).setRough S
          have a5 := (a14.trans (Apart.drewN b w4 n5)).setCell (p := ⟨b, 2, none⟩) rfl (.bool S)
          have t5 := (t4.drewN n5).apartC (h4.drewN n5) ((Apart.refl b (w4.drewN n5)).setCell (p := ⟨b, 2, none⟩) rfl (.bool S))
          have u5 := (u4.drewN n5).apartC (h4.drewN n5) ((Apart.refl b (w4.drewN n5)).setCell (p := ⟨b, 2, none⟩) rfl (.bool S))
          generalize (w4.drewN n5).setCell ⟨b, 2, none⟩ (.bool S) = W5 at *
          refine (pairI_any _ _ _).mono ?_
          rintro e w6 ⟨rfl, rfl⟩
          go_wp2_with fail
          go_ret2
          rw [unhide HF]
          exact ⟨_, rfl, TI.pair t5 u5, h5.alloc _, b4, a5.alloc _⟩

theorem rcev_any (b : Nat) (s : ByteArray) (hs : s.size ≤ 20000) : ∀ (h : Nat), h < 9 → ∀ (base k : Nat) (r : Bool) (w : World), base ≤ (99 - h) * 1099511627776 → Cr b s k r w → k ≤ 8 * s.size →
    Calls Tryz.prog 73 #[.pointer (some ⟨b, 0, none⟩), .int .i64 (h : Nat), .int .i64 (base : Nat)] w fun e w' => CEvEnd b s w (evC s h base k r) e w' := by
  intro h
  induction h with
  | zero =>
    intro _ base k r w hb0 h0 hk
    by_cases hend : 8 * s.size = k
    · exact rcev_end b s hs 0 base k r w h0 hend
    · cases hb : bitAt s k with
      | false => exact rcev_num b s hs 0 base k r w (by omega) h0 (by omega) hb
      | true => exact rcev_deep b s hs base k r w h0 (by omega) hb
  | succ h ih =>
    intro hh base k r w hb0 h0 hk
    by_cases hend : 8 * s.size = k
    · exact rcev_end b s hs (h + 1) base k r w h0 hend
    · cases hb : bitAt s k with
      | false => exact rcev_num b s hs (h + 1) base k r w (by omega) h0 (by omega) hb
      | true => exact rcev_pair b s hs h (by omega) (hide (ih (by omega))) base k r w hb0 h0 (by omega) hb

/-- What a call of the reader's end leaves. -/
def REnd (b : Nat) (s : ByteArray) (r : Bool) (w : World) (o : Nm) (e : Ending) (w' : World) : Prop :=
  match o with
  | ⟨.inl (_, j)⟩ => e = .returned (.tuple #[]) ∧ Cr b s j r w' ∧ Apart b w w'
  | ⟨.inr j⟩ => e = .panicked (thrown 2 j) ∧ Apart b w w'

set_option maxHeartbeats 1000000 in
theorem rend_any (b : Nat) (s : ByteArray) (k0 : Nat) (r : Bool) (w : World) (h : Cr b s k0 r w) (hs : s.size ≤ 20000) (hk0 : k0 ≤ 8 * s.size) :
    Calls Tryz.prog 74 #[.pointer (some ⟨b, 0, none⟩)] w fun e w' => REnd b s r w (endR s k0) e w' := by
  go_enter Tryz.func74, Tryz.ntmps74
  go_wp2_with fail
  go_loopg [] ((8 - k0 % 8) % 8 + 1) (fun m wr => ∃ k : Nat, m = (8 - k % 8) % 8 + 1 ∧ k ≤ 8 * s.size ∧ Cr b s k r wr ∧ Apart b w wr ∧ padR s ((8 - k0 % 8) % 8) k0 = padR s ((8 - k % 8) % 8) k)
  case atStart => exact ⟨k0, rfl, hk0, h, Apart.refl _ _, rfl⟩
  case round =>
    obtain ⟨k, hm, hk, hr, ha, hz⟩ := hrel
    obtain ⟨c0, c1, c2, cf⟩ := hr.cells
    have HZ := hide hz
    have HM := hide hm
    clear hz hm h hk0
    obtain ⟨p, hp⟩ : ∃ p, k % 8 = p := ⟨_, rfl⟩
    have e4 : IntKind.i64.wrap ((k : Int) % 8) = (p : Int) := by rw [IntKind.wrap_i64]; omega
    have e5 : (k : Int) % 8 = (p : Int) := by omega
    have HP := hide hp
    clear hp
    by_cases h8 : p = 0
    · subst h8
      have Z2 : Hid (padR s ((8 - k0 % 8) % 8) k0 = .ok 0 k) := hide (by rw [unhide HZ, unhide HP]; rfl)
      obtain ⟨q, hq⟩ : ∃ q, k / 8 = q := ⟨_, rfl⟩
      have e3 : IntKind.i64.wrap ((k : Int) / 8) = (q : Int) := by rw [IntKind.wrap_i64]; omega
      have e6 : (k : Int) / 8 = (q : Int) := by omega
      by_cases l : q < s.size
      · have HG : Hid (endR s k0 = .bad q) := hide (by rw [← hq]; exact endR_bad2 (unhide Z2) (by omega))
        have l2 : (q : Int) < (s.size : Int) := by omega
        clear hq
        go_wp2_with fail
        refine (throw_any 2 q _).mono ?_
        rintro e w2 ⟨rfl, rfl⟩
        refine ⟨rfl, ?_⟩
        rw [unhide HG]
        exact ⟨rfl, ha⟩
      · have HG : Hid (endR s k0 = .ok 0 k) := hide (endR_good (unhide Z2) (by omega))
        have l2 : ¬ (q : Int) < (s.size : Int) := by omega
        clear hq
        go_wp2_with fail
        refine bodyPost_ret (v := .tuple #[]) (by simp [results, Tryz.results74]) rfl ?_
        rw [unhide HG]
        exact ⟨rfl, hr, ha⟩
    · have hlt : k < 8 * s.size := by have := unhide HP; omega
      have p0 : (0 : Int) < (p : Int) := by omega
      have R := rbit_ok b s k r _ hr hs hlt
      cases hB : bitAt s k with
      | true =>
        have HG : Hid (endR s k0 = .bad (k / 8)) := hide (endR_bad1 (by rw [unhide HZ, show (8 - k % 8) % 8 = ((8 - k % 8) % 8 - 1) + 1 by have := unhide HP; omega, padR, if_pos hB]))
        rw [hB] at R
        have R := hide R
        clear hB
        go_wp2_with fail
        refine (unhide R).mono ?_
        rintro e w1 ⟨rfl, h1, a1⟩
        go_wp2_with fail
        refine (rgive_any b s k r _ h1 (by omega)).mono ?_
        rintro e w2 ⟨rfl, rfl⟩
        refine ⟨rfl, ?_⟩
        rw [unhide HG]
        exact ⟨rfl, ha.trans a1⟩
      | false =>
        have Z2 : Hid (padR s ((8 - k0 % 8) % 8) k0 = padR s ((8 - (k + 1) % 8) % 8) (k + 1)) := hide (by
          rw [unhide HZ, show (8 - k % 8) % 8 = (8 - (k + 1) % 8) % 8 + 1 by have := unhide HP; omega, padR, if_neg (by rw [hB]; exact Bool.false_ne_true)])
        rw [hB] at R
        have R := hide R
        clear hB
        go_wp2_with fail
        refine (unhide R).mono ?_
        rintro e w1 ⟨rfl, h1, a1⟩
        go_wp2_with fail
        go_roundg ((8 - (k + 1) % 8) % 8 + 1)
        case measure => rw [unhide HM]; have := unhide HP; omega
        case rel => exact ⟨k + 1, rfl, by omega, h1, ha.trans a1, unhide Z2⟩

set_option maxHeartbeats 400000 in
theorem pkRead_long (s : ByteArray) (w : World) (hs : 20000 < s.size) (hm : s.size ≤ maxLen) :
    Calls Tryz.prog 36 #[.string s] w fun e w' => ReadEnd w (.bad 1 0) e w' := by
  unfold maxLen at hm
  go_enter Tryz.func36, Tryz.ntmps36
  go_wp2_with fail
  refine (throw_any 1 0 _).mono ?_
  rintro e w1 ⟨rfl, rfl⟩
  exact ⟨rfl, rfl, (Below.refl _ _).alloc (Nat.le_refl _) _⟩

theorem Cr.new (w : World) (s : ByteArray) (k : Nat) (r : Bool) (o : Obj) : Cr (w.heap.size + 1) s k r ((w.alloc o).alloc (crObj s k r)) := by
  have h := heap_new (w.alloc o) (crObj s k r)
  have e : (w.alloc o).heap.size = w.heap.size + 1 := by simp
  rw [e] at h
  exact h

set_option maxHeartbeats 1000000 in
theorem pkRead_any (s : ByteArray) (w : World) (hs : s.size ≤ 20000) :
    Calls Tryz.prog 36 #[.string s] w fun e w' => ReadEnd w (readC s) e w' := by
  have h0 := Cr.new w s 0 false (.cells #[.pointer none, .pointer none] 61)
  go_enter Tryz.func36, Tryz.ntmps36
  cases f : idC s 8 0 false using Rc.cs with
  | bad j =>
    have IH := rcid_any (w.heap.size + 1) s hs 8 (by omega) 0 false _ h0 (by omega)
    rw [f] at IH
    have HF := hide (readC_bad0 hs f)
    clear f h0
    have IH := hide IH
    go_wp2_with fail
    refine (unhide IH).mono ?_
    rintro e w1 ⟨rfl, a1⟩
    refine ⟨rfl, ?_⟩
    rw [unhide HF]
    exact ⟨rfl, below_two a1⟩
  | ok id k1 r1 =>
    have IH := rcid_any (w.heap.size + 1) s hs 8 (by omega) 0 false _ h0 (by omega)
    rw [f] at IH
    have F := hide f
    clear f h0
    have IH := hide IH
    go_wp2_with fail
    refine (unhide IH).mono ?_
    rintro e w1 ⟨v, rfl, t1, h1, b1, a1⟩
    clear IH
    obtain ⟨m0, rfl⟩ := TA.root t1
    cases f2 : evC s 8 0 k1 r1 using Rc.cs with
    | bad j =>
      have IH := rcev_any (w.heap.size + 1) s hs 8 (by omega) 0 k1 r1 w1 (by omega) h1 b1
      rw [f2] at IH
      have HF := hide (readC_bad1 hs (unhide F) f2)
      have IH := hide IH
      clear f2
      go_wp2_with fail
      refine (unhide IH).mono ?_
      rintro e w2 ⟨rfl, a2⟩
      refine ⟨rfl, ?_⟩
      rw [unhide HF]
      exact ⟨rfl, below_two (a1.trans a2)⟩
    | ok o k2 r2 =>
      obtain ⟨ev, n⟩ := o
      have IH := rcev_any (w.heap.size + 1) s hs 8 (by omega) 0 k1 r1 w1 (by omega) h1 b1
      rw [f2] at IH
      have F2 := hide f2
      have IH := hide IH
      clear f2
      go_wp2_with fail
      refine (unhide IH).mono ?_
      rintro e w2 ⟨v, rfl, u2, h2, b2, a2⟩
      clear IH
      obtain ⟨m2, rfl⟩ := TA.root u2
      have t2 := t1.apartC h1 a2
      have a12 := a1.trans a2
      clear t1 h1 a1 a2
      cases f3 : endR s k2 using Nm.cs with
      | bad j =>
        have IH := rend_any (w.heap.size + 1) s k2 r2 w2 h2 hs b2
        rw [f3] at IH
        have HF := hide (readC_bad2 hs (unhide F) (unhide F2) f3)
        have IH := hide IH
        clear f3
        go_wp2_with fail
        refine (unhide IH).mono ?_
        rintro e w3 ⟨rfl, a3⟩
        refine ⟨rfl, ?_⟩
        rw [unhide HF]
        exact ⟨rfl, below_two (a12.trans a3)⟩
      | ok a k3 =>
        have IH := rend_any (w.heap.size + 1) s k2 r2 w2 h2 hs b2
        rw [f3] at IH
        have F3 := hide f3
        have IH := hide IH
        clear f3
        go_wp2_with fail
        refine (unhide IH).mono ?_
        rintro e w3 ⟨rfl, h3, a3⟩
        clear IH
        have t3 := t2.apartC h2 a3
        have u3 := u2.apartC h2 a3
        have a13 := a12.trans a3
        clear t2 u2 h2 a12 a3
        have HI := hide (high_any ev w3 _ u3)
        obtain ⟨c0, c1, c2, cf⟩ := h3.cells
        by_cases m : 1099511627776 < highest ev
        · have HF := hide (readC_bad3 hs (unhide F) (unhide F2) (unhide F3) m)
          clear F F2 F3
          go_wp2_with fail
          refine (unhide HI).mono ?_
          rintro e w4 ⟨rfl, n4, rfl⟩
          go_wp2_with fail
          refine (throw_any 7 0 _).mono ?_
          rintro e w5 ⟨rfl, rfl⟩
          refine ⟨rfl, ?_⟩
          rw [unhide HF]
          exact ⟨rfl, below_two (a13.trans (Apart.drewN _ _ n4))⟩
        · cases r2 with
          | true =>
            have HF := hide (readC_bad4 hs (unhide F) (unhide F2) (unhide F3) m rfl)
            clear F F2 F3
            go_wp2_with fail
            refine (unhide HI).mono ?_
            rintro e w4 ⟨rfl, n4, rfl⟩
            go_wp2_with fail
            refine (throw_any 3 0 _).mono ?_
            rintro e w5 ⟨rfl, rfl⟩
            refine ⟨rfl, ?_⟩
            rw [unhide HF]
            exact ⟨rfl, below_two (a13.trans (Apart.drewN _ _ n4))⟩
          | false =>
            have HF := hide (readC_good hs (unhide F) (unhide F2) (unhide F3) m Bool.false_ne_true)
            clear F F2 F3
            obtain ⟨d0, d1, df⟩ := cells2 (cell_first a13)
            go_wp2_with fail
            refine (unhide HI).mono ?_
            rintro e w4 ⟨rfl, n4, rfl⟩
            go_wp2_with fail
            have K := cell_first a13
            have a5 := ((Apart.drewN w.heap.size w3 n4).setCell (p := ⟨w.heap.size, 0, none⟩) rfl (.pointer (some ⟨m0, 0, none⟩))).setCell (p := ⟨w.heap.size, 1, none⟩) rfl (.pointer (some ⟨m2, 0, none⟩))
            refine bodyPost_ret (v := .agg #[.pointer (some ⟨m0, 0, none⟩), .pointer (some ⟨m2, 0, none⟩)]) (by simp [results, Tryz.results36, go_sem, d0, d1]) rfl ?_
            rw [unhide HF]
            exact ⟨_, _, rfl, TB.other K (by decide) a5 t3, TI.other K (by decide) a5 u3, (below_two a13).trans (a5.below (by have := a13.size; simp at this; omega))⟩

theorem pkRead_all (s : ByteArray) (w : World) (hm : s.size ≤ maxLen) : Calls Tryz.prog 36 #[.string s] w fun e w' => ReadEnd w (readC s) e w' := by
  by_cases h : 20000 < s.size
  · rw [readC_long h]; exact pkRead_long s w h hm
  · exact pkRead_any s w (by omega)

set_option maxHeartbeats 800000 in
/-- Decode of what is no code: the error and its place. -/
theorem decode_bad {s : ByteArray} {e p : Nat} (hm : s.size ≤ maxLen) (f : readC s = .bad e p) (w : World) :
    Calls Tryz.prog 18 #[.string s] w fun o w' => o = .returned (.tuple #[.string { data := #[] }, .int .i64 (e : Nat), .int .i64 (p : Nat)]) ∧ Below w.heap.size w w' := by
  have CA := catch_any 36 (fun _ _ => by kernel_rfl) s (readC s) (fun w1 => pkRead_all s w1 hm) w
  have he := (readC_bad f).2
  have he1 : ¬ (e : Int) = 0 := by omega
  rw [f] at CA
  have CA := hide CA
  clear f
  go_enter Tryz.func18, Tryz.ntmps18
  go_wp2_with fail
  refine (unhide CA).mono ?_
  rintro o w1 ⟨rfl, b1⟩
  replace b1 := hide b1
  go_wp2_with fail
  refine bodyPost_ret (v := .tuple #[.string { data := #[] }, .int .i64 (e : Nat), .int .i64 (p : Nat)]) (by simp [results, Tryz.results18, go_sem]) rfl ?_
  exact ⟨rfl, (unhide b1).alloc (unhide b1).size _⟩

set_option maxHeartbeats 800000 in
/-- Decode of a code. -/
theorem decode_ok {s : ByteArray} {id : Tr Bool} {ev : Tr Nat} (hm : s.size ≤ maxLen) (f : readC s = .ok id ev) (w : World) (T : Tab w) :
    Calls Tryz.prog 18 #[.string s] w fun o w' => o = .returned (.tuple #[.string (strOf (wtext id ev)), .int .i64 0, .int .i64 0]) ∧ Below w.heap.size w w' := by
  have CA := catch_any 36 (fun _ _ => by kernel_rfl) s (readC s) (fun w1 => pkRead_all s w1 hm) w
  have P := (readC_ok f).2.1
  rw [f] at CA
  have CA := hide CA
  have S := hide (fun w v u T h g => write_any id ev P w v u T h g)
  replace T := hide T
  clear f P
  generalize strOf (wtext id ev) = Z at *
  go_enter Tryz.func18, Tryz.ntmps18
  go_wp2_with fail
  refine (unhide CA).mono ?_
  rintro o w1 ⟨vi, ve, rfl, tb, ti, b1⟩
  obtain ⟨m0, rfl⟩ := TA.root tb
  obtain ⟨m2, rfl⟩ := TA.root ti
  have bA : Below w1.heap.size w1 (w1.alloc (.cells #[.pointer (some ⟨m0, 0, none⟩), .pointer (some ⟨m2, 0, none⟩)] 61)) := (Below.refl _ _).alloc (Nat.le_refl _) _
  have B := hide (b1.trans (bA.mono b1.size))
  have S2 := hide (unhide S _ _ _ ((unhide T).below (unhide B)) (TA.below tb bA) (TA.below ti bA))
  clear tb ti b1 bA S T
  go_wp2_with fail
  refine (unhide S2).mono ?_
  rintro o w2 ⟨rfl, b2⟩
  replace b2 := hide b2
  go_wp2_with fail
  refine bodyPost_ret (v := .tuple #[.string Z, .int .i64 0, .int .i64 0]) (by simp [results, Tryz.results18, go_sem]) rfl ?_
  exact ⟨rfl, (unhide B).trans ((unhide b2).mono (unhide B).size)⟩

end Go.Proofs.YtoebmfhgaalcdaaGreatDoor
