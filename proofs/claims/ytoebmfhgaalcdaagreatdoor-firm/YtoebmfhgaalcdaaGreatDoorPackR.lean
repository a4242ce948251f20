/-
  Our own. The reader of codes: what its calls do, of any code.
-/
import Derived.Test.YtoebmfhgaalcdaaGreatDoorCodeQ
import Derived.Test.YtoebmfhgaalcdaaGreatDoorWalkCheck
import Derived.Test.YtoebmfhgaalcdaaGreatDoorShelf
import Derived.Deep.LoopGhost
namespace Go.Proofs.YtoebmfhgaalcdaaGreatDoor
open Go.RowKit

/-- The reader's box. -/
def crObj (s : ByteArray) (k : Nat) (r : Bool) : Obj := .cells #[.string s, .int .i64 k, .bool r] 112
def Cr (b : Nat) (s : ByteArray) (k : Nat) (r : Bool) (w : World) : Prop := w.heap[b]? = some (crObj s k r)
theorem Cr.cells {b : Nat} {s : ByteArray} {k : Nat} {r : Bool} {w : World} (h : Cr b s k r w) :
    w.cell? ⟨b, 0, none⟩ = some (.string s) ∧ w.cell? ⟨b, 1, none⟩ = some (.int .i64 k) ∧ w.cell? ⟨b, 2, none⟩ = some (.bool r) ∧ (∀ o, w.frozen? ⟨b, o, none⟩ = false) := by
  unfold Cr crObj at h
  refine ⟨?_, ?_, ?_, ?_⟩
  · simp [World.cell?, h]
  · simp [World.cell?, h]
  · simp [World.cell?, h]
  · intro o; simp [World.frozen?, h]
theorem Cr.drewN {b : Nat} {s : ByteArray} {k : Nat} {r : Bool} {w : World} (h : Cr b s k r w) (n : Nat) : Cr b s k r (w.drewN n) := h
theorem Cr.alloc {b : Nat} {s : ByteArray} {k : Nat} {r : Bool} {w : World} (h : Cr b s k r w) (o : Obj) : Cr b s k r (w.alloc o) :=
  (Below.heap_alloc w o b (lt_of_heap h)).trans h
theorem Cr.setAt {b : Nat} {s : ByteArray} {k : Nat} {r : Bool} {w : World} (h : Cr b s k r w) (j : Nat) : Cr b s j r (w.setCell ⟨b, 1, none⟩ (.int .i64 j)) := by
  unfold Cr crObj at *
  simp [World.setCell, Array.getElem?_modify, h]
theorem Cr.setRough {b : Nat} {s : ByteArray} {k : Nat} {r : Bool} {w : World} (h : Cr b s k r w) (q : Bool) : Cr b s k q (w.setCell ⟨b, 2, none⟩ (.bool q)) := by
  unfold Cr crObj at *
  simp [World.setCell, Array.getElem?_modify, h]
theorem TB.apartC {b : Nat} {s : ByteArray} {k : Nat} {r : Bool} {w w' : World} (hr : Cr b s k r w) (ha : Apart b w w') {v : Value} {t : Tr Bool} (h : TB w v t) : TB w' v t :=
  TB.other hr (by decide) ha h
theorem TI.apartC {b : Nat} {s : ByteArray} {k : Nat} {r : Bool} {w w' : World} (hr : Cr b s k r w) (ha : Apart b w w') {v : Value} {t : Tr Nat} (h : TI w v t) : TI w' v t :=
  TI.other hr (by decide) ha h

set_option maxHeartbeats 400000 in
theorem rbit_end (b : Nat) (s : ByteArray) (k : Nat) (r : Bool) (w : World) (h : Cr b s k r w) (hs : s.size ≤ 20000) (hk : k = 8 * s.size) :
    Calls Tryz.prog 119 #[.pointer (some ⟨b, 0, none⟩)] w fun e w' => e = .panicked (thrown 2 s.size) ∧ Apart b w w' := by
  obtain ⟨c0, c1, c2, cf⟩ := h.cells
  have e1 : IntKind.i64.wrap (8 * (s.size : Int)) = 8 * (s.size : Int) := by rw [IntKind.wrap_i64]; omega
  have e2 : ((k : Nat) : Int) = 8 * (s.size : Int) := by omega
  go_enter Tryz.func119, Tryz.ntmps119
  go_wp2_with fail
  go_quiet (fail)
  go_wp2_with fail
  refine (throw_any 2 s.size _).mono ?_
  rintro e w1 ⟨rfl, rfl⟩
  exact ⟨rfl, rfl, Apart.drewN _ _ _⟩

theorem and128 (x p : Nat) (hx : x < 256) (hp : p < 8) : (bits BinOp.and IntKind.u8 ((x : Int) * 2 ^ p % 256) 128 != 0) = x.testBit (7 - p) := by
  have H : ∀ (a : Fin 256) (c : Fin 8), (bits BinOp.and IntKind.u8 ((a.1 : Int) * 2 ^ c.1 % 256) 128 != 0) = a.1.testBit (7 - c.1) := by decide +kernel
  exact H ⟨x, hx⟩ ⟨p, hp⟩
theorem bit_at (s : ByteArray) (k q p : Nat) (hq : k / 8 = q) (hp : k % 8 = p) (hk : q < s.size) : (bits BinOp.and IntKind.u8 ((s[q].toNat : Int) * 2 ^ p % 256) 128 != 0) = bitAt s k := by
  rw [and128 _ _ (UInt8.toNat_lt _) (by omega), bitAt, hq, hp, nx_in s q hk]

set_option maxHeartbeats 400000 in
theorem rbit_ok (b : Nat) (s : ByteArray) (k : Nat) (r : Bool) (w : World) (h : Cr b s k r w) (hs : s.size ≤ 20000) (hk : k < 8 * s.size) :
    Calls Tryz.prog 119 #[.pointer (some ⟨b, 0, none⟩)] w fun e w' => e = .returned (.bool (bitAt s k)) ∧ Cr b s (k + 1) r w' ∧ Apart b w w' := by
  obtain ⟨c0, c1, c2, cf⟩ := h.cells
  have e1 : IntKind.i64.wrap (8 * (s.size : Int)) = 8 * (s.size : Int) := by rw [IntKind.wrap_i64]; omega
  have e2 : ¬ ((k : Nat) : Int) = 8 * (s.size : Int) := by omega
  obtain ⟨q, p, hq, hp, hk2⟩ : ∃ q p, k / 8 = q ∧ k % 8 = p ∧ q < s.size := ⟨_, _, rfl, rfl, by omega⟩
  have e3 : IntKind.i64.wrap ((k : Int) / 8) = (q : Int) := by rw [IntKind.wrap_i64]; omega
  have e4 : IntKind.i64.wrap ((k : Int) % 8) = (p : Int) := by rw [IntKind.wrap_i64]; omega
  have e5 : (q : Int) < (s.size : Int) := by omega
  have e6 : ¬ (p : Int) < 0 := by omega
  have eb := bit_at s k q p hq hp hk2
  go_enter Tryz.func119, Tryz.ntmps119
  go_wp2_with fail
  go_quiet (fail)
  go_wp2_with fail
  go_quiet (fail)
  go_wp2_with fail
  go_ret
  exact ⟨rfl, (h.drewN _).setAt (k + 1), (Apart.drewN b w _).setCell rfl _⟩

set_option maxHeartbeats 400000 in
theorem rgive_any (b : Nat) (s : ByteArray) (k : Nat) (r : Bool) (w : World) (h : Cr b s (k + 1) r w) (hk : k < 200000) :
    Calls Tryz.prog 122 #[.pointer (some ⟨b, 0, none⟩)] w fun e w' => e = .panicked (thrown 2 (k / 8)) ∧ w' = w := by
  obtain ⟨c0, c1, c2, cf⟩ := h.cells
  obtain ⟨j, hj, hj2⟩ : ∃ j, j = k + 1 ∧ 1 ≤ j := ⟨k + 1, rfl, by omega⟩
  rw [← hj] at c1
  obtain ⟨q, hq⟩ : ∃ q, k / 8 = q := ⟨_, rfl⟩
  rw [hq]
  have e1 : IntKind.i64.wrap ((j : Int) - 1) = (k : Int) := by rw [IntKind.wrap_i64]; omega
  have e3 : IntKind.i64.wrap ((k : Int) / 8) = (q : Int) := by rw [IntKind.wrap_i64]; omega
  clear hj hq
  go_enter Tryz.func122, Tryz.ntmps122
  go_wp2_with fail
  refine (throw_any 2 q _).mono ?_
  rintro e w1 ⟨rfl, rfl⟩
  exact ⟨rfl, rfl, rfl⟩

set_option maxHeartbeats 400000 in
theorem ropen_end (b : Nat) (s : ByteArray) (k h : Nat) (r : Bool) (w : World) (hr : Cr b s k r w) (hs : s.size ≤ 20000) (hk : k = 8 * s.size) :
    Calls Tryz.prog 118 #[.pointer (some ⟨b, 0, none⟩), .int .i64 (h : Nat)] w fun e w' => e = .panicked (thrown 2 s.size) ∧ Apart b w w' := by
  have R := hide (rbit_end b s k r w hr hs hk)
  go_enter Tryz.func118, Tryz.ntmps118
  go_wp2_with fail
  refine (unhide R).mono ?_
  rintro e w1 ⟨rfl, a1⟩
  exact ⟨rfl, rfl, a1⟩

set_option maxHeartbeats 400000 in
theorem ropen_deep (b : Nat) (s : ByteArray) (k : Nat) (r : Bool) (w : World) (hr : Cr b s k r w) (hs : s.size ≤ 20000) (hk : k < 8 * s.size) (hb : bitAt s k = true) :
    Calls Tryz.prog 118 #[.pointer (some ⟨b, 0, none⟩), .int .i64 0] w fun e w' => e = .panicked (thrown 2 (k / 8)) ∧ Apart b w w' := by
  have R := rbit_ok b s k r w hr hs hk
  rw [hb] at R
  have R := hide R
  clear hb
  go_enter Tryz.func118, Tryz.ntmps118
  go_wp2_with fail
  refine (unhide R).mono ?_
  rintro e w1 ⟨rfl, h1, a1⟩
  go_wp2_with fail
  refine (rgive_any b s k r _ h1 (by omega)).mono ?_
  rintro e w2 ⟨rfl, rfl⟩
  exact ⟨rfl, rfl, a1⟩

set_option maxHeartbeats 400000 in
theorem ropen_ok (b : Nat) (s : ByteArray) (k h : Nat) (r : Bool) (w : World) (hr : Cr b s k r w) (hs : s.size ≤ 20000) (hk : k < 8 * s.size) (hb : bitAt s k = false ∨ 0 < h) :
    Calls Tryz.prog 118 #[.pointer (some ⟨b, 0, none⟩), .int .i64 (h : Nat)] w fun e w' => e = .returned (.bool (bitAt s k)) ∧ Cr b s (k + 1) r w' ∧ Apart b w w' := by
  have R := rbit_ok b s k r w hr hs hk
  cases hB : bitAt s k with
  | false =>
    rw [hB] at R
    have R := hide R
    clear hB hb
    go_enter Tryz.func118, Tryz.ntmps118
    go_wp2_with fail
    refine (unhide R).mono ?_
    rintro e w1 ⟨rfl, h1, a1⟩
    go_wp2_with fail
    go_ret
    exact ⟨rfl, h1, a1⟩
  | true =>
    rw [hB] at R hb
    have R := hide R
    have h0 : 0 < h := by rcases hb with hb | hb; exact absurd hb (by decide); exact hb
    have h2 : ¬ (h : Int) = 0 := by omega
    clear hB hb
    go_enter Tryz.func118, Tryz.ntmps118
    go_wp2_with fail
    refine (unhide R).mono ?_
    rintro e w1 ⟨rfl, h1, a1⟩
    go_wp2_with fail
    go_ret
    exact ⟨rfl, h1, a1⟩

/-- What a call of gamma leaves. -/
def GamEnd (b : Nat) (s : ByteArray) (r : Bool) (w : World) (o : Nm) (e : Ending) (w' : World) : Prop :=
  match o with
  | ⟨.inl (n, j)⟩ => e = .returned (.int .i64 n) ∧ Cr b s j r w' ∧ Apart b w w'
  | ⟨.inr j⟩ => e = .panicked (thrown 2 j) ∧ Apart b w w'

theorem len41 : Lib.bitLen 1099511627777 = 41 := by decide +kernel

set_option maxHeartbeats 1000000 in
theorem rgamma_any (b : Nat) (s : ByteArray) (k0 : Nat) (r : Bool) (w : World) (h : Cr b s k0 r w) (hs : s.size ≤ 20000) (hk0 : k0 ≤ 8 * s.size) :
    Calls Tryz.prog 120 #[.pointer (some ⟨b, 0, none⟩)] w fun e w' => GamEnd b s r w (gammaR s k0) e w' := by
  have L : ∀ w1, Calls Tryz.prog 139 #[.int .u64 1099511627777] w1 fun e w' => e = .returned (.int .i64 41) ∧ w' = w1 := by
    intro w1
    have := Tryz.bits_Len64 1099511627777 w1 (by omega) (by omega)
    rw [show (1099511627777 : Int).toNat = 1099511627777 from rfl, len41] at this
    exact this
  replace L := hide L
  go_enter Tryz.func120, Tryz.ntmps120
  go_wp2_with fail
  go_loopg [3] 41 (fun m v wr => ∃ d k : Nat, m = 42 - d ∧ 1 ≤ d ∧ d ≤ 41 ∧ v = .int .i64 d ∧ k ≤ 8 * s.size ∧ Cr b s k r wr ∧ Apart b w wr ∧ zerosR s 41 k0 1 = zerosR s (42 - d) k d)
  case atStart => exact ⟨1, k0, rfl, by omega, by omega, rfl, hk0, h, Apart.refl _ _, rfl⟩
  case round =>
    obtain ⟨d, k, hm, hd1, hd2, rfl, hk, hr, ha, hz⟩ := hrel
    have HZ := hide hz
    have HM := hide hm
    clear hz hm h hk0
    by_cases hend : k = 8 * s.size
    · have HG : Hid (gammaR s k0 = .bad s.size) := hide (gammaR_bad1 (by rw [unhide HZ, show 42 - d = (41 - d) + 1 by omega, zerosR, if_pos (by omega)]))
      go_wp2_with fail
      refine (rbit_end b s k r _ hr hs hend).mono ?_
      rintro e w1 ⟨rfl, a1⟩
      refine ⟨rfl, ?_⟩
      rw [unhide HG]
      exact ⟨rfl, ha.trans a1⟩
    · have hlt : k < 8 * s.size := by omega
      have R := rbit_ok b s k r _ hr hs hlt
      cases hB : bitAt s k with
      | true =>
        have Z2 : Hid (zerosR s 41 k0 1 = .ok d (k + 1)) := hide (by rw [unhide HZ, show 42 - d = (41 - d) + 1 by omega, zerosR, if_neg (by omega), if_pos hB])
        rw [hB] at R
        have R := hide R
        clear hB HZ
        go_wp2_with fail
        refine (unhide R).mono ?_
        rintro e w1 ⟨rfl, h1, a1⟩
        have a01 := ha.trans a1
        clear ha a1 hr R
        go_wp2_with fail
        go_loopg [4, 17] (d - 1) (fun m v x wr => ∃ i more j : Nat, m = d - 1 - i ∧ i ≤ d - 1 ∧ v = .int .i64 more ∧ x = .int .i64 i ∧ 1 ≤ more ∧ more < 2 ^ (i + 1) ∧ j ≤ 8 * s.size ∧ 1 ≤ j ∧ Cr b s j r wr ∧ Apart b w wr ∧ restR s (d - 1) (k + 1) 1 = restR s (d - 1 - i) j more)
        case atStart => exact ⟨0, 1, k + 1, by omega, by omega, rfl, rfl, by omega, by decide, by omega, by omega, h1, a01, rfl⟩
        case round =>
          obtain ⟨i, more, j, hm, hi, rfl, rfl, m1, m2, hj, hj1, hr, ha, hz⟩ := hrel
          have m3 : more < 2199023255552 := by
            have p1 : 2 ^ (i + 1) ≤ 2 ^ 41 := Nat.pow_le_pow_right (by omega) (by omega)
            have p2 : (2 : Nat) ^ 41 = 2199023255552 := by decide
            omega
          have HM2 := hide hm
          have HZ := hide hz
          clear hm hz h1 a01
          by_cases hil : i < d - 1
          · have il : (i : Int) < (d : Int) - 1 := by omega
            have e2 : d - 1 - i = (d - 1 - (i + 1)) + 1 := by omega
            by_cases hend2 : j = 8 * s.size
            · have HG : Hid (gammaR s k0 = .bad s.size) := hide (gammaR_bad2 (unhide Z2) (by rw [unhide HZ, e2, restR, if_pos (by omega)]))
              go_wp2_with fail
              refine (rbit_end b s j r _ hr hs hend2).mono ?_
              rintro e w2 ⟨rfl, a2⟩
              refine ⟨rfl, ?_⟩
              rw [unhide HG]
              exact ⟨rfl, ha.trans a2⟩
            · have hlt2 : j < 8 * s.size := by omega
              have R := rbit_ok b s j r _ hr hs hlt2
              have hp2 : 2 ^ (i + 1 + 1) = 2 * 2 ^ (i + 1) := by rw [Nat.pow_succ 2 (i + 1)]; omega
              cases hB2 : bitAt s j with
              | true =>
                have Z3 : Hid (restR s (d - 1) (k + 1) 1 = restR s (d - 1 - (i + 1)) (j + 1) (2 * more + 1)) := hide (by rw [unhide HZ, e2, restR, if_neg (by omega), hB2]; rfl)
                rw [hB2] at R
                have R := hide R
                clear hB2
                go_wp2_with fail
                refine (unhide R).mono ?_
                rintro e w2 ⟨rfl, h2, a2⟩
                go_wp2_with fail
                go_roundg (d - 1 - (i + 1))
                case measure => rw [unhide HM2]; omega
                case rel => exact ⟨i + 1, 2 * more + 1, j + 1, rfl, by omega, by congr 1; omega, by simp, by omega, by omega, by omega, by omega, h2, ha.trans a2, unhide Z3⟩
              | false =>
                have Z3 : Hid (restR s (d - 1) (k + 1) 1 = restR s (d - 1 - (i + 1)) (j + 1) (2 * more)) := hide (by rw [unhide HZ, e2, restR, if_neg (by omega), hB2]; rfl)
                rw [hB2] at R
                have R := hide R
                clear hB2
                go_wp2_with fail
                refine (unhide R).mono ?_
                rintro e w2 ⟨rfl, h2, a2⟩
                go_wp2_with fail
                go_roundg (d - 1 - (i + 1))
                case measure => rw [unhide HM2]; omega
                case rel => exact ⟨i + 1, 2 * more, j + 1, rfl, by omega, by congr 1; omega, by simp, by omega, by omega, by omega, by omega, h2, ha.trans a2, unhide Z3⟩
          · have il : ¬ (i : Int) < (d : Int) - 1 := by omega
            have Z3 : Hid (restR s (d - 1) (k + 1) 1 = .ok more j) := hide (by rw [unhide HZ, show d - 1 - i = 0 by omega, restR])
            by_cases ov : 1099511627776 < more - 1
            · have HG : Hid (gammaR s k0 = .bad ((j - 1) / 8)) := hide (gammaR_bad3 (unhide Z2) (unhide Z3) ov)
              obtain ⟨j', rfl⟩ : ∃ j', j = j' + 1 := ⟨j - 1, by omega⟩
              have ov2 : (1099511627776 : Int) < (more : Int) - 1 := by omega
              go_wp2_with fail
              refine (rgive_any b s j' r _ hr (by omega)).mono ?_
              rintro e w2 ⟨rfl, rfl⟩
              refine ⟨rfl, ?_⟩
              rw [unhide HG]
              exact ⟨rfl, ha⟩
            · have HG : Hid (gammaR s k0 = .ok (more - 1) j) := hide (gammaR_good (unhide Z2) (unhide Z3) ov)
              have ov2 : ¬ (1099511627776 : Int) < (more : Int) - 1 := by omega
              have ec : ((more - 1 : Nat) : Int) = (more : Int) - 1 := by omega
              go_wp2_with fail
              go_ret
              rw [unhide HG]
              exact ⟨by rw [ec]; rfl, hr, ha⟩
      | false =>
        rw [hB] at R
        have R := hide R
        by_cases h41 : d = 41
        · have HG : Hid (gammaR s k0 = .bad (k / 8)) := hide (gammaR_bad1 (by rw [unhide HZ, show 42 - d = (41 - d) + 1 by omega, zerosR, if_neg (by omega), if_neg (by rw [hB]; exact Bool.false_ne_true), if_pos h41]))
          clear hB
          subst h41
          go_wp2_with fail
          refine (unhide R).mono ?_
          rintro e w1 ⟨rfl, h1, a1⟩
          go_wp2_with fail
          refine (unhide L _).mono ?_
          rintro e w2 ⟨rfl, rfl⟩
          go_wp2_with fail
          refine (rgive_any b s k r _ h1 (by omega)).mono ?_
          rintro e w3 ⟨rfl, rfl⟩
          refine ⟨rfl, ?_⟩
          rw [unhide HG]
          exact ⟨rfl, ha.trans a1⟩
        · have Z2 : Hid (zerosR s 41 k0 1 = zerosR s (42 - (d + 1)) (k + 1) (d + 1)) := hide (by rw [unhide HZ, show 42 - d = (42 - (d + 1)) + 1 by omega, zerosR, if_neg (by omega), if_neg (by rw [hB]; exact Bool.false_ne_true), if_neg h41])
          clear hB
          have h42 : ¬ (d : Int) = 41 := by omega
          go_wp2_with fail
          refine (unhide R).mono ?_
          rintro e w1 ⟨rfl, h1, a1⟩
          go_wp2_with fail
          refine (unhide L _).mono ?_
          rintro e w2 ⟨rfl, rfl⟩
          go_wp2_with fail
          go_roundg (42 - (d + 1))
          case measure => rw [unhide HM]; omega
          case rel => exact ⟨d + 1, k + 1, rfl, by omega, by omega, by simp, by omega, h1, ha.trans a1, unhide Z2⟩

/-- What a call of the reader's id, ev, leaves. -/
def CIdEnd (b : Nat) (s : ByteArray) (w : World) (o : Rc (Tr Bool)) (e : Ending) (w' : World) : Prop :=
  match o with
  | ⟨.inl (t, k, r)⟩ => ∃ v, e = .returned v ∧ TB w' v t ∧ Cr b s k r w' ∧ k ≤ 8 * s.size ∧ Apart b w w'
  | ⟨.inr j⟩ => e = .panicked (thrown 2 j) ∧ Apart b w w'
def CEvEnd (b : Nat) (s : ByteArray) (w : World) (o : Rc (Tr Nat × Nat)) (e : Ending) (w' : World) : Prop :=
  match o with
  | ⟨.inl ((t, n), k, r)⟩ => ∃ v, e = .returned (.tuple #[v, .int .i64 n]) ∧ TI w' v t ∧ Cr b s k r w' ∧ k ≤ 8 * s.size ∧ Apart b w w'
  | ⟨.inr j⟩ => e = .panicked (thrown 2 j) ∧ Apart b w w'

set_option maxHeartbeats 400000 in
theorem rcid_end (b : Nat) (s : ByteArray) (hs : s.size ≤ 20000) (h k : Nat) (r : Bool) (w : World) (h0 : Cr b s k r w) (hk : 8 * s.size = k) :
    Calls Tryz.prog 72 #[.pointer (some ⟨b, 0, none⟩), .int .i64 (h : Nat)] w fun e w' => CIdEnd b s w (idC s h k r) e w' := by
  rw [idC_end h (by omega)]
  have R := hide (ropen_end b s k h r w h0 hs hk.symm)
  go_enter Tryz.func72, Tryz.ntmps72
  go_wp2_with fail
  refine (unhide R).mono ?_
  rintro e w1 ⟨rfl, a1⟩
  exact ⟨rfl, rfl, a1⟩

set_option maxHeartbeats 800000 in
theorem rcid_leaf (b : Nat) (s : ByteArray) (hs : s.size ≤ 20000) (h k : Nat) (r : Bool) (w : World) (h0 : Cr b s k r w) (hk : k < 8 * s.size) (hb : bitAt s k = false) :
    Calls Tryz.prog 72 #[.pointer (some ⟨b, 0, none⟩), .int .i64 (h : Nat)] w fun e w' => CIdEnd b s w (idC s h k r) e w' := by
  rw [idC_leaf h (by omega) hb]
  have R := ropen_ok b s k h r w h0 hs hk (Or.inl hb)
  rw [hb] at R
  have R := hide R
  clear hb
  by_cases hend : k + 1 = 8 * s.size
  · rw [leafC, if_pos (by omega)]
    go_enter Tryz.func72, Tryz.ntmps72
    go_wp2_with fail
    refine (unhide R).mono ?_
    rintro e w1 ⟨rfl, h1, a1⟩
    go_wp2_with fail
    refine (rbit_end b s (k + 1) r _ h1 hs hend).mono ?_
    rintro e w2 ⟨rfl, a2⟩
    exact ⟨rfl, rfl, a1.trans a2⟩
  · rw [leafC, if_neg (by omega)]
    have RB := hide (fun w (h : Cr b s (k + 1) r w) => rbit_ok b s (k + 1) r w h hs (by omega))
    generalize bitAt s (k + 1) = B at *
    go_enter Tryz.func72, Tryz.ntmps72
    go_wp2_with fail
    refine (unhide R).mono ?_
    rintro e w1 ⟨rfl, h1, a1⟩
    go_wp2_with fail
    refine (unhide RB _ h1).mono ?_
    rintro e w2 ⟨rfl, h2, a2⟩
    go_wp2_with fail
    refine (leafB_any B _).mono ?_
    rintro e w3 ⟨rfl, rfl⟩
    go_wp2_with fail
    go_ret
    exact ⟨_, rfl, ⟨w2.heap.size, rfl, heap_new w2 _⟩, h2.alloc _, by omega, (a1.trans a2).alloc _⟩

set_option maxHeartbeats 400000 in
theorem rcid_deep (b : Nat) (s : ByteArray) (hs : s.size ≤ 20000) (k : Nat) (r : Bool) (w : World) (h0 : Cr b s k r w) (hk : k < 8 * s.size) (hb : bitAt s k = true) :
    Calls Tryz.prog 72 #[.pointer (some ⟨b, 0, none⟩), .int .i64 0] w fun e w' => CIdEnd b s w (idC s 0 k r) e w' := by
  rw [idC_deep (by omega) hb]
  have R := hide (ropen_deep b s k r w h0 hs hk hb)
  clear hb
  go_enter Tryz.func72, Tryz.ntmps72
  go_wp2_with fail
  refine (unhide R).mono ?_
  rintro e w1 ⟨rfl, a1⟩
  exact ⟨rfl, rfl, a1⟩

set_option maxHeartbeats 1600000 in
theorem rcid_pair (b : Nat) (s : ByteArray) (hs : s.size ≤ 20000) (h : Nat) (hh : h < 8)
    (ih : Hid (∀ (k : Nat) (r : Bool) (w : World), Cr b s k r w → k ≤ 8 * s.size → Calls Tryz.prog 72 #[.pointer (some ⟨b, 0, none⟩), .int .i64 (h : Nat)] w fun e w' => CIdEnd b s w (idC s h k r) e w'))
    (k : Nat) (r : Bool) (w : World) (h0 : Cr b s k r w) (hk : k < 8 * s.size) (hb : bitAt s k = true) :
    Calls Tryz.prog 72 #[.pointer (some ⟨b, 0, none⟩), .int .i64 ((h + 1 : Nat) : Int)] w fun e w' => CIdEnd b s w (idC s (h + 1) k r) e w' := by
  have HB := hide hb
  have R := ropen_ok b s k (h + 1) r w h0 hs hk (Or.inr (by omega))
  rw [hb] at R
  have R := hide R
  clear hb
  go_enter Tryz.func72, Tryz.ntmps72
  go_wp2_with fail
  refine (unhide R).mono ?_
  rintro e w1 ⟨rfl, h1, a1⟩
  clear R h0
  cases f : idC s h (k + 1) r using Rc.cs with
  | bad j =>
    have HF := hide (idC_bad1 (by omega) (unhide HB) f)
    have IH := unhide ih (k + 1) r w1 h1 (by omega)
    rw [f] at IH
    have IH := hide IH
    clear f
    go_wp2_with fail
    refine (unhide IH).mono ?_
    rintro e w2 ⟨rfl, a2⟩
    refine ⟨rfl, ?_⟩
    rw [unhide HF]
    exact ⟨rfl, a1.trans a2⟩
  | ok l k1 r1 =>
    have IH := unhide ih (k + 1) r w1 h1 (by omega)
    rw [f] at IH
    have F := hide f
    have IH := hide IH
    clear f
    go_wp2_with fail
    refine (unhide IH).mono ?_
    rintro e w2 ⟨v, rfl, t2, h2, b2, a2⟩
    clear IH
    obtain ⟨m, rfl⟩ := TA.root t2
    have a12 := a1.trans a2
    clear a1 a2 h1
    cases f2 : idC s h k1 r1 using Rc.cs with
    | bad j =>
      have HF := hide (idC_bad2 (by omega) (unhide HB) (unhide F) f2)
      have IH := unhide ih k1 r1 w2 h2 b2
      rw [f2] at IH
      have IH := hide IH
      clear f2
      go_wp2_with fail
      refine (unhide IH).mono ?_
      rintro e w3 ⟨rfl, a3⟩
      refine ⟨rfl, ?_⟩
      rw [unhide HF]
      exact ⟨rfl, a12.trans a3⟩
    | ok t k2 r2 =>
      have HF := hide (idC_pair (by omega) (unhide HB) (unhide F) f2)
      have IH := unhide ih k1 r1 w2 h2 b2
      rw [f2] at IH
      have IH := hide IH
      clear f2 F HB
      go_wp2_with fail
      refine (unhide IH).mono ?_
      rintro e w3 ⟨v, rfl, u3, h3, b3, a3⟩
      clear IH
      obtain ⟨m2, rfl⟩ := TA.root u3
      have t3 := t2.apartC h2 a3
      have a13 := a12.trans a3
      clear t2 h2 a12 a3
      obtain ⟨c0, c1, c2, cf⟩ := h3.cells
      cases r2 with
      | true =>
        go_wp2_with fail
        have h4 := h3.setRough true
        have a4 := a13.setCell (p := ⟨b, 2, none⟩) rfl (.bool true)
        have t4 := t3.apartC h3 ((Apart.refl b w3).setCell (p := ⟨b, 2, none⟩) rfl (.bool true))
        have u4 := u3.apartC h3 ((Apart.refl b w3).setCell (p := ⟨b, 2, none⟩) rfl (.bool true))
        generalize w3.setCell ⟨b, 2, none⟩ (.bool true) = W4 at *
        refine (pairB_any _ _ _).mono ?_
        rintro e w5 ⟨rfl, rfl⟩
        go_wp2_with fail
        go_ret
        rw [unhide HF]
        exact ⟨_, rfl, TB.pair t4 u4, h4.alloc _, b3, a4.alloc _⟩
      | false =>
        have SM := sameB_any w3 _ _ l t t3 u3
        generalize sameB l t = S at *
        have SM := hide SM
        go_wp2_with fail
        refine (unhide SM).mono ?_
        rintro e w4 ⟨rfl, n4, rfl⟩
        go_wp2_with fail
        have h4 := (h3.drewN n4).setRough S
        have a4 := (a13.trans (Apart.drewN b w3 n4)).setCell (p := ⟨b, 2, none⟩) rfl (.bool S)
        have t4 := (t3.drewN n4).apartC (h3.drewN n4) ((Apart.refl b (w3.drewN n4)).setCell (p := ⟨b, 2, none⟩) rfl (.bool S))
        have u4 := (u3.drewN n4).apartC (h3.drewN n4) ((Apart.refl b (w3.drewN n4)).setCell (p := ⟨b, 2, none⟩) rfl (.bool S))
        generalize (w3.drewN n4).setCell ⟨b, 2, none⟩ (.bool S) = W4 at *
        refine (pairB_any _ _ _).mono ?_
        rintro e w5 ⟨rfl, rfl⟩
        go_wp2_with fail
        go_ret
        rw [unhide HF]
        exact ⟨_, rfl, TB.pair t4 u4, h4.alloc _, b3, a4.alloc _⟩

theorem rcid_any (b : Nat) (s : ByteArray) (hs : s.size ≤ 20000) : ∀ (h : Nat), h < 9 → ∀ (k : Nat) (r : Bool) (w : World), Cr b s k r w → k ≤ 8 * s.size →
    Calls Tryz.prog 72 #[.pointer (some ⟨b, 0, none⟩), .int .i64 (h : Nat)] w fun e w' => CIdEnd b s w (idC s h k r) e w' := by
  intro h
  induction h with
  | zero =>
    intro _ k r w h0 hk
    by_cases hend : 8 * s.size = k
    · exact rcid_end b s hs 0 k r w h0 hend
    · cases hb : bitAt s k with
      | false => exact rcid_leaf b s hs 0 k r w h0 (by omega) hb
      | true => exact rcid_deep b s hs k r w h0 (by omega) hb
  | succ h ih =>
    intro hh k r w h0 hk
    by_cases hend : 8 * s.size = k
    · exact rcid_end b s hs (h + 1) k r w h0 hend
    · cases hb : bitAt s k with
      | false => exact rcid_leaf b s hs (h + 1) k r w h0 (by omega) hb
      | true => exact rcid_pair b s hs h (by omega) (hide (ih (by omega))) k r w h0 (by omega) hb

end Go.Proofs.YtoebmfhgaalcdaaGreatDoor
