/-
  Our own. The reader of codes: what its calls do, of any code.
-/
import Derived.Test.YtoebmfhgaalcdaaGreatDoorCodeAll
import Derived.Test.YtoebmfhgaalcdaaGreatDoorWalkCheck
import Derived.Test.YtoebmfhgaalcdaaGreatDoorShelf
import Derived.Deep.LoopGhost
import Derived.Test.YtoebmfhgaalcdaaGreatDoorWalkWrite
import Derived.Test.YtoebmfhgaalcdaaGreatDoorBoxes
import Derived.OwnWalk
import Derived.Laws.AppendOwn
import Derived.Laws.OwnMore
import Derived.Laws.BytesString
import Derived.Deep.AppendLies
import Derived.Deep.RegionHeld3
import Derived.Deep.MidRow
import Derived.Test.YtoebmfhgaalcdaaGreatDoorStamps
import Derived.Lib.ItoaNum
import Derived.Laws.Bits64b
import Derived.Laws.IdiomStrings
namespace Go.Proofs.YtoebmfhgaalcdaaGreatDoor
open Go.RowKit

/-- The reader's box. -/
def crObj (s : ByteArray) (k : Nat) (r : Bool) : Obj := .cells #[.string s, .int .i64 k, .bool r] 112
def Cr (b : Nat) (s : ByteArray) (k : Nat) (r : Bool) (w : World) : Prop := w.heap[b]? = some (crObj s k r)
theorem Cr.cells {b : Nat} {s : ByteArray} {k : Nat} {r : Bool} {w : World} (h : Cr b s k r w) :
    w.cell? ⟨b, 0, none⟩ = some (.string s) ∧ w.cell? ⟨b, 1, none⟩ = some (.int .i64 k) ∧ w.cell? ⟨b, 2, none⟩ = some (.bool r) ∧ (∀ o, w.frozen? ⟨b, o, none⟩ = false) := by
  unfold Cr crObj at h
  refine ⟨?_, ?_, ?_, ?_⟩
  · simp [World.cell?, h]
  · simp [World.cell?, h]
  · simp [World.cell?, h]
  · intro o; simp [World.frozen?, h]
theorem Cr.drewN {b : Nat} {s : ByteArray} {k : Nat} {r : Bool} {w : World} (h : Cr b s k r w) (n : Nat) : Cr b s k r (w.drewN n) := h
theorem Cr.alloc {b : Nat} {s : ByteArray} {k : Nat} {r : Bool} {w : World} (h : Cr b s k r w) (o : Obj) : Cr b s k r (w.alloc o) :=
  (Below.heap_alloc w o b (lt_of_heap h)).trans h
theorem Cr.setAt {b : Nat} {s : ByteArray} {k : Nat} {r : Bool} {w : World} (h : Cr b s k r w) (j : Nat) : Cr b s j r (w.setCell ⟨b, 1, none⟩ (.int .i64 j)) := by
  unfold Cr crObj at *
  simp [World.setCell, Array.getElem?_modify, h]
theorem Cr.setRough {b : Nat} {s : ByteArray} {k : Nat} {r : Bool} {w : World} (h : Cr b s k r w) (q : Bool) : Cr b s k q (w.setCell ⟨b, 2, none⟩ (.bool q)) := by
  unfold Cr crObj at *
  simp [World.setCell, Array.getElem?_modify, h]
theorem TB.apartC {b : Nat} {s : ByteArray} {k : Nat} {r : Bool} {w w' : World} (hr : Cr b s k r w) (ha : Apart b w w') {v : Value} {t : Tr Bool} (h : TB w v t) : TB w' v t :=
  TB.other hr (by decide) ha h
theorem TI.apartC {b : Nat} {s : ByteArray} {k : Nat} {r : Bool} {w w' : World} (hr : Cr b s k r w) (ha : Apart b w w') {v : Value} {t : Tr Nat} (h : TI w v t) : TI w' v t :=
  TI.other hr (by decide) ha h

set_option maxHeartbeats 400000 in
theorem rbit_end (b : Nat) (s : ByteArray) (k : Nat) (r : Bool) (w : World) (h : Cr b s k r w) (hs : s.size ≤ 20000) (hk : k = 8 * s.size) :
    Calls Tryz.prog 119 #[.pointer (some ⟨b, 0, none⟩)] w fun e w' => e = .panicked (thrown 2 s.size) ∧ Apart b w w' := by
  obtain ⟨c0, c1, c2, cf⟩ := h.cells
  have e1 : IntKind.i64.wrap (8 * (s.size : Int)) = 8 * (s.size : Int) := by rw [IntKind.wrap_i64]; omega
  have e2 : ((k : Nat) : Int) = 8 * (s.size : Int) := by omega
  go_enter Tryz.func119, Tryz.ntmps119
  go_wp2_with fail
  go_quiet (fail)
  go_wp2_with fail
  refine (throw_any 2 s.size _).mono ?_
  rintro e w1 ⟨rfl, rfl⟩
  exact ⟨rfl, rfl, Apart.drewN _ _ _⟩

theorem and128 (x p : Nat) (hx : x < 256) (hp : p < 8) : (bits BinOp.and IntKind.u8 ((x : Int) * 2 ^ p % 256) 128 != 0) = x.testBit (7 - p) := by
  have H : ∀ (a : Fin 256) (c : Fin 8), (bits BinOp.and IntKind.u8 ((a.1 : Int) * 2 ^ c.1 % 256) 128 != 0) = a.1.testBit (7 - c.1) := by decide +kernel
  exact H ⟨x, hx⟩ ⟨p, hp⟩
theorem bit_at (s : ByteArray) (k q p : Nat) (hq : k / 8 = q) (hp : k % 8 = p) (hk : q < s.size) : (bits BinOp.and IntKind.u8 ((s[q].toNat : Int) * 2 ^ p % 256) 128 != 0) = bitAt s k := by
  rw [and128 _ _ (UInt8.toNat_lt _) (by omega), bitAt, hq, hp, nx_in s q hk]

set_option maxHeartbeats 400000 in
theorem rbit_ok (b : Nat) (s : ByteArray) (k : Nat) (r : Bool) (w : World) (h : Cr b s k r w) (hs : s.size ≤ 20000) (hk : k < 8 * s.size) :
    Calls Tryz.prog 119 #[.pointer (some ⟨b, 0, none⟩)] w fun e w' => e = .returned (.bool (bitAt s k)) ∧ Cr b s (k + 1) r w' ∧ Apart b w w' := by
  obtain ⟨c0, c1, c2, cf⟩ := h.cells
  have e1 : IntKind.i64.wrap (8 * (s.size : Int)) = 8 * (s.size : Int) := by rw [IntKind.wrap_i64]; omega
  have e2 : ¬ ((k : Nat) : Int) = 8 * (s.size : Int) := by omega
  obtain ⟨q, p, hq, hp, hk2⟩ : ∃ q p, k / 8 = q ∧ k % 8 = p ∧ q < s.size := ⟨_, _, rfl, rfl, by omega⟩
  have e3 : IntKind.i64.wrap ((k : Int) / 8) = (q : Int) := by rw [IntKind.wrap_i64]; omega
  have e4 : IntKind.i64.wrap ((k : Int) % 8) = (p : Int) := by rw [IntKind.wrap_i64]; omega
  have e5 : (q : Int) < (s.size : Int) := by omega
  have e6 : ¬ (p : Int) < 0 := by omega
  have eb := bit_at s k q p hq hp hk2
  go_enter Tryz.func119, Tryz.ntmps119
  go_wp2_with fail
  go_quiet (fail)
  go_wp2_with fail
  go_quiet (fail)
  go_wp2_with fail
  go_ret
  exact ⟨rfl, (h.drewN _).setAt (k + 1), (Apart.drewN b w _).setCell rfl _⟩

set_option maxHeartbeats 400000 in
theorem rgive_any (b : Nat) (s : ByteArray) (k : Nat) (r : Bool) (w : World) (h : Cr b s (k + 1) r w) (hk : k < 200000) :
    Calls Tryz.prog 122 #[.pointer (some ⟨b, 0, none⟩)] w fun e w' => e = .panicked (thrown 2 (k / 8)) ∧ w' = w := by
  obtain ⟨c0, c1, c2, cf⟩ := h.cells
  obtain ⟨j, hj, hj2⟩ : ∃ j, j = k + 1 ∧ 1 ≤ j := ⟨k + 1, rfl, by omega⟩
  rw [← hj] at c1
  obtain ⟨q, hq⟩ : ∃ q, k / 8 = q := ⟨_, rfl⟩
  rw [hq]
  have e1 : IntKind.i64.wrap ((j : Int) - 1) = (k : Int) := by rw [IntKind.wrap_i64]; omega
  have e3 : IntKind.i64.wrap ((k : Int) / 8) = (q : Int) := by rw [IntKind.wrap_i64]; omega
  clear hj hq
  go_enter Tryz.func122, Tryz.ntmps122
  go_wp2_with fail
  refine (throw_any 2 q _).mono ?_
  rintro e w1 ⟨rfl, rfl⟩
  exact ⟨rfl, rfl, rfl⟩

set_option maxHeartbeats 400000 in
theorem ropen_end (b : Nat) (s : ByteArray) (k h : Nat) (r : Bool) (w : World) (hr : Cr b s k r w) (hs : s.size ≤ 20000) (hk : k = 8 * s.size) :
    Calls Tryz.prog 118 #[.pointer (some ⟨b, 0, none⟩), .int .i64 (h : Nat)] w fun e w' => e = .panicked (thrown 2 s.size) ∧ Apart b w w' := by
  have R := hide (rbit_end b s k r w hr hs hk)
  go_enter Tryz.func118, Tryz.ntmps118
  go_wp2_with fail
  refine (unhide R).mono ?_
  rintro e w1 ⟨rfl, a1⟩
  exact ⟨rfl, rfl, a1⟩

set_option maxHeartbeats 400000 in
theorem ropen_deep (b : Nat) (s : ByteArray) (k : Nat) (r : Bool) (w : World) (hr : Cr b s k r w) (hs : s.size ≤ 20000) (hk : k < 8 * s.size) (hb : bitAt s k = true) :
    Calls Tryz.prog 118 #[.pointer (some ⟨b, 0, none⟩), .int .i64 0] w fun e w' => e = .panicked (thrown 2 (k / 8)) ∧ Apart b w w' := by
  have R := rbit_ok b s k r w hr hs hk
  rw [hb] at R
  have R := hide R
  clear hb
  go_enter Tryz.func118, Tryz.ntmps118
  go_wp2_with fail
  refine (unhide R).mono ?_
  rintro e w1 ⟨rfl, h1, a1⟩
  go_wp2_with fail
  refine (rgive_any b s k r _ h1 (by omega)).mono ?_
  rintro e w2 ⟨rfl, rfl⟩
  exact ⟨rfl, rfl, a1⟩

set_option maxHeartbeats 400000 in
theorem ropen_ok (b : Nat) (s : ByteArray) (k h : Nat) (r : Bool) (w : World) (hr : Cr b s k r w) (hs : s.size ≤ 20000) (hk : k < 8 * s.size) (hb : bitAt s k = false ∨ 0 < h) :
    Calls Tryz.prog 118 #[.pointer (some ⟨b, 0, none⟩), .int .i64 (h : Nat)] w fun e w' => e = .returned (.bool (bitAt s k)) ∧ Cr b s (k + 1) r w' ∧ Apart b w w' := by
  have R := rbit_ok b s k r w hr hs hk
  cases hB : bitAt s k with
  | false =>
    rw [hB] at R
    have R := hide R
    clear hB hb
    go_enter Tryz.func118, Tryz.ntmps118
    go_wp2_with fail
    refine (unhide R).mono ?_
    rintro e w1 ⟨rfl, h1, a1⟩
    go_wp2_with fail
    go_ret
    exact ⟨rfl, h1, a1⟩
  | true =>
    rw [hB] at R hb
    have R := hide R
    have h0 : 0 < h := by rcases hb with hb | hb; exact absurd hb (by decide); exact hb
    have h2 : ¬ (h : Int) = 0 := by omega
    clear hB hb
    go_enter Tryz.func118, Tryz.ntmps118
    go_wp2_with fail
    refine (unhide R).mono ?_
    rintro e w1 ⟨rfl, h1, a1⟩
    go_wp2_with fail
    go_ret
    exact ⟨rfl, h1, a1⟩

/-- What a call of gamma leaves. -/
def GamEnd (b : Nat) (s : ByteArray) (r : Bool) (w : World) (o : Nm) (e : Ending) (w' : World) : Prop :=
  match o with
  | ⟨.inl (n, j)⟩ => e = .returned (.int .i64 n) ∧ Cr b s j r w' ∧ Apart b w w'
  | ⟨.inr j⟩ => e = .panicked (thrown 2 j) ∧ Apart b w w'

theorem len41 : Lib.bitLen 1099511627777 = 41 := by decide +kernel

set_option maxHeartbeats 1000000 in
theorem rgamma_any (b : Nat) (s : ByteArray) (k0 : Nat) (r : Bool) (w : World) (h : Cr b s k0 r w) (hs : s.size ≤ 20000) (hk0 : k0 ≤ 8 * s.size) :
    Calls Tryz.prog 120 #[.pointer (some ⟨b, 0, none⟩)] w fun e w' => GamEnd b s r w (gammaR s k0) e w' := by
  have L : ∀ w1, Calls Tryz.prog 139 #[.int .u64 1099511627777] w1 fun e w' => e = .returned (.int .i64 41) ∧ w' = w1 := by
    intro w1
    have := Tryz.bits_Len64 1099511627777 w1 (by omega) (by omega)
    rw [show (1099511627777 : Int).toNat = 1099511627777 from rfl, len41] at this
    exact this
  replace L := hide L
  go_enter Tryz.func120, Tryz.ntmps120
  go_wp2_with fail
  go_loopg [3] 41 (fun m v wr => ∃ d k : Nat, m = 42 - d ∧ 1 ≤ d ∧ d ≤ 41 ∧ v = .int .i64 d ∧ k ≤ 8 * s.size ∧ Cr b s k r wr ∧ Apart b w wr ∧ zerosR s 41 k0 1 = zerosR s (42 - d) k d)
  case atStart => exact ⟨1, k0, rfl, by omega, by omega, rfl, hk0, h, Apart.refl _ _, rfl⟩
  case round =>
    obtain ⟨d, k, hm, hd1, hd2, rfl, hk, hr, ha, hz⟩ := hrel
    have HZ := hide hz
    have HM := hide hm
    clear hz hm h hk0
    by_cases hend : k = 8 * s.size
    · have HG : Hid (gammaR s k0 = .bad s.size) := hide (gammaR_bad1 (by rw [unhide HZ, show 42 - d = (41 - d) + 1 by omega, zerosR, if_pos (by omega)]))
      go_wp2_with fail
      refine (rbit_end b s k r _ hr hs hend).mono ?_
      rintro e w1 ⟨rfl, a1⟩
      refine ⟨rfl, ?_⟩
      rw [unhide HG]
      exact ⟨rfl, ha.trans a1⟩
    · have hlt : k < 8 * s.size := by omega
      have R := rbit_ok b s k r _ hr hs hlt
      cases hB : bitAt s k with
      | true =>
        have Z2 : Hid (zerosR s 41 k0 1 = .ok d (k + 1)) := hide (by rw [unhide HZ, show 42 - d = (41 - d) + 1 by omega, zerosR, if_neg (by omega), if_pos hB])
        rw [hB] at R
        have R := hide R
        clear hB HZ
        go_wp2_with fail
        refine (unhide R).mono ?_
        rintro e w1 ⟨rfl, h1, a1⟩
        have a01 := ha.trans a1
        clear ha a1 hr R
        go_wp2_with fail
        go_loopg [4, 17] (d - 1) (fun m v x wr => ∃ i more j : Nat, m = d - 1 - i ∧ i ≤ d - 1 ∧ v = .int .i64 more ∧ x = .int .i64 i ∧ 1 ≤ more ∧ more < 2 ^ (i + 1) ∧ j ≤ 8 * s.size ∧ 1 ≤ j ∧ Cr b s j r wr ∧ Apart b w wr ∧ restR s (d - 1) (k + 1) 1 = restR s (d - 1 - i) j more)
        case atStart => exact ⟨0, 1, k + 1, by omega, by omega, rfl, rfl, by omega, by decide, by omega, by omega, h1, a01, rfl⟩
        case round =>
          obtain ⟨i, more, j, hm, hi, rfl, rfl, m1, m2, hj, hj1, hr, ha, hz⟩ := hrel
          have m3 : more < 2199023255552 := by
            have p1 : 2 ^ (i + 1) ≤ 2 ^ 41 := Nat.pow_le_pow_right (by omega) (by omega)
            have p2 : (2 : Nat) ^ 41 = 2199023255552 := by decide
            omega
          have HM2 := hide hm
          have HZ := hide hz
          clear hm hz h1 a01
          by_cases hil : i < d - 1
          · have il : (i : Int) < (d : Int) - 1 := by omega
            have e2 : d - 1 - i = (d - 1 - (i + 1)) + 1 := by omega
            by_cases hend2 : j = 8 * s.size
            · have HG : Hid (gammaR s k0 = .bad s.size) := hide (gammaR_bad2 (unhide Z2) (by rw [unhide HZ, e2, restR, if_pos (by omega)]))
              go_wp2_with fail
              refine (rbit_end b s j r _ hr hs hend2).mono ?_
              rintro e w2 ⟨rfl, a2⟩
              refine ⟨rfl, ?_⟩
              rw [unhide HG]
              exact ⟨rfl, ha.trans a2⟩
            · have hlt2 : j < 8 * s.size := by omega
              have R := rbit_ok b s j r _ hr hs hlt2
              have hp2 : 2 ^ (i + 1 + 1) = 2 * 2 ^ (i + 1) := by rw [Nat.pow_succ 2 (i + 1)]; omega
              cases hB2 : bitAt s j with
              | true =>
                have Z3 : Hid (restR s (d - 1) (k + 1) 1 = restR s (d - 1 - (i + 1)) (j + 1) (2 * more + 1)) := hide (by rw [unhide HZ, e2, restR, if_neg (by omega), hB2]; rfl)
                rw [hB2] at R
                have R := hide R
                clear hB2
                go_wp2_with fail
                refine (unhide R).mono ?_
                rintro e w2 ⟨rfl, h2, a2⟩
                go_wp2_with fail
                go_roundg (d - 1 - (i + 1))
                case measure => rw [unhide HM2]; omega
                case rel => exact ⟨i + 1, 2 * more + 1, j + 1, rfl, by omega, by congr 1; omega, by simp, by omega, by omega, by omega, by omega, h2, ha.trans a2, unhide Z3⟩
              | false =>
                have Z3 : Hid (restR s (d - 1) (k + 1) 1 = restR s (d - 1 - (i + 1)) (j + 1) (2 * more)) := hide (by rw [unhide HZ, e2, restR, if_neg (by omega), hB2]; rfl)
                rw [hB2] at R
                have R := hide R
                clear hB2
                go_wp2_with fail
                refine (unhide R).mono ?_
                rintro e w2 ⟨rfl, h2, a2⟩
                go_wp2_with fail
                go_roundg (d - 1 - (i + 1))
                case measure => rw [unhide HM2]; omega
                case rel => exact ⟨i + 1, 2 * more, j + 1, rfl, by omega, by congr 1; omega, by simp, by omega, by omega, by omega, by omega, h2, ha.trans a2, unhide Z3⟩
          · have il : ¬ (i : Int) < (d : Int) - 1 := by omega
            have Z3 : Hid (restR s (d - 1) (k + 1) 1 = .ok more j) := hide (by rw [unhide HZ, show d - 1 - i = 0 by omega, restR])
            by_cases ov : 1099511627776 < more - 1
            · have HG : Hid (gammaR s k0 = .bad ((j - 1) / 8)) := hide (gammaR_bad3 (unhide Z2) (unhide Z3) ov)
              obtain ⟨j', rfl⟩ : ∃ j', j = j' + 1 := ⟨j - 1, by omega⟩
              have ov2 : (1099511627776 : Int) < (more : Int) - 1 := by omega
              go_wp2_with fail
              refine (rgive_any b s j' r _ hr (by omega)).mono ?_
              rintro e w2 ⟨rfl, rfl⟩
              refine ⟨rfl, ?_⟩
              rw [unhide HG]
              exact ⟨rfl, ha⟩
            · have HG : Hid (gammaR s k0 = .ok (more - 1) j) := hide (gammaR_good (unhide Z2) (unhide Z3) ov)
              have ov2 : ¬ (1099511627776 : Int) < (more : Int) - 1 := by omega
              have ec : ((more - 1 : Nat) : Int) = (more : Int) - 1 := by omega
              go_wp2_with fail
              go_ret
              rw [unhide HG]
              exact ⟨by rw [ec]; rfl, hr, ha⟩
      | false =>
        rw [hB] at R
        have R := hide R
        by_cases h41 : d = 41
        · have HG : Hid (gammaR s k0 = .bad (k / 8)) := hide (gammaR_bad1 (by rw [unhide HZ, show 42 - d = (41 - d) + 1 by omega, zerosR, if_neg (by omega), if_neg (by rw [hB]; exact Bool.false_ne_true), if_pos h41]))
          clear hB
          subst h41
          go_wp2_with fail
          refine (unhide R).mono ?_
          rintro e w1 ⟨rfl, h1, a1⟩
          go_wp2_with fail
          refine (unhide L _).mono ?_
          rintro e w2 ⟨rfl, rfl⟩
          go_wp2_with fail
          refine (rgive_any b s k r _ h1 (by omega)).mono ?_
          rintro e w3 ⟨rfl, rfl⟩
          refine ⟨rfl, ?_⟩
          rw [unhide HG]
          exact ⟨rfl, ha.trans a1⟩
        · have Z2 : Hid (zerosR s 41 k0 1 = zerosR s (42 - (d + 1)) (k + 1) (d + 1)) := hide (by rw [unhide HZ, show 42 - d = (42 - (d + 1)) + 1 by omega, zerosR, if_neg (by omega), if_neg (by rw [hB]; exact Bool.false_ne_true), if_neg h41])
          clear hB
          have h42 : ¬ (d : Int) = 41 := by omega
          go_wp2_with fail
          refine (unhide R).mono ?_
          rintro e w1 ⟨rfl, h1, a1⟩
          go_wp2_with fail
          refine (unhide L _).mono ?_
          rintro e w2 ⟨rfl, rfl⟩
          go_wp2_with fail
          go_roundg (42 - (d + 1))
          case measure => rw [unhide HM]; omega
          case rel => exact ⟨d + 1, k + 1, rfl, by omega, by omega, by simp, by omega, h1, ha.trans a1, unhide Z2⟩

/-- What a call of the reader's id, ev, leaves. -/
def CIdEnd (b : Nat) (s : ByteArray) (w : World) (o : Rc (Tr Bool)) (e : Ending) (w' : World) : Prop :=
  match o with
  | ⟨.inl (t, k, r)⟩ => ∃ v, e = .returned v ∧ TB w' v t ∧ Cr b s k r w' ∧ k ≤ 8 * s.size ∧ Apart b w w'
  | ⟨.inr j⟩ => e = .panicked (thrown 2 j) ∧ Apart b w w'
def CEvEnd (b : Nat) (s : ByteArray) (w : World) (o : Rc (Tr Nat × Nat)) (e : Ending) (w' : World) : Prop :=
  match o with
  | ⟨.inl ((t, n), k, r)⟩ => ∃ v, e = .returned (.tuple #[v, .int .i64 n]) ∧ TI w' v t ∧ Cr b s k r w' ∧ k ≤ 8 * s.size ∧ Apart b w w'
  | ⟨.inr j⟩ => e = .panicked (thrown 2 j) ∧ Apart b w w'

set_option maxHeartbeats 400000 in
theorem rcid_end (b : Nat) (s : ByteArray) (hs : s.size ≤ 20000) (h k : Nat) (r : Bool) (w : World) (h0 : Cr b s k r w) (hk : 8 * s.size = k) :
    Calls Tryz.prog 72 #[.pointer (some ⟨b, 0, none⟩), .int .i64 (h : Nat)] w fun e w' => CIdEnd b s w (idC s h k r) e w' := by
  rw [idC_end h (by omega)]
  have R := hide (ropen_end b s k h r w h0 hs hk.symm)
  go_enter Tryz.func72, Tryz.ntmps72
  go_wp2_with fail
  refine (unhide R).mono ?_
  rintro e w1 ⟨rfl, a1⟩
  exact ⟨rfl, rfl, a1⟩

set_option maxHeartbeats 800000 in
theorem rcid_leaf (b : Nat) (s : ByteArray) (hs : s.size ≤ 20000) (h k : Nat) (r : Bool) (w : World) (h0 : Cr b s k r w) (hk : k < 8 * s.size) (hb : bitAt s k = false) :
    Calls Tryz.prog 72 #[.pointer (some ⟨b, 0, none⟩), .int .i64 (h : Nat)] w fun e w' => CIdEnd b s w (idC s h k r) e w' := by
  rw [idC_leaf h (by omega) hb]
  have R := ropen_ok b s k h r w h0 hs hk (Or.inl hb)
  rw [hb] at R
  have R := hide R
  clear hb
  by_cases hend : k + 1 = 8 * s.size
  · rw [leafC, if_pos (by omega)]
    go_enter Tryz.func72, Tryz.ntmps72
    go_wp2_with fail
    refine (unhide R).mono ?_
    rintro e w1 ⟨rfl, h1, a1⟩
    go_wp2_with fail
    refine (rbit_end b s (k + 1) r _ h1 hs hend).mono ?_
    rintro e w2 ⟨rfl, a2⟩
    exact ⟨rfl, rfl, a1.trans a2⟩
  · rw [leafC, if_neg (by omega)]
    have RB := hide (fun w (h : Cr b s (k + 1) r w) => rbit_ok b s (k + 1) r w h hs (by omega))
    generalize bitAt s (k + 1) = B at *
    go_enter Tryz.func72, Tryz.ntmps72
    go_wp2_with fail
    refine (unhide R).mono ?_
    rintro e w1 ⟨rfl, h1, a1⟩
    go_wp2_with fail
    refine (unhide RB _ h1).mono ?_
    rintro e w2 ⟨rfl, h2, a2⟩
    go_wp2_with fail
    refine (leafB_any B _).mono ?_
    rintro e w3 ⟨rfl, rfl⟩
    go_wp2_with fail
    go_ret
    exact ⟨_, rfl, ⟨w2.heap.size, rfl, heap_new w2 _⟩, h2.alloc _, by omega, (a1.trans a2).alloc _⟩

set_option maxHeartbeats 400000 in
theorem rcid_deep (b : Nat) (s : ByteArray) (hs : s.size ≤ 20000) (k : Nat) (r : Bool) (w : World) (h0 : Cr b s k r w) (hk : k < 8 * s.size) (hb : bitAt s k = true) :
    Calls Tryz.prog 72 #[.pointer (some ⟨b, 0, none⟩), .int .i64 0] w fun e w' => CIdEnd b s w (idC s 0 k r) e w' := by
  rw [idC_deep (by omega) hb]
  have R := hide (ropen_deep b s k r w h0 hs hk hb)
  clear hb
  go_enter Tryz.func72, Tryz.ntmps72
  go_wp2_with fail
  refine (unhide R).mono ?_
  rintro e w1 ⟨rfl, a1⟩
  exact ⟨rfl, rfl, a1⟩

set_option maxHeartbeats 1600000 in
theorem rcid_pair (b : Nat) (s : ByteArray) (hs : s.size ≤ 20000) (h : Nat) (hh : h < 8)
    (ih : Hid (∀ (k : Nat) (r : Bool) (w : World), Cr b s k r w → k ≤ 8 * s.size → Calls Tryz.prog 72 #[.pointer (some ⟨b, 0, none⟩), .int .i64 (h : Nat)] w fun e w' => CIdEnd b s w (idC s h k r) e w'))
    (k : Nat) (r : Bool) (w : World) (h0 : Cr b s k r w) (hk : k < 8 * s.size) (hb : bitAt s k = true) :
    Calls Tryz.prog 72 #[.pointer (some ⟨b, 0, none⟩), .int .i64 ((h + 1 : Nat) : Int)] w fun e w' => CIdEnd b s w (idC s (h + 1) k r) e w' := by
  have HB := hide hb
  have R := ropen_ok b s k (h + 1) r w h0 hs hk (Or.inr (by omega))
  rw [hb] at R
  have R := hide R
  clear hb
  go_enter Tryz.func72, Tryz.ntmps72
  go_wp2_with fail
  refine (unhide R).mono ?_
  rintro e w1 ⟨rfl, h1, a1⟩
  clear R h0
  cases f : idC s h (k + 1) r using Rc.cs with
  | bad j =>
    have HF := hide (idC_bad1 (by omega) (unhide HB) f)
    have IH := unhide ih (k + 1) r w1 h1 (by omega)
    rw [f] at IH
    have IH := hide IH
    clear f
    go_wp2_with fail
    refine (unhide IH).mono ?_
    rintro e w2 ⟨rfl, a2⟩
    refine ⟨rfl, ?_⟩
    rw [unhide HF]
    exact ⟨rfl, a1.trans a2⟩
  | ok l k1 r1 =>
    have IH := unhide ih (k + 1) r w1 h1 (by omega)
    rw [f] at IH
    have F := hide f
    have IH := hide IH
    clear f
    go_wp2_with fail
    refine (unhide IH).mono ?_
    rintro e w2 ⟨v, rfl, t2, h2, b2, a2⟩
    clear IH
    obtain ⟨m, rfl⟩ := TA.root t2
    have a12 := a1.trans a2
    clear a1 a2 h1
    cases f2 : idC s h k1 r1 using Rc.cs with
    | bad j =>
      have HF := hide (idC_bad2 (by omega) (unhide HB) (unhide F) f2)
      have IH := unhide ih k1 r1 w2 h2 b2
      rw [f2] at IH
      have IH := hide IH
      clear f2
      go_wp2_with fail
      refine (unhide IH).mono ?_
      rintro e w3 ⟨rfl, a3⟩
      refine ⟨rfl, ?_⟩
      rw [unhide HF]
      exact ⟨rfl, a12.trans a3⟩
    | ok t k2 r2 =>
      have HF := hide (idC_pair (by omega) (unhide HB) (unhide F) f2)
      have IH := unhide ih k1 r1 w2 h2 b2
      rw [f2] at IH
      have IH := hide IH
      clear f2 F HB
      go_wp2_with fail
      refine (unhide IH).mono ?_
      rintro e w3 ⟨v, rfl, u3, h3, b3, a3⟩
      clear IH
      obtain ⟨m2, rfl⟩ := TA.root u3
      have t3 := t2.apartC h2 a3
      have a13 := a12.trans a3
      clear t2 h2 a12 a3
      obtain ⟨c0, c1, c2, cf⟩ := h3.cells
      cases r2 with
      | true =>
        go_wp2_with fail
        have h4 := h3.setRough true
        have a4 := a13.setCell (p := ⟨b, 2, none⟩) rfl (.bool true)
        have t4 := t3.apartC h3 ((Apart.refl b w3).setCell (p := ⟨b, 2, none⟩) rfl (.bool true))
        have u4 := u3.apartC h3 ((Apart.refl b w3).setCell (p := ⟨b, 2, none⟩) rfl (.bool true))
        generalize w3.setCell ⟨b, 2, none⟩ (.bool true) = W4 at *
        refine (pairB_any _ _ _).mono ?_
        rintro e w5 ⟨rfl, rfl⟩
        go_wp2_with fail
        go_ret
        rw [unhide HF]
        exact ⟨_, rfl, TB.pair t4 u4, h4.alloc _, b3, a4.alloc _⟩
      | false =>
        have SM := sameB_any w3 _ _ l t t3 u3
        generalize sameB l t = S at *
        have SM := hide SM
        go_wp2_with fail
        refine (unhide SM).mono ?_
        rintro e w4 ⟨rfl, n4, rfl⟩
        go_wp2_with fail
        have h4 := (h3.drewN n4).setRough S
        have a4 := (a13.trans (Apart.drewN b w3 n4)).setCell (p := ⟨b, 2, none⟩) rfl (.bool S)
        have t4 := (t3.drewN n4).apartC (h3.drewN n4) ((Apart.refl b (w3.drewN n4)).setCell (p := ⟨b, 2, none⟩) rfl (.bool S))
        have u4 := (u3.drewN n4).apartC (h3.drewN n4) ((Apart.refl b (w3.drewN n4)).setCell (p := ⟨b, 2, none⟩) rfl (.bool S))
        generalize (w3.drewN n4).setCell ⟨b, 2, none⟩ (.bool S) = W4 at *
        refine (pairB_any _ _ _).mono ?_
        rintro e w5 ⟨rfl, rfl⟩
        go_wp2_with fail
        go_ret
        rw [unhide HF]
        exact ⟨_, rfl, TB.pair t4 u4, h4.alloc _, b3, a4.alloc _⟩

theorem rcid_any (b : Nat) (s : ByteArray) (hs : s.size ≤ 20000) : ∀ (h : Nat), h < 9 → ∀ (k : Nat) (r : Bool) (w : World), Cr b s k r w → k ≤ 8 * s.size →
    Calls Tryz.prog 72 #[.pointer (some ⟨b, 0, none⟩), .int .i64 (h : Nat)] w fun e w' => CIdEnd b s w (idC s h k r) e w' := by
  intro h
  induction h with
  | zero =>
    intro _ k r w h0 hk
    by_cases hend : 8 * s.size = k
    · exact rcid_end b s hs 0 k r w h0 hend
    · cases hb : bitAt s k with
      | false => exact rcid_leaf b s hs 0 k r w h0 (by omega) hb
      | true => exact rcid_deep b s hs k r w h0 (by omega) hb
  | succ h ih =>
    intro hh k r w h0 hk
    by_cases hend : 8 * s.size = k
    · exact rcid_end b s hs (h + 1) k r w h0 hend
    · cases hb : bitAt s k with
      | false => exact rcid_leaf b s hs (h + 1) k r w h0 (by omega) hb
      | true => exact rcid_pair b s hs h (by omega) (hide (ih (by omega))) k r w h0 (by omega) hb

end Go.Proofs.YtoebmfhgaalcdaaGreatDoor

namespace Go.Proofs.YtoebmfhgaalcdaaGreatDoor
open Go.RowKit

set_option maxHeartbeats 400000 in
theorem rcev_end (b : Nat) (s : ByteArray) (hs : s.size ≤ 20000) (h base k : Nat) (r : Bool) (w : World) (h0 : Cr b s k r w) (hk : 8 * s.size = k) :
    Calls Tryz.prog 73 #[.pointer (some ⟨b, 0, none⟩), .int .i64 (h : Nat), .int .i64 (base : Nat)] w fun e w' => CEvEnd b s w (evC s h base k r) e w' := by
  rw [evC_end h (by omega)]
  have R := hide (ropen_end b s k h r w h0 hs hk.symm)
  go_enter Tryz.func73, Tryz.ntmps73
  go_wp2_with fail
  refine (unhide R).mono ?_
  rintro e w1 ⟨rfl, a1⟩
  exact ⟨rfl, rfl, a1⟩

set_option maxHeartbeats 400000 in
theorem rcev_deep (b : Nat) (s : ByteArray) (hs : s.size ≤ 20000) (base k : Nat) (r : Bool) (w : World) (h0 : Cr b s k r w) (hk : k < 8 * s.size) (hb : bitAt s k = true) :
    Calls Tryz.prog 73 #[.pointer (some ⟨b, 0, none⟩), .int .i64 0, .int .i64 (base : Nat)] w fun e w' => CEvEnd b s w (evC s 0 base k r) e w' := by
  rw [evC_deep (by omega) hb]
  have R := hide (ropen_deep b s k r w h0 hs hk hb)
  clear hb
  go_enter Tryz.func73, Tryz.ntmps73
  go_wp2_with fail
  refine (unhide R).mono ?_
  rintro e w1 ⟨rfl, a1⟩
  exact ⟨rfl, rfl, a1⟩

set_option maxHeartbeats 800000 in
theorem rcev_num (b : Nat) (s : ByteArray) (hs : s.size ≤ 20000) (h base k : Nat) (r : Bool) (w : World) (hbase : base ≤ 109951162777600) (h0 : Cr b s k r w) (hk : k < 8 * s.size) (hb : bitAt s k = false) :
    Calls Tryz.prog 73 #[.pointer (some ⟨b, 0, none⟩), .int .i64 (h : Nat), .int .i64 (base : Nat)] w fun e w' => CEvEnd b s w (evC s h base k r) e w' := by
  have HB := hide hb
  have R := ropen_ok b s k h r w h0 hs hk (Or.inl hb)
  rw [hb] at R
  have R := hide R
  clear hb
  cases f : gammaR s (k + 1) using Nm.cs with
  | bad j =>
    rw [evC_num0 h (by omega) (unhide HB) f]
    go_enter Tryz.func73, Tryz.ntmps73
    go_wp2_with fail
    refine (unhide R).mono ?_
    rintro e w1 ⟨rfl, h1, a1⟩
    have G := rgamma_any b s (k + 1) r w1 h1 hs (by omega)
    rw [f] at G
    have G := hide G
    go_wp2_with fail
    refine (unhide G).mono ?_
    rintro e w2 ⟨rfl, a2⟩
    exact ⟨rfl, rfl, a1.trans a2⟩
  | ok n k1 =>
    rw [evC_num h (by omega) (unhide HB) f]
    have n1 := gammaR_ok f
    have n2 : n ≤ 1099511627776 := n1.1
    have n3 : k1 ≤ 8 * s.size := by have := n1.2.2.2; omega
    clear n1
    go_enter Tryz.func73, Tryz.ntmps73
    go_wp2_with fail
    refine (unhide R).mono ?_
    rintro e w1 ⟨rfl, h1, a1⟩
    have G := rgamma_any b s (k + 1) r w1 h1 hs (by omega)
    rw [f] at G
    have G := hide G
    clear f
    go_wp2_with fail
    refine (unhide G).mono ?_
    rintro e w2 ⟨rfl, h2, a2⟩
    go_wp2_with fail
    try rw [show (base : Int) + (n : Int) = ((base + n : Nat) : Int) by omega]
    refine (leafI_any (base + n) _).mono ?_
    rintro e w3 ⟨rfl, rfl⟩
    go_wp2_with fail
    go_ret2
    exact ⟨_, rfl, ⟨w2.heap.size, rfl, heap_new w2 _⟩, h2.alloc _, n3, (a1.trans a2).alloc _⟩

set_option maxHeartbeats 2000000 in
theorem rcev_pair (b : Nat) (s : ByteArray) (hs : s.size ≤ 20000) (h : Nat) (hh : h < 8)
    (ih : Hid (∀ (base k : Nat) (r : Bool) (w : World), base ≤ (99 - h) * 1099511627776 → Cr b s k r w → k ≤ 8 * s.size → Calls Tryz.prog 73 #[.pointer (some ⟨b, 0, none⟩), .int .i64 (h : Nat), .int .i64 (base : Nat)] w fun e w' => CEvEnd b s w (evC s h base k r) e w'))
    (base k : Nat) (r : Bool) (w : World) (hbase : base ≤ (99 - (h + 1)) * 1099511627776) (h0 : Cr b s k r w) (hk : k < 8 * s.size) (hb : bitAt s k = true) :
    Calls Tryz.prog 73 #[.pointer (some ⟨b, 0, none⟩), .int .i64 ((h + 1 : Nat) : Int), .int .i64 (base : Nat)] w fun e w' => CEvEnd b s w (evC s (h + 1) base k r) e w' := by
  have HB := hide hb
  have hb2 : base ≤ 109951162777600 := by omega
  have R := ropen_ok b s k (h + 1) r w h0 hs hk (Or.inr (by omega))
  rw [hb] at R
  have R := hide R
  clear hb
  go_enter Tryz.func73, Tryz.ntmps73
  go_wp2_with fail
  refine (unhide R).mono ?_
  rintro e w1 ⟨rfl, h1, a1⟩
  clear R h0
  cases f : gammaR s (k + 1) using Nm.cs with
  | bad j =>
    have HF : Hid (evC s (h + 1) base k r = .bad j) := hide (evC_bad0 (by omega) f)
    have G := rgamma_any b s (k + 1) r w1 h1 hs (by omega)
    rw [f] at G
    have G := hide G
    clear f
    go_wp2_with fail
    refine (unhide G).mono ?_
    rintro e w2 ⟨rfl, a2⟩
    refine ⟨rfl, ?_⟩
    rw [unhide HF]
    exact ⟨rfl, a1.trans a2⟩
  | ok n k1 =>
    have n1 := gammaR_ok f
    have n2 : n ≤ 1099511627776 := n1.1
    have n3 : k1 ≤ 8 * s.size := by have := n1.2.2.2; omega
    have G := rgamma_any b s (k + 1) r w1 h1 hs (by omega)
    rw [f] at G
    have G := hide G
    have F := hide f
    clear n1 f
    go_wp2_with fail
    refine (unhide G).mono ?_
    rintro e w2 ⟨rfl, h2, a2⟩
    have a12 := a1.trans a2
    clear G h1 a1 a2
    cases f2 : evC s h (base + n) k1 r using Rc.cs with
    | bad j =>
      have HF : Hid (evC s (h + 1) base k r = .bad j) := hide (evC_bad1 (by omega) (unhide HB) (unhide F) f2)
      have IH := unhide ih (base + n) k1 r w2 (by omega) h2 n3
      rw [f2] at IH
      have IH := hide IH
      clear f2
      go_wp2_with fail
      refine (unhide IH).mono ?_
      rintro e w3 ⟨rfl, a3⟩
      refine ⟨rfl, ?_⟩
      rw [unhide HF]
      exact ⟨rfl, a12.trans a3⟩
    | ok o k2 r2 =>
      obtain ⟨l, ln⟩ := o
      have IH := unhide ih (base + n) k1 r w2 (by omega) h2 n3
      rw [f2] at IH
      have F2 := hide f2
      have IH := hide IH
      clear f2
      go_wp2_with fail
      refine (unhide IH).mono ?_
      rintro e w3 ⟨v, rfl, t3, h3, b3, a3⟩
      clear IH
      obtain ⟨m, rfl⟩ := TA.root t3
      have a13 := a12.trans a3
      clear a12 a3 h2
      cases f3 : evC s h (base + n) k2 r2 using Rc.cs with
      | bad j =>
        have HF : Hid (evC s (h + 1) base k r = .bad j) := hide (evC_bad2 (by omega) (unhide HB) (unhide F) (unhide F2) f3)
        have IH := unhide ih (base + n) k2 r2 w3 (by omega) h3 b3
        rw [f3] at IH
        have IH := hide IH
        clear f3
        go_wp2_with fail
        refine (unhide IH).mono ?_
        rintro e w4 ⟨rfl, a4⟩
        refine ⟨rfl, ?_⟩
        rw [unhide HF]
        exact ⟨rfl, a13.trans a4⟩
      | ok o k3 r3 =>
        obtain ⟨t, tn⟩ := o
        have HF := hide (evC_pair (by omega) (unhide HB) (unhide F) (unhide F2) f3)
        have IH := unhide ih (base + n) k2 r2 w3 (by omega) h3 b3
        rw [f3] at IH
        have IH := hide IH
        clear f3 F F2 HB
        go_wp2_with fail
        refine (unhide IH).mono ?_
        rintro e w4 ⟨v, rfl, u4, h4, b4, a4⟩
        clear IH
        obtain ⟨m2, rfl⟩ := TA.root u4
        have t4 := t3.apartC h3 a4
        have a14 := a13.trans a4
        clear t3 h3 a13 a4
        obtain ⟨c0, c1, c2, cf⟩ := h4.cells
        cases r3 with
        | true =>
          go_wp2_with fail
          have h5 := h4.setRough true
          have a5 := a14.setCell (p := ⟨b, 2, none⟩) rfl (.bool true)
          have t5 := t4.apartC h4 ((Apart.refl b w4).setCell (p := ⟨b, 2, none⟩) rfl (.bool true))
          have u5 := u4.apartC h4 ((Apart.refl b w4).setCell (p := ⟨b, 2, none⟩) rfl (.bool true))
          generalize w4.setCell ⟨b, 2, none⟩ (.bool true) = W5 at *
          refine (pairI_any _ _ _).mono ?_
          rintro e w6 ⟨rfl, rfl⟩
          go_wp2_with fail
          go_ret2
          rw [unhide HF]
          exact ⟨_, rfl, TI.pair t5 u5, h5.alloc _, b4, a5.alloc _⟩
        | false =>
          have SM := rough_evs_any w4 _ _ l t ln tn t4 u4
          generalize (decide (0 < ln) && decide (0 < tn) || sameI l t) = S at *
          have SM := hide SM
          go_wp2_with fail
          refine (unhide SM).mono ?_
          rintro e w5 ⟨rfl, n5, rfl⟩
          go_wp2_with fail
          have h5 := (h4.drewN n5).setRough S
          have a5 := (a14.trans (Apart.drewN b w4 n5)).setCell (p := ⟨b, 2, none⟩) rfl (.bool S)
          have t5 := (t4.drewN n5).apartC (h4.drewN n5) ((Apart.refl b (w4.drewN n5)).setCell (p := ⟨b, 2, none⟩) rfl (.bool S))
          have u5 := (u4.drewN n5).apartC (h4.drewN n5) ((Apart.refl b (w4.drewN n5)).setCell (p := ⟨b, 2, none⟩) rfl (.bool S))
          generalize (w4.drewN n5).setCell ⟨b, 2, none⟩ (.bool S) = W5 at *
          refine (pairI_any _ _ _).mono ?_
          rintro e w6 ⟨rfl, rfl⟩
          go_wp2_with fail
          go_ret2
          rw [unhide HF]
          exact ⟨_, rfl, TI.pair t5 u5, h5.alloc _, b4, a5.alloc _⟩

theorem rcev_any (b : Nat) (s : ByteArray) (hs : s.size ≤ 20000) : ∀ (h : Nat), h < 9 → ∀ (base k : Nat) (r : Bool) (w : World), base ≤ (99 - h) * 1099511627776 → Cr b s k r w → k ≤ 8 * s.size →
    Calls Tryz.prog 73 #[.pointer (some ⟨b, 0, none⟩), .int .i64 (h : Nat), .int .i64 (base : Nat)] w fun e w' => CEvEnd b s w (evC s h base k r) e w' := by
  intro h
  induction h with
  | zero =>
    intro _ base k r w hb0 h0 hk
    by_cases hend : 8 * s.size = k
    · exact rcev_end b s hs 0 base k r w h0 hend
    · cases hb : bitAt s k with
      | false => exact rcev_num b s hs 0 base k r w (by omega) h0 (by omega) hb
      | true => exact rcev_deep b s hs base k r w h0 (by omega) hb
  | succ h ih =>
    intro hh base k r w hb0 h0 hk
    by_cases hend : 8 * s.size = k
    · exact rcev_end b s hs (h + 1) base k r w h0 hend
    · cases hb : bitAt s k with
      | false => exact rcev_num b s hs (h + 1) base k r w (by omega) h0 (by omega) hb
      | true => exact rcev_pair b s hs h (by omega) (hide (ih (by omega))) base k r w hb0 h0 (by omega) hb

/-- What a call of the reader's end leaves. -/
def REnd (b : Nat) (s : ByteArray) (r : Bool) (w : World) (o : Nm) (e : Ending) (w' : World) : Prop :=
  match o with
  | ⟨.inl (_, j)⟩ => e = .returned (.tuple #[]) ∧ Cr b s j r w' ∧ Apart b w w'
  | ⟨.inr j⟩ => e = .panicked (thrown 2 j) ∧ Apart b w w'

set_option maxHeartbeats 1000000 in
theorem rend_any (b : Nat) (s : ByteArray) (k0 : Nat) (r : Bool) (w : World) (h : Cr b s k0 r w) (hs : s.size ≤ 20000) (hk0 : k0 ≤ 8 * s.size) :
    Calls Tryz.prog 74 #[.pointer (some ⟨b, 0, none⟩)] w fun e w' => REnd b s r w (endR s k0) e w' := by
  go_enter Tryz.func74, Tryz.ntmps74
  go_wp2_with fail
  go_loopg [] ((8 - k0 % 8) % 8 + 1) (fun m wr => ∃ k : Nat, m = (8 - k % 8) % 8 + 1 ∧ k ≤ 8 * s.size ∧ Cr b s k r wr ∧ Apart b w wr ∧ padR s ((8 - k0 % 8) % 8) k0 = padR s ((8 - k % 8) % 8) k)
  case atStart => exact ⟨k0, rfl, hk0, h, Apart.refl _ _, rfl⟩
  case round =>
    obtain ⟨k, hm, hk, hr, ha, hz⟩ := hrel
    obtain ⟨c0, c1, c2, cf⟩ := hr.cells
    have HZ := hide hz
    have HM := hide hm
    clear hz hm h hk0
    obtain ⟨p, hp⟩ : ∃ p, k % 8 = p := ⟨_, rfl⟩
    have e4 : IntKind.i64.wrap ((k : Int) % 8) = (p : Int) := by rw [IntKind.wrap_i64]; omega
    have e5 : (k : Int) % 8 = (p : Int) := by omega
    have HP := hide hp
    clear hp
    by_cases h8 : p = 0
    · subst h8
      have Z2 : Hid (padR s ((8 - k0 % 8) % 8) k0 = .ok 0 k) := hide (by rw [unhide HZ, unhide HP]; rfl)
      obtain ⟨q, hq⟩ : ∃ q, k / 8 = q := ⟨_, rfl⟩
      have e3 : IntKind.i64.wrap ((k : Int) / 8) = (q : Int) := by rw [IntKind.wrap_i64]; omega
      have e6 : (k : Int) / 8 = (q : Int) := by omega
      by_cases l : q < s.size
      · have HG : Hid (endR s k0 = .bad q) := hide (by rw [← hq]; exact endR_bad2 (unhide Z2) (by omega))
        have l2 : (q : Int) < (s.size : Int) := by omega
        clear hq
        go_wp2_with fail
        refine (throw_any 2 q _).mono ?_
        rintro e w2 ⟨rfl, rfl⟩
        refine ⟨rfl, ?_⟩
        rw [unhide HG]
        exact ⟨rfl, ha⟩
      · have HG : Hid (endR s k0 = .ok 0 k) := hide (endR_good (unhide Z2) (by omega))
        have l2 : ¬ (q : Int) < (s.size : Int) := by omega
        clear hq
        go_wp2_with fail
        refine bodyPost_ret (v := .tuple #[]) (by simp [results, Tryz.results74]) rfl ?_
        rw [unhide HG]
        exact ⟨rfl, hr, ha⟩
    · have hlt : k < 8 * s.size := by have := unhide HP; omega
      have p0 : (0 : Int) < (p : Int) := by omega
      have R := rbit_ok b s k r _ hr hs hlt
      cases hB : bitAt s k with
      | true =>
        have HG : Hid (endR s k0 = .bad (k / 8)) := hide (endR_bad1 (by rw [unhide HZ, show (8 - k % 8) % 8 = ((8 - k % 8) % 8 - 1) + 1 by have := unhide HP; omega, padR, if_pos hB]))
        rw [hB] at R
        have R := hide R
        clear hB
        go_wp2_with fail
        refine (unhide R).mono ?_
        rintro e w1 ⟨rfl, h1, a1⟩
        go_wp2_with fail
        refine (rgive_any b s k r _ h1 (by omega)).mono ?_
        rintro e w2 ⟨rfl, rfl⟩
        refine ⟨rfl, ?_⟩
        rw [unhide HG]
        exact ⟨rfl, ha.trans a1⟩
      | false =>
        have Z2 : Hid (padR s ((8 - k0 % 8) % 8) k0 = padR s ((8 - (k + 1) % 8) % 8) (k + 1)) := hide (by
          rw [unhide HZ, show (8 - k % 8) % 8 = (8 - (k + 1) % 8) % 8 + 1 by have := unhide HP; omega, padR, if_neg (by rw [hB]; exact Bool.false_ne_true)])
        rw [hB] at R
        have R := hide R
        clear hB
        go_wp2_with fail
        refine (unhide R).mono ?_
        rintro e w1 ⟨rfl, h1, a1⟩
        go_wp2_with fail
        go_roundg ((8 - (k + 1) % 8) % 8 + 1)
        case measure => rw [unhide HM]; have := unhide HP; omega
        case rel => exact ⟨k + 1, rfl, by omega, h1, ha.trans a1, unhide Z2⟩

set_option maxHeartbeats 400000 in
theorem pkRead_long (s : ByteArray) (w : World) (hs : 20000 < s.size) (hm : s.size ≤ maxLen) :
    Calls Tryz.prog 36 #[.string s] w fun e w' => ReadEnd w (.bad 1 0) e w' := by
  unfold maxLen at hm
  go_enter Tryz.func36, Tryz.ntmps36
  go_wp2_with fail
  refine (throw_any 1 0 _).mono ?_
  rintro e w1 ⟨rfl, rfl⟩
  exact ⟨rfl, rfl, (Below.refl _ _).alloc (Nat.le_refl _) _⟩

theorem Cr.new (w : World) (s : ByteArray) (k : Nat) (r : Bool) (o : Obj) : Cr (w.heap.size + 1) s k r ((w.alloc o).alloc (crObj s k r)) := by
  have h := heap_new (w.alloc o) (crObj s k r)
  have e : (w.alloc o).heap.size = w.heap.size + 1 := by simp
  rw [e] at h
  exact h

set_option maxHeartbeats 1000000 in
theorem pkRead_any (s : ByteArray) (w : World) (hs : s.size ≤ 20000) :
    Calls Tryz.prog 36 #[.string s] w fun e w' => ReadEnd w (readC s) e w' := by
  have h0 := Cr.new w s 0 false (.cells #[.pointer none, .pointer none] 61)
  go_enter Tryz.func36, Tryz.ntmps36
  cases f : idC s 8 0 false using Rc.cs with
  | bad j =>
    have IH := rcid_any (w.heap.size + 1) s hs 8 (by omega) 0 false _ h0 (by omega)
    rw [f] at IH
    have HF := hide (readC_bad0 hs f)
    clear f h0
    have IH := hide IH
    go_wp2_with fail
    refine (unhide IH).mono ?_
    rintro e w1 ⟨rfl, a1⟩
    refine ⟨rfl, ?_⟩
    rw [unhide HF]
    exact ⟨rfl, below_two a1⟩
  | ok id k1 r1 =>
    have IH := rcid_any (w.heap.size + 1) s hs 8 (by omega) 0 false _ h0 (by omega)
    rw [f] at IH
    have F := hide f
    clear f h0
    have IH := hide IH
    go_wp2_with fail
    refine (unhide IH).mono ?_
    rintro e w1 ⟨v, rfl, t1, h1, b1, a1⟩
    clear IH
    obtain ⟨m0, rfl⟩ := TA.root t1
    cases f2 : evC s 8 0 k1 r1 using Rc.cs with
    | bad j =>
      have IH := rcev_any (w.heap.size + 1) s hs 8 (by omega) 0 k1 r1 w1 (by omega) h1 b1
      rw [f2] at IH
      have HF := hide (readC_bad1 hs (unhide F) f2)
      have IH := hide IH
      clear f2
      go_wp2_with fail
      refine (unhide IH).mono ?_
      rintro e w2 ⟨rfl, a2⟩
      refine ⟨rfl, ?_⟩
      rw [unhide HF]
      exact ⟨rfl, below_two (a1.trans a2)⟩
    | ok o k2 r2 =>
      obtain ⟨ev, n⟩ := o
      have IH := rcev_any (w.heap.size + 1) s hs 8 (by omega) 0 k1 r1 w1 (by omega) h1 b1
      rw [f2] at IH
      have F2 := hide f2
      have IH := hide IH
      clear f2
      go_wp2_with fail
      refine (unhide IH).mono ?_
      rintro e w2 ⟨v, rfl, u2, h2, b2, a2⟩
      clear IH
      obtain ⟨m2, rfl⟩ := TA.root u2
      have t2 := t1.apartC h1 a2
      have a12 := a1.trans a2
      clear t1 h1 a1 a2
      cases f3 : endR s k2 using Nm.cs with
      | bad j =>
        have IH := rend_any (w.heap.size + 1) s k2 r2 w2 h2 hs b2
        rw [f3] at IH
        have HF := hide (readC_bad2 hs (unhide F) (unhide F2) f3)
        have IH := hide IH
        clear f3
        go_wp2_with fail
        refine (unhide IH).mono ?_
        rintro e w3 ⟨rfl, a3⟩
        refine ⟨rfl, ?_⟩
        rw [unhide HF]
        exact ⟨rfl, below_two (a12.trans a3)⟩
      | ok a k3 =>
        have IH := rend_any (w.heap.size + 1) s k2 r2 w2 h2 hs b2
        rw [f3] at IH
        have F3 := hide f3
        have IH := hide IH
        clear f3
        go_wp2_with fail
        refine (unhide IH).mono ?_
        rintro e w3 ⟨rfl, h3, a3⟩
        clear IH
        have t3 := t2.apartC h2 a3
        have u3 := u2.apartC h2 a3
        have a13 := a12.trans a3
        clear t2 u2 h2 a12 a3
        have HI := hide (high_any ev w3 _ u3)
        obtain ⟨c0, c1, c2, cf⟩ := h3.cells
        by_cases m : 1099511627776 < highest ev
        · have HF := hide (readC_bad3 hs (unhide F) (unhide F2) (unhide F3) m)
          clear F F2 F3
          go_wp2_with fail
          refine (unhide HI).mono ?_
          rintro e w4 ⟨rfl, n4, rfl⟩
          go_wp2_with fail
          refine (throw_any 7 0 _).mono ?_
          rintro e w5 ⟨rfl, rfl⟩
          refine ⟨rfl, ?_⟩
          rw [unhide HF]
          exact ⟨rfl, below_two (a13.trans (Apart.drewN _ _ n4))⟩
        · cases r2 with
          | true =>
            have HF := hide (readC_bad4 hs (unhide F) (unhide F2) (unhide F3) m rfl)
            clear F F2 F3
            go_wp2_with fail
            refine (unhide HI).mono ?_
            rintro e w4 ⟨rfl, n4, rfl⟩
            go_wp2_with fail
            refine (throw_any 3 0 _).mono ?_
            rintro e w5 ⟨rfl, rfl⟩
            refine ⟨rfl, ?_⟩
            rw [unhide HF]
            exact ⟨rfl, below_two (a13.trans (Apart.drewN _ _ n4))⟩
          | false =>
            have HF := hide (readC_good hs (unhide F) (unhide F2) (unhide F3) m Bool.false_ne_true)
            clear F F2 F3
            obtain ⟨d0, d1, df⟩ := cells2 (cell_first a13)
            go_wp2_with fail
            refine (unhide HI).mono ?_
            rintro e w4 ⟨rfl, n4, rfl⟩
            go_wp2_with fail
            have K := cell_first a13
            have a5 := ((Apart.drewN w.heap.size w3 n4).setCell (p := ⟨w.heap.size, 0, none⟩) rfl (.pointer (some ⟨m0, 0, none⟩))).setCell (p := ⟨w.heap.size, 1, none⟩) rfl (.pointer (some ⟨m2, 0, none⟩))
            refine bodyPost_ret (v := .agg #[.pointer (some ⟨m0, 0, none⟩), .pointer (some ⟨m2, 0, none⟩)]) (by simp [results, Tryz.results36, go_sem, d0, d1]) rfl ?_
            rw [unhide HF]
            exact ⟨_, _, rfl, TB.other K (by decide) a5 t3, TI.other K (by decide) a5 u3, (below_two a13).trans (a5.below (by have := a13.size; simp at this; omega))⟩

theorem pkRead_all (s : ByteArray) (w : World) (hm : s.size ≤ maxLen) : Calls Tryz.prog 36 #[.string s] w fun e w' => ReadEnd w (readC s) e w' := by
  by_cases h : 20000 < s.size
  · rw [readC_long h]; exact pkRead_long s w h hm
  · exact pkRead_any s w (by omega)

set_option maxHeartbeats 800000 in
/-- Decode of what is no code: the error and its place. -/
theorem decode_bad {s : ByteArray} {e p : Nat} (hm : s.size ≤ maxLen) (f : readC s = .bad e p) (w : World) :
    Calls Tryz.prog 18 #[.string s] w fun o w' => o = .returned (.tuple #[.string { data := #[] }, .int .i64 (e : Nat), .int .i64 (p : Nat)]) ∧ Below w.heap.size w w' := by
  have CA := catch_any 36 (fun _ _ => by kernel_rfl) s (readC s) (fun w1 => pkRead_all s w1 hm) w
  have he := (readC_bad f).2
  have he1 : ¬ (e : Int) = 0 := by omega
  rw [f] at CA
  have CA := hide CA
  clear f
  go_enter Tryz.func18, Tryz.ntmps18
  go_wp2_with fail
  refine (unhide CA).mono ?_
  rintro o w1 ⟨rfl, b1⟩
  replace b1 := hide b1
  go_wp2_with fail
  refine bodyPost_ret (v := .tuple #[.string { data := #[] }, .int .i64 (e : Nat), .int .i64 (p : Nat)]) (by simp [results, Tryz.results18, go_sem]) rfl ?_
  exact ⟨rfl, (unhide b1).alloc (unhide b1).size _⟩

set_option maxHeartbeats 800000 in
/-- Decode of a code. -/
theorem decode_ok {s : ByteArray} {id : Tr Bool} {ev : Tr Nat} (hm : s.size ≤ maxLen) (f : readC s = .ok id ev) (w : World) (T : Tab w) :
    Calls Tryz.prog 18 #[.string s] w fun o w' => o = .returned (.tuple #[.string (strOf (wtext id ev)), .int .i64 0, .int .i64 0]) ∧ Below w.heap.size w w' := by
  have CA := catch_any 36 (fun _ _ => by kernel_rfl) s (readC s) (fun w1 => pkRead_all s w1 hm) w
  have P := (readC_ok f).2.1
  rw [f] at CA
  have CA := hide CA
  have S := hide (fun w v u T h g => write_any id ev P w v u T h g)
  replace T := hide T
  clear f P
  generalize strOf (wtext id ev) = Z at *
  go_enter Tryz.func18, Tryz.ntmps18
  go_wp2_with fail
  refine (unhide CA).mono ?_
  rintro o w1 ⟨vi, ve, rfl, tb, ti, b1⟩
  obtain ⟨m0, rfl⟩ := TA.root tb
  obtain ⟨m2, rfl⟩ := TA.root ti
  have bA : Below w1.heap.size w1 (w1.alloc (.cells #[.pointer (some ⟨m0, 0, none⟩), .pointer (some ⟨m2, 0, none⟩)] 61)) := (Below.refl _ _).alloc (Nat.le_refl _) _
  have B := hide (b1.trans (bA.mono b1.size))
  have S2 := hide (unhide S _ _ _ ((unhide T).below (unhide B)) (TA.below tb bA) (TA.below ti bA))
  clear tb ti b1 bA S T
  go_wp2_with fail
  refine (unhide S2).mono ?_
  rintro o w2 ⟨rfl, b2⟩
  replace b2 := hide b2
  go_wp2_with fail
  refine bodyPost_ret (v := .tuple #[.string Z, .int .i64 0, .int .i64 0]) (by simp [results, Tryz.results18, go_sem]) rfl ?_
  exact ⟨rfl, (unhide B).trans ((unhide b2).mono (unhide B).size)⟩

end Go.Proofs.YtoebmfhgaalcdaaGreatDoor

namespace Go.Proofs.YtoebmfhgaalcdaaGreatDoor
open Go.RowKit

theorem u8_of {n : Nat} (h : n < 256) : (UInt8.ofNat n).toNat = n := by rw [UInt8.toNat_ofNat', Nat.mod_eq_of_lt h]
theorem bitAt_strOf (L : List UInt8) (k : Nat) : bitAt (strOf L) k = (L.getD (k / 8) 0).toNat.testBit (7 - k % 8) := by unfold bitAt; rw [nx_strOf]
theorem getD_snoc (l : List Bool) (x : Bool) (k : Nat) : (l ++ [x]).getD k false = if k = l.length then x else l.getD k false := by
  rw [List.getD_eq_getElem?_getD, List.getD_eq_getElem?_getD, List.getElem?_append]
  by_cases h : k < l.length
  · rw [if_pos h, if_neg (by omega)]
  · rw [if_neg h]
    by_cases e : k = l.length
    · rw [if_pos e, e]; simp
    · rw [if_neg e, List.getElem?_eq_none (l := l) (by omega), List.getElem?_eq_none (by rw [List.length_singleton]; omega)]
theorem packed_push {L : List UInt8} {l : List Bool} (h : Packed (strOf L) l) (h8 : l.length % 8 = 0) : Packed (strOf (L ++ [0])) (l ++ [false]) := by
  have hs := h.1
  rw [strOf_size] at hs
  refine ⟨by rw [strOf_size, List.length_append, List.length_append, List.length_singleton, List.length_singleton]; omega, fun k hk => ?_⟩
  rw [strOf_size, List.length_append, List.length_singleton] at hk
  rw [bitAt_strOf, getD_snoc]
  have e2 : (if k = l.length then false else l.getD k false) = l.getD k false := by
    by_cases e : k = l.length
    · rw [if_pos e, getD_out (by omega)]
    · rw [if_neg e]
  rw [e2]
  by_cases hk2 : k / 8 < L.length
  · have := h.2 k (by rw [strOf_size]; omega)
    rw [bitAt_strOf] at this
    rw [← this, List.getD_eq_getElem?_getD, List.getD_eq_getElem?_getD, List.getElem?_append_left hk2]
  · rw [getD_out (by omega), List.getD_eq_getElem?_getD, List.getElem?_append_right (by omega), show k / 8 - L.length = 0 by omega]
    simp
theorem packed_same {L : List UInt8} {l : List Bool} (h : Packed (strOf L) l) (h8 : l.length % 8 ≠ 0) : Packed (strOf L) (l ++ [false]) := by
  have hs := h.1
  refine ⟨by rw [List.length_append, List.length_singleton]; omega, fun k hk => ?_⟩
  rw [getD_snoc, h.2 k hk]
  by_cases e : k = l.length
  · rw [if_pos e, getD_out (by omega)]
  · rw [if_neg e]
theorem packed_set {L : List UInt8} {l : List Bool} (h : Packed (strOf L) (l ++ [false])) (y : UInt8) (hy : y.toNat = (L.getD (L.length - 1) 0).toNat ||| 2 ^ (7 - l.length % 8)) : Packed (strOf (L.set (L.length - 1) y)) (l ++ [true]) := by
  have hs := h.1
  rw [strOf_size, List.length_append, List.length_singleton] at hs
  refine ⟨by rw [strOf_size, List.length_set, List.length_append, List.length_singleton]; exact hs, fun k hk => ?_⟩
  rw [strOf_size, List.length_set] at hk
  have h0 := h.2 k (by rw [strOf_size]; exact hk)
  rw [bitAt_strOf, getD_snoc] at h0
  rw [bitAt_strOf, getD_snoc]
  by_cases hi : k / 8 = L.length - 1
  · have e1 : (L.set (L.length - 1) y).getD (k / 8) 0 = y := by
      rw [List.getD_eq_getElem?_getD, hi, List.getElem?_set_self (by omega)]; rfl
    rw [e1, hy, Nat.testBit_or, ← hi, h0, Nat.testBit_two_pow]
    by_cases e : k = l.length
    · rw [if_pos e, if_pos e, e]; simp
    · rw [if_neg e, if_neg e]
      have : ¬ 7 - l.length % 8 = 7 - k % 8 := by omega
      simp [this]
  · have e1 : (L.set (L.length - 1) y).getD (k / 8) 0 = L.getD (k / 8) 0 := by
      rw [List.getD_eq_getElem?_getD, List.getElem?_set_ne (by omega), ← List.getD_eq_getElem?_getD]
    have e2 : k ≠ l.length := by omega
    rw [e1, h0, if_neg e2, if_neg e2]

def bytesV (L : List UInt8) : List Value := L.map (fun x => Value.int .u8 (x.toNat : Int))
theorem bytesV_one (L : List UInt8) : ∀ v ∈ bytesV L, v.oneCell' = true := by
  intro v hv
  unfold bytesV at hv
  rw [List.mem_map] at hv
  obtain ⟨x, _, rfl⟩ := hv
  rfl
theorem bytesV_push (L : List UInt8) : bytesV L ++ [Value.int .u8 0] = bytesV (L ++ [0]) := by simp [bytesV]
theorem bytesV_set (L : List UInt8) (i : Nat) (y : UInt8) : (bytesV L).set i (.int .u8 (y.toNat : Int)) = bytesV (L.set i y) := by simp [bytesV, List.map_set]

/-- The writer's box, its bytes, and the bits that they are. -/
structure Wr (B b : Nat) (w : World) (sv : Value) (L : List UInt8) (l : List Bool) : Prop where
  base : B ≤ b
  box : w.heap[b]? = some (.cells #[sv, .int .i64 (l.length : Nat)] 105)
  row : w.ownsRow B 5 1 sv L.length (bytesV L)
  bits : Packed (strOf L) l

theorem Wr.len {B b : Nat} {w : World} {sv : Value} {L : List UInt8} {l : List Bool} (h : Wr B b w sv L l) : L.length = (l.length + 7) / 8 := by
  have := h.bits.1; rwa [strOf_size] at this
theorem own_far {B b : Nat} {w w' : World} {sv : Value} {n : Nat} {xs : List Value} {cs : Array Value} (hb : w.heap[b]? = some (.cells cs 105)) (hr : w.ownsRow B 5 1 sv n xs) (hg : w.grownBy w' sv.ownBlock) : w'.heap[b]? = some (.cells cs 105) := by
  rw [hg.block b (lt_of_heap hb) ?_]
  · exact hb
  · intro e
    rcases hr.2 with ⟨rfl, _⟩ | ⟨g, cap, cur, rfl, _, hc, _⟩
    · cases e
    · simp only [Value.ownBlock, Option.some.injEq] at e
      subst e
      rw [hc] at hb
      injection hb with hb
      injection hb with _ h9
      exact absurd h9 (by decide)
theorem own_below {B : Nat} {w w' : World} {sv : Value} {n : Nat} {xs : List Value} (hr : w.ownsRow B 5 1 sv n xs) (hB : B ≤ w.heap.size) (hg : w.grownBy w' sv.ownBlock) : Below B w w' := by
  refine ⟨hg.os, hg.tape, hg.output, hg.size, fun k hk => hg.block k (by omega) ?_⟩
  intro e
  have := (hr.lt k e.symm).1
  omega
/-- The last byte, opened. -/
theorem own_last {B : Nat} {w : World} {sv : Value} {L : List UInt8} (hr : w.ownsRow B 5 1 sv L.length (bytesV L)) (hp : 0 < L.length) : ∃ g cap, sv = .slice (some ⟨g, 0, none⟩) L.length cap ∧ B ≤ g ∧ g < w.heap.size ∧ L.length ≤ cap ∧
    w.cell? ⟨g, L.length - 1, none⟩ = some (.int .u8 ((L.getD (L.length - 1) 0).toNat : Int)) ∧ (∀ o, w.frozen? ⟨g, o, none⟩ = false) ∧ (∀ c t f, w.heap[g]? = some (.cells c t f) → t = 5) := by
  rcases hr.2 with ⟨_, h0⟩ | ⟨g, cap, cur, rfl, hb, hc, h1, h2, h3, h4⟩
  · omega
  · refine ⟨g, cap, rfl, hb, lt_of_heap hc, h1, ?_, ?_, ?_⟩
    · have hj : (bytesV L)[L.length - 1]? = some (.int .u8 ((L.getD (L.length - 1) 0).toNat : Int)) := by
        unfold bytesV
        rw [List.getElem?_map, List.getD_eq_getElem?_getD, List.getElem?_eq_getElem (by omega)]
        rfl
      rw [← h4, List.getElem?_take_of_lt (by omega)] at hj
      simp only [World.cell?, hc]
      simpa using hj
    · intro o; simp [World.frozen?, hc]
    · intro c t f e
      rw [hc] at e
      injection e with e
      injection e with _ e2
      exact e2.symm
theorem or_bit (v p : Nat) (hv : v < 256) (hp : p < 8) : bits BinOp.or IntKind.u8 (v : Int) (128 / 2 ^ p) = ((v ||| 2 ^ (7 - p) : Nat) : Int) := by
  have H : ∀ (a : Fin 256) (c : Fin 8), bits BinOp.or IntKind.u8 (a.1 : Int) (128 / 2 ^ c.1) = ((a.1 ||| 2 ^ (7 - c.1) : Nat) : Int) := by decide +kernel
  exact H ⟨v, hv⟩ ⟨p, hp⟩
theorem Tryz.infoU8 : (Tryz.prog.info? 5).map (fun i => (i.zero, i.size, i.bytes)) = some (some (.int .u8 0), 1, 1) := by kernel_rfl
/-- The last byte gets its bit. -/
theorem set_last {B b : Nat} {W : World} {svA : Value} {LA : List UInt8} {l : List Bool} {p : Nat} (KB : W.heap[b]? = some (.cells #[svA, .int .i64 (l.length : Nat)] 105)) (KR : W.ownsRow B 5 1 svA LA.length (bytesV LA)) (PKD : Packed (strOf LA) (l ++ [false])) (hl : l.length ≤ 60000) (hp : l.length % 8 = p) :
    ∃ g n1 cap v0 y : Nat, svA = .slice (some ⟨g, 0, none⟩) (n1 + 1) cap ∧ g ≠ b ∧ n1 ≤ 9999 ∧ B ≤ g ∧ W.cell? ⟨g, n1, none⟩ = some (.int .u8 (v0 : Int)) ∧ (∀ o, W.frozen? ⟨g, o, none⟩ = false) ∧ bits BinOp.or IntKind.u8 (v0 : Int) (128 / 2 ^ p) = (y : Int) ∧ v0 < 256 ∧
      ∃ L2 : List UInt8, (W.setCell ⟨g, n1, none⟩ (.int .u8 (y : Int))).heap[b]? = some (.cells #[.slice (some ⟨g, 0, none⟩) (n1 + 1) cap, .int .i64 (l.length : Nat)] 105) ∧ (W.setCell ⟨g, n1, none⟩ (.int .u8 (y : Int))).ownsRow B 5 1 (.slice (some ⟨g, 0, none⟩) (n1 + 1) cap) L2.length (bytesV L2) ∧ Packed (strOf L2) (l ++ [true]) := by
  have hs := PKD.1
  rw [strOf_size, List.length_append, List.length_singleton] at hs
  obtain ⟨g, cap, rfl, hBg, hgl, hlc, cg, fg, ty⟩ := own_last KR (by omega)
  have hgb : g ≠ b := by
    rintro rfl
    exact absurd (ty _ _ _ KB) (by decide)
  have hv := UInt8.toNat_lt (LA.getD (LA.length - 1) 0)
  have hor : (LA.getD (LA.length - 1) 0).toNat ||| 2 ^ (7 - p) < 256 := Nat.or_lt_two_pow (n := 8) hv (Nat.pow_lt_pow_right (by omega) (by omega))
  have RS := (World.ownsRow.stored KR (LA.length - 1) (.int .u8 (((LA.getD (LA.length - 1) 0).toNat ||| 2 ^ (7 - p) : Nat) : Int))).1
  have eset := bytesV_set LA (LA.length - 1) (UInt8.ofNat ((LA.getD (LA.length - 1) 0).toNat ||| 2 ^ (7 - p)))
  rw [u8_of hor] at eset
  rw [eset] at RS
  refine ⟨g, LA.length - 1, cap, (LA.getD (LA.length - 1) 0).toNat, (LA.getD (LA.length - 1) 0).toNat ||| 2 ^ (7 - p), by rw [show LA.length - 1 + 1 = LA.length by omega], hgb, by omega, hBg, cg, fg, or_bit _ p hv (by omega), hv, LA.set (LA.length - 1) (UInt8.ofNat ((LA.getD (LA.length - 1) 0).toNat ||| 2 ^ (7 - p))), ?_, ?_, packed_set PKD _ (by rw [u8_of hor, hp])⟩
  · rw [Below.heap_setCell _ _ _ b (fun e => hgb e.symm), show LA.length - 1 + 1 = LA.length by omega]; exact KB
  · rw [List.length_set, show LA.length - 1 + 1 = LA.length by omega]; exact RS

set_option maxRecDepth 100000 in
set_option maxHeartbeats 1600000 in
theorem wbit_f (B b : Nat) (w : World) (sv : Value) (L : List UInt8) (l : List Bool) (h : Wr B b w sv L l) (hl : l.length ≤ 60000) (hB : B ≤ w.heap.size) (h8 : l.length % 8 ≠ 0) :
    Calls Tryz.prog 116 #[.pointer (some ⟨b, 0, none⟩), .bool false] w fun e w' => e = .returned (.tuple #[]) ∧ (∃ sv' L', Wr B b w' sv' L' (l ++ [false])) ∧ Below B w w' := by
  have hL := hide h.len
  have HBB := hide h.base
  obtain ⟨c0, c1, cf⟩ := cells2 h.box
  obtain ⟨p, hp⟩ : ∃ p, l.length % 8 = p := ⟨_, rfl⟩
  have p8 : p < 8 := by omega
  rw [hp] at h8
  have HP := hide hp
  have e4 : IntKind.i64.wrap ((l.length : Int) % 8) = (p : Int) := by rw [IntKind.wrap_i64]; omega
  have e5 : (l.length : Int) % 8 = (p : Int) := by omega
  have FIN : ∀ (W : World) (svA : Value) (LA : List UInt8) (x : Bool), W.heap[b]? = some (.cells #[svA, .int .i64 (l.length : Nat)] 105) → W.ownsRow B 5 1 svA LA.length (bytesV LA) → Packed (strOf LA) (l ++ [x]) → Wr B b (W.setCell ⟨b, 1, none⟩ (.int .i64 ((l.length : Int) + 1))) svA LA (l ++ [x]) := by
    intro W svA LA x k1 k2 k3
    refine ⟨h.base, ?_, ?_, k3⟩
    · simp [World.setCell, Array.getElem?_modify, k1]
    · refine k2.kept (row := some b) ⟨rfl, rfl, rfl, by simp [World.setCell], fun k hk hne => Below.heap_setCell _ _ _ k (fun e => hne (by rw [e]))⟩ ?_
      rcases k2.2 with ⟨rfl, _⟩ | ⟨g, cap, cur, rfl, _, hc, _⟩
      · exact Or.inl rfl
      · right
        intro e
        simp only [Value.ownBlock, Option.some.injEq] at e
        subst e
        rw [k1] at hc
        injection hc with hc
        injection hc with _ h9
        exact absurd h9 (by decide)
  replace FIN := hide FIN
  have h9 : ¬ (p : Int) = 0 := by omega
  have PKD := hide (packed_same h.bits (by rw [unhide HP]; exact h8))
  have KB := hide h.box
  have KR := hide h.row
  have BA := hide (Below.refl B w)
  have BLE := hide hB
  generalize hWA : w = WA at *
  generalize hsv : sv = svA at *
  generalize hLA : L = LA at *
  clear h
  go_enter Tryz.func116, Tryz.ntmps116
  go_wp2_with fail
  have hfin : Wr B b (WA.setCell ⟨b, 1, none⟩ (.int .i64 ((l.length : Int) + 1))) svA LA (l ++ [false]) := unhide FIN WA svA LA false (unhide KB) (unhide KR) (unhide PKD)
  replace hfin := hide hfin
  go_wp2_with fail
  go_end0
  exact ⟨rfl, ⟨_, _, unhide hfin⟩, (unhide BA).trans (below_set1 WA (unhide HBB) _ 1)⟩

set_option maxRecDepth 100000 in
set_option maxHeartbeats 1600000 in
theorem wbit_0f (B b : Nat) (w : World) (sv : Value) (L : List UInt8) (l : List Bool) (h : Wr B b w sv L l) (hl : l.length ≤ 60000) (hB : B ≤ w.heap.size) (h8 : l.length % 8 = 0) :
    Calls Tryz.prog 116 #[.pointer (some ⟨b, 0, none⟩), .bool false] w fun e w' => e = .returned (.tuple #[]) ∧ (∃ sv' L', Wr B b w' sv' L' (l ++ [false])) ∧ Below B w w' := by
  have hL := hide h.len
  have HBB := hide h.base
  obtain ⟨c0, c1, cf⟩ := cells2 h.box
  obtain ⟨p, hp⟩ : ∃ p, l.length % 8 = p := ⟨_, rfl⟩
  have p8 : p < 8 := by omega
  rw [hp] at h8
  have HP := hide hp
  have e4 : IntKind.i64.wrap ((l.length : Int) % 8) = (p : Int) := by rw [IntKind.wrap_i64]; omega
  have e5 : (l.length : Int) % 8 = (p : Int) := by omega
  have FIN : ∀ (W : World) (svA : Value) (LA : List UInt8) (x : Bool), W.heap[b]? = some (.cells #[svA, .int .i64 (l.length : Nat)] 105) → W.ownsRow B 5 1 svA LA.length (bytesV LA) → Packed (strOf LA) (l ++ [x]) → Wr B b (W.setCell ⟨b, 1, none⟩ (.int .i64 ((l.length : Int) + 1))) svA LA (l ++ [x]) := by
    intro W svA LA x k1 k2 k3
    refine ⟨h.base, ?_, ?_, k3⟩
    · simp [World.setCell, Array.getElem?_modify, k1]
    · refine k2.kept (row := some b) ⟨rfl, rfl, rfl, by simp [World.setCell], fun k hk hne => Below.heap_setCell _ _ _ k (fun e => hne (by rw [e]))⟩ ?_
      rcases k2.2 with ⟨rfl, _⟩ | ⟨g, cap, cur, rfl, _, hc, _⟩
      · exact Or.inl rfl
      · right
        intro e
        simp only [Value.ownBlock, Option.some.injEq] at e
        subst e
        rw [k1] at hc
        injection hc with hc
        injection hc with _ h9
        exact absurd h9 (by decide)
  replace FIN := hide FIN
  subst h8
  obtain ⟨zz, zi, zz0, zz1, zz2⟩ := info_parts Tryz.infoU8
  have PKD := hide (packed_push h.bits (unhide HP))
  have WN : ∀ j u, [Value.int .u8 0][j]? = some u → (w.alloc (.cells #[.int .u8 0] 5)).cell? ((⟨w.heap.size, 0, none⟩ : Addr).add j) = some u := World.news_of_block (heap_new w _)
  have RW : (w.alloc (.cells #[.int .u8 0] 5)).ownsRow B 5 1 sv L.length (bytesV L) := h.row.alloc _
  have KA : (w.alloc (.cells #[.int .u8 0] 5)).heap[b]? = some (.cells #[sv, .int .i64 (l.length : Nat)] 105) := (Below.heap_alloc w _ b (lt_of_heap h.box)).trans h.box
  have hs1 : B ≤ (w.alloc (.cells #[.int .u8 0] 5)).heap.size := by simp; omega
  have hLb : L.length ≤ 10000 := by have := unhide hL; omega
  have BA0 : Below B w (w.alloc (.cells #[.int .u8 0] 5)) := (Below.refl _ _).alloc hB _
  have lb := lt_of_heap h.box
  have hlb : ¬ w.heap.size = b := by omega
  replace WN := hide WN
  replace RW := hide RW
  replace KA := hide KA
  replace BA0 := hide BA0
  clear h
  go_enter Tryz.func116, Tryz.ntmps116
  go_wp2_with (at_builtin; refine wpList_append_lies _ rfl _ _ 27 rfl B 5 zz (.int .u8 0) 1 1 Tryz.underlying27 zi zz0 zz1 zz2 rfl (by decide) sv _ _ rfl (unhide RW) ⟨w.heap.size, 0, none⟩ 1 1 [.int .u8 0] rfl rfl (unhide WN) (by intro u hu; simp at hu; subst hu; rfl) (by omega) (by unfold maxLen; omega) (by omega) hs1 _ rfl ?_; intro g9 cap9 w9 hown9 hgrow9 hat9 hlt9; clear hat9 hlt9; have KB9 := own_far (unhide KA) (unhide RW) hgrow9; obtain ⟨d0, d1, df⟩ := cells2 KB9; have BA9 := hide ((unhide BA0).trans (own_below (unhide RW) hs1 hgrow9)); replace KB9 := hide KB9; replace hown9 := hide hown9; clear hgrow9)
  have LL : (L ++ [0]).length = L.length + 1 := by simp
  have KB : (w9.setCell ⟨b, 0, none⟩ (.slice (some ⟨g9, 0, none⟩) (L.length + 1) cap9)).heap[b]? = some (.cells #[.slice (some ⟨g9, 0, none⟩) (L.length + 1) cap9, .int .i64 (l.length : Nat)] 105) := by
    have := unhide KB9
    simp [World.setCell, Array.getElem?_modify, this]
  have KR : (w9.setCell ⟨b, 0, none⟩ (.slice (some ⟨g9, 0, none⟩) (L.length + 1) cap9)).ownsRow B 5 1 (.slice (some ⟨g9, 0, none⟩) (L.length + 1) cap9) (L ++ [0]).length (bytesV (L ++ [0])) := by
    have k2 := unhide hown9
    rw [bytesV_push] at k2
    rw [LL]
    refine k2.kept (row := some b) ⟨rfl, rfl, rfl, by simp [World.setCell], fun k hk hne => Below.heap_setCell _ _ _ k (fun e => hne (by rw [e]))⟩ ?_
    rcases k2.2 with ⟨e0, _⟩ | ⟨g, cap, cur, e0, _, hc, _⟩
    · exact absurd e0 (by simp)
    · right
      rw [e0]
      intro e
      simp only [Value.ownBlock, Option.some.injEq] at e
      subst e
      rw [unhide KB9] at hc
      injection hc with hc
      injection hc with _ h9
      exact absurd h9 (by decide)
  have BA := hide ((unhide BA9).trans (below_set1 w9 (unhide HBB) (.slice (some ⟨g9, 0, none⟩) (L.length + 1) cap9) 0))
  replace KB := hide KB
  replace KR := hide KR
  clear KB9 hown9 BA9 LL WN RW KA BA0 hs1 c0 c1 cf
  generalize w9.setCell ⟨b, 0, none⟩ (.slice (some ⟨g9, 0, none⟩) (L.length + 1) cap9) = WA at KB KR BA ⊢
  generalize Value.slice (some ⟨g9, 0, none⟩) (L.length + 1) cap9 = svA at KB KR ⊢
  generalize L ++ [0] = LA at KR PKD ⊢
  go_end0
  exact ⟨rfl, ⟨_, _, unhide FIN WA svA LA false (unhide KB) (unhide KR) (unhide PKD)⟩, (unhide BA).trans (below_set1 WA (unhide HBB) _ 1)⟩

set_option maxRecDepth 100000 in
set_option maxHeartbeats 1600000 in
theorem wbit_t (B b : Nat) (w : World) (sv : Value) (L : List UInt8) (l : List Bool) (h : Wr B b w sv L l) (hl : l.length ≤ 60000) (hB : B ≤ w.heap.size) (h8 : l.length % 8 ≠ 0) :
    Calls Tryz.prog 116 #[.pointer (some ⟨b, 0, none⟩), .bool true] w fun e w' => e = .returned (.tuple #[]) ∧ (∃ sv' L', Wr B b w' sv' L' (l ++ [true])) ∧ Below B w w' := by
  have hL := hide h.len
  have HBB := hide h.base
  obtain ⟨c0, c1, cf⟩ := cells2 h.box
  obtain ⟨p, hp⟩ : ∃ p, l.length % 8 = p := ⟨_, rfl⟩
  have p8 : p < 8 := by omega
  rw [hp] at h8
  have HP := hide hp
  have e4 : IntKind.i64.wrap ((l.length : Int) % 8) = (p : Int) := by rw [IntKind.wrap_i64]; omega
  have e5 : (l.length : Int) % 8 = (p : Int) := by omega
  have FIN : ∀ (W : World) (svA : Value) (LA : List UInt8) (x : Bool), W.heap[b]? = some (.cells #[svA, .int .i64 (l.length : Nat)] 105) → W.ownsRow B 5 1 svA LA.length (bytesV LA) → Packed (strOf LA) (l ++ [x]) → Wr B b (W.setCell ⟨b, 1, none⟩ (.int .i64 ((l.length : Int) + 1))) svA LA (l ++ [x]) := by
    intro W svA LA x k1 k2 k3
    refine ⟨h.base, ?_, ?_, k3⟩
    · simp [World.setCell, Array.getElem?_modify, k1]
    · refine k2.kept (row := some b) ⟨rfl, rfl, rfl, by simp [World.setCell], fun k hk hne => Below.heap_setCell _ _ _ k (fun e => hne (by rw [e]))⟩ ?_
      rcases k2.2 with ⟨rfl, _⟩ | ⟨g, cap, cur, rfl, _, hc, _⟩
      · exact Or.inl rfl
      · right
        intro e
        simp only [Value.ownBlock, Option.some.injEq] at e
        subst e
        rw [k1] at hc
        injection hc with hc
        injection hc with _ h9
        exact absurd h9 (by decide)
  replace FIN := hide FIN
  have h9 : ¬ (p : Int) = 0 := by omega
  have PKD := hide (packed_same h.bits (by rw [unhide HP]; exact h8))
  have KB := hide h.box
  have KR := hide h.row
  have BA := hide (Below.refl B w)
  have BLE := hide hB
  generalize hWA : w = WA at *
  generalize hsv : sv = svA at *
  generalize hLA : L = LA at *
  clear h
  obtain ⟨g, n1, cap, v0, y, hsv2, hgb, hn1, hBg, cg, fg, eo, hv0, L2, KB2, KR2, PK2⟩ := set_last (unhide KB) (unhide KR) (unhide PKD) hl (unhide HP)
  subst hsv2
  replace KB2 := hide KB2
  replace KR2 := hide KR2
  replace PK2 := hide PK2
  clear KB KR PKD
  go_enter Tryz.func116, Tryz.ntmps116
  go_wp2_with fail
  have hgb2 : ¬ b = g := fun e => hgb e.symm
  have hgb3 : ¬ g = b := hgb
  go_region
  all_goals
    have KD : (WA.setCell ⟨g, n1, none⟩ (.int .u8 (y : Int))).drew.heap[b]? = some (.cells #[.slice (some ⟨g, 0, none⟩) (n1 + 1) cap, .int .i64 (l.length : Nat)] 105) := unhide KB2
    have RD : (WA.setCell ⟨g, n1, none⟩ (.int .u8 (y : Int))).drew.ownsRow B 5 1 (.slice (some ⟨g, 0, none⟩) (n1 + 1) cap) L2.length (bytesV L2) := unhide KR2
    have BD := hide ((unhide BA).trans ((below_set1 WA hBg (.int .u8 (y : Int)) n1).trans ((below_drew _).mono (Nat.le_trans (unhide BLE) (by simp [World.setCell])))))
    clear c0 c1 cf cg fg eo
    generalize (WA.setCell ⟨g, n1, none⟩ (.int .u8 (y : Int))).drew = WB at KD RD BD ⊢
    obtain ⟨c0, c1, cf⟩ := cells2 KD
    have hfin := hide (unhide FIN WB _ L2 true KD RD (unhide PK2))
    clear KD RD
    go_wp2_with fail
    go_end0
    exact ⟨rfl, ⟨_, _, unhide hfin⟩, (unhide BD).trans (below_set1 WB (unhide HBB) _ 1)⟩

set_option maxRecDepth 100000 in
set_option maxHeartbeats 1600000 in
theorem wbit_0t (B b : Nat) (w : World) (sv : Value) (L : List UInt8) (l : List Bool) (h : Wr B b w sv L l) (hl : l.length ≤ 60000) (hB : B ≤ w.heap.size) (h8 : l.length % 8 = 0) :
    Calls Tryz.prog 116 #[.pointer (some ⟨b, 0, none⟩), .bool true] w fun e w' => e = .returned (.tuple #[]) ∧ (∃ sv' L', Wr B b w' sv' L' (l ++ [true])) ∧ Below B w w' := by
  have hL := hide h.len
  have HBB := hide h.base
  obtain ⟨c0, c1, cf⟩ := cells2 h.box
  obtain ⟨p, hp⟩ : ∃ p, l.length % 8 = p := ⟨_, rfl⟩
  have p8 : p < 8 := by omega
  rw [hp] at h8
  have HP := hide hp
  have e4 : IntKind.i64.wrap ((l.length : Int) % 8) = (p : Int) := by rw [IntKind.wrap_i64]; omega
  have e5 : (l.length : Int) % 8 = (p : Int) := by omega
  have FIN : ∀ (W : World) (svA : Value) (LA : List UInt8) (x : Bool), W.heap[b]? = some (.cells #[svA, .int .i64 (l.length : Nat)] 105) → W.ownsRow B 5 1 svA LA.length (bytesV LA) → Packed (strOf LA) (l ++ [x]) → Wr B b (W.setCell ⟨b, 1, none⟩ (.int .i64 ((l.length : Int) + 1))) svA LA (l ++ [x]) := by
    intro W svA LA x k1 k2 k3
    refine ⟨h.base, ?_, ?_, k3⟩
    · simp [World.setCell, Array.getElem?_modify, k1]
    · refine k2.kept (row := some b) ⟨rfl, rfl, rfl, by simp [World.setCell], fun k hk hne => Below.heap_setCell _ _ _ k (fun e => hne (by rw [e]))⟩ ?_
      rcases k2.2 with ⟨rfl, _⟩ | ⟨g, cap, cur, rfl, _, hc, _⟩
      · exact Or.inl rfl
      · right
        intro e
        simp only [Value.ownBlock, Option.some.injEq] at e
        subst e
        rw [k1] at hc
        injection hc with hc
        injection hc with _ h9
        exact absurd h9 (by decide)
  replace FIN := hide FIN
  subst h8
  obtain ⟨zz, zi, zz0, zz1, zz2⟩ := info_parts Tryz.infoU8
  have PKD := hide (packed_push h.bits (unhide HP))
  have WN : ∀ j u, [Value.int .u8 0][j]? = some u → (w.alloc (.cells #[.int .u8 0] 5)).cell? ((⟨w.heap.size, 0, none⟩ : Addr).add j) = some u := World.news_of_block (heap_new w _)
  have RW : (w.alloc (.cells #[.int .u8 0] 5)).ownsRow B 5 1 sv L.length (bytesV L) := h.row.alloc _
  have KA : (w.alloc (.cells #[.int .u8 0] 5)).heap[b]? = some (.cells #[sv, .int .i64 (l.length : Nat)] 105) := (Below.heap_alloc w _ b (lt_of_heap h.box)).trans h.box
  have hs1 : B ≤ (w.alloc (.cells #[.int .u8 0] 5)).heap.size := by simp; omega
  have hLb : L.length ≤ 10000 := by have := unhide hL; omega
  have BA0 : Below B w (w.alloc (.cells #[.int .u8 0] 5)) := (Below.refl _ _).alloc hB _
  have lb := lt_of_heap h.box
  have hlb : ¬ w.heap.size = b := by omega
  replace WN := hide WN
  replace RW := hide RW
  replace KA := hide KA
  replace BA0 := hide BA0
  clear h
  go_enter Tryz.func116, Tryz.ntmps116
  go_wp2_with (at_builtin; refine wpList_append_lies _ rfl _ _ 27 rfl B 5 zz (.int .u8 0) 1 1 Tryz.underlying27 zi zz0 zz1 zz2 rfl (by decide) sv _ _ rfl (unhide RW) ⟨w.heap.size, 0, none⟩ 1 1 [.int .u8 0] rfl rfl (unhide WN) (by intro u hu; simp at hu; subst hu; rfl) (by omega) (by unfold maxLen; omega) (by omega) hs1 _ rfl ?_; intro g9 cap9 w9 hown9 hgrow9 hat9 hlt9; clear hat9 hlt9; have KB9 := own_far (unhide KA) (unhide RW) hgrow9; obtain ⟨d0, d1, df⟩ := cells2 KB9; have BA9 := hide ((unhide BA0).trans (own_below (unhide RW) hs1 hgrow9)); replace KB9 := hide KB9; replace hown9 := hide hown9; clear hgrow9)
  have LL : (L ++ [0]).length = L.length + 1 := by simp
  have KB : (w9.setCell ⟨b, 0, none⟩ (.slice (some ⟨g9, 0, none⟩) (L.length + 1) cap9)).heap[b]? = some (.cells #[.slice (some ⟨g9, 0, none⟩) (L.length + 1) cap9, .int .i64 (l.length : Nat)] 105) := by
    have := unhide KB9
    simp [World.setCell, Array.getElem?_modify, this]
  have KR : (w9.setCell ⟨b, 0, none⟩ (.slice (some ⟨g9, 0, none⟩) (L.length + 1) cap9)).ownsRow B 5 1 (.slice (some ⟨g9, 0, none⟩) (L.length + 1) cap9) (L ++ [0]).length (bytesV (L ++ [0])) := by
    have k2 := unhide hown9
    rw [bytesV_push] at k2
    rw [LL]
    refine k2.kept (row := some b) ⟨rfl, rfl, rfl, by simp [World.setCell], fun k hk hne => Below.heap_setCell _ _ _ k (fun e => hne (by rw [e]))⟩ ?_
    rcases k2.2 with ⟨e0, _⟩ | ⟨g, cap, cur, e0, _, hc, _⟩
    · exact absurd e0 (by simp)
    · right
      rw [e0]
      intro e
      simp only [Value.ownBlock, Option.some.injEq] at e
      subst e
      rw [unhide KB9] at hc
      injection hc with hc
      injection hc with _ h9
      exact absurd h9 (by decide)
  have BA := hide ((unhide BA9).trans (below_set1 w9 (unhide HBB) (.slice (some ⟨g9, 0, none⟩) (L.length + 1) cap9) 0))
  replace KB := hide KB
  replace KR := hide KR
  clear KB9 hown9 BA9 LL WN RW KA BA0 hs1 c0 c1 cf
  obtain ⟨g, n1, cap, v0, y, hsv2, hgb, hn1, hBg, cg, fg, eo, hv0, L2, KB2, KR2, PK2⟩ := set_last (unhide KB) (unhide KR) (unhide PKD) hl (unhide HP)
  simp only [Value.slice.injEq, Option.some.injEq, Addr.mk.injEq] at hsv2
  obtain ⟨⟨rfl, _⟩, hn2, rfl⟩ := hsv2
  obtain rfl : n1 = L.length := by omega
  have BLE : Hid (B ≤ (w9.setCell ⟨b, 0, none⟩ (.slice (some ⟨g9, 0, none⟩) (L.length + 1) cap9)).heap.size) := hide (Nat.le_trans hB (unhide BA).size)
  obtain ⟨c0, c1, cf⟩ := cells2 (unhide KB)
  replace KB2 := hide KB2
  replace KR2 := hide KR2
  replace PK2 := hide PK2
  clear KB KR PKD d0 d1 df
  generalize hn3 : L.length = n1 at KB2 KR2 BA BLE c0 c1 cf cg fg hn1 ⊢
  generalize w9.setCell ⟨b, 0, none⟩ (.slice (some ⟨g9, 0, none⟩) (n1 + 1) cap9) = WA at KB2 KR2 BA BLE c0 c1 cf cg fg ⊢
  have g9b : ¬ g9 = b := hgb
  generalize hg9 : g9 = g at KB2 KR2 c0 c1 cf cg fg hgb hBg ⊢
  generalize hc9 : cap9 = cap at KB2 KR2 c0 c1 cf ⊢
  rw [show (128 : Int) / 2 ^ 0 = 128 from by decide] at eo
  have hgb2 : ¬ b = g := fun e => hgb e.symm
  have hgb3 : ¬ g = b := hgb
  go_region
  all_goals
    have KD : (WA.setCell ⟨g, n1, none⟩ (.int .u8 (y : Int))).drew.heap[b]? = some (.cells #[.slice (some ⟨g, 0, none⟩) (n1 + 1) cap, .int .i64 (l.length : Nat)] 105) := unhide KB2
    have RD : (WA.setCell ⟨g, n1, none⟩ (.int .u8 (y : Int))).drew.ownsRow B 5 1 (.slice (some ⟨g, 0, none⟩) (n1 + 1) cap) L2.length (bytesV L2) := unhide KR2
    have BD := hide ((unhide BA).trans ((below_set1 WA hBg (.int .u8 (y : Int)) n1).trans ((below_drew _).mono (Nat.le_trans (unhide BLE) (by simp [World.setCell])))))
    clear c0 c1 cf cg fg eo
    generalize (WA.setCell ⟨g, n1, none⟩ (.int .u8 (y : Int))).drew = WB at KD RD BD ⊢
    obtain ⟨c0, c1, cf⟩ := cells2 KD
    have hfin := hide (unhide FIN WB _ L2 true KD RD (unhide PK2))
    clear KD RD
    go_wp2_with fail
    go_end0
    exact ⟨rfl, ⟨_, _, unhide hfin⟩, (unhide BD).trans (below_set1 WB (unhide HBB) _ 1)⟩

end Go.Proofs.YtoebmfhgaalcdaaGreatDoor

namespace Go.Proofs.YtoebmfhgaalcdaaGreatDoor
open Go.RowKit

/-- The writer has written these bits. -/
def Wrt (B b : Nat) (w : World) (l : List Bool) : Prop := ∃ sv L, Wr B b w sv L l

theorem Wrt.drewN {B b : Nat} {w : World} {l : List Bool} (h : Wrt B b w l) (n : Nat) : Wrt B b (w.drewN n) l := by
  obtain ⟨sv, L, h⟩ := h
  exact ⟨sv, L, h.base, h.box, h.row, h.bits⟩
theorem wbit_any (B b : Nat) (w : World) (l : List Bool) (x : Bool) (h : Wrt B b w l) (hl : l.length ≤ 60000) (hB : B ≤ w.heap.size) :
    Calls Tryz.prog 116 #[.pointer (some ⟨b, 0, none⟩), .bool x] w fun e w' => e = .returned (.tuple #[]) ∧ Wrt B b w' (l ++ [x]) ∧ Below B w w' := by
  obtain ⟨sv, L, h⟩ := h
  by_cases h8 : l.length % 8 = 0
  · cases x
    · exact wbit_0f B b w sv L l h hl hB h8
    · exact wbit_0t B b w sv L l h hl hB h8
  · cases x
    · exact wbit_f B b w sv L l h hl hB h8
    · exact wbit_t B b w sv L l h hl hB h8

theorem bitLen_log (x : Nat) (h0 : x ≠ 0) (h : x < 18446744073709551616) : Lib.bitLen x = x.log2 + 1 := by
  obtain ⟨b1, b2, b3⟩ := Lib.bitLenAux_bounds 64 x h h0
  have b1 : 1 ≤ Lib.bitLen x := b1
  have b2 : 2 ^ (Lib.bitLen x - 1) ≤ x := b2
  have b3 : x < 2 ^ Lib.bitLen x := b3
  have : x.log2 = Lib.bitLen x - 1 := by
    rw [Nat.log2_eq_iff h0]
    exact ⟨b2, by rw [show Lib.bitLen x - 1 + 1 = Lib.bitLen x by omega]; exact b3⟩
  omega
theorem and1 (m j : Nat) (hm : m < 18446744073709551616) : (bits BinOp.and IntKind.u64 ((m : Int) / 2 ^ j) 1 == 1) = m.testBit j := by
  have e1 : (m : Int) / 2 ^ j = ((m / 2 ^ j : Nat) : Int) := by norm_cast
  have h1 : m / 2 ^ j < 18446744073709551616 := Nat.lt_of_le_of_lt (Nat.div_le_self _ _) hm
  have e2 := bits_and_u64_nat (m / 2 ^ j) 1 h1 (by omega)
  rw [Nat.and_one_is_mod] at e2
  rw [e1, show (1 : Int) = ((1 : Nat) : Int) from rfl, e2, Nat.testBit_eq_decide_div_mod_eq, Bool.eq_iff_iff]
  simp only [beq_iff_eq, decide_eq_true_eq]
  omega

set_option maxRecDepth 100000 in
set_option maxHeartbeats 1600000 in
theorem wgamma_any (B b : Nat) (w : World) (l : List Bool) (n : Nat) (hn : n ≤ 1099511627776) (h : Wrt B b w l) (hl : l.length ≤ 50000) (hB : B ≤ w.heap.size) :
    Calls Tryz.prog 117 #[.pointer (some ⟨b, 0, none⟩), .int .i64 (n : Nat)] w fun e w' => e = .returned (.tuple #[]) ∧ Wrt B b w' (l ++ gammaB n) ∧ Below B w w' := by
  obtain ⟨d1, d2, d3⟩ := log_bounds n hn
  have L : ∀ w1, Calls Tryz.prog 139 #[.int .u64 ((n : Int) + 1)] w1 fun e w' => e = .returned (.int .i64 (((n + 1).log2 : Int) + 1)) ∧ w' = w1 := by
    intro w1
    have := Tryz.bits_Len64 ((n : Int) + 1) w1 (by omega) (by omega)
    rw [show ((n : Int) + 1).toNat = n + 1 by omega, bitLen_log (n + 1) (by omega) (by omega)] at this
    exact this
  have G : gammaB n = List.replicate (n + 1).log2 false ++ digitsB (n + 1) ((n + 1).log2 + 1) := by
    rw [gammaB, digitsB]
    congr 2
    rw [Nat.testBit_eq_decide_div_mod_eq]
    generalize (n + 1).log2 = d at *
    rw [Nat.pow_succ] at d3
    have h1 : (n + 1) / 2 ^ d < 2 := by rw [Nat.div_lt_iff_lt_mul (by omega)]; omega
    have h2 : 1 ≤ (n + 1) / 2 ^ d := by rw [Nat.le_div_iff_mul_le (by omega)]; omega
    rw [show (n + 1) / 2 ^ d = 1 by omega]; rfl
  rw [G]
  have A1 : ∀ j, (bits BinOp.and IntKind.u64 (((n : Int) + 1) / 2 ^ j) 1 == 1) = (n + 1).testBit j := fun j => by
    have := and1 (n + 1) j (by omega)
    rw [show ((n + 1 : Nat) : Int) = (n : Int) + 1 from rfl] at this
    exact this
  clear G d2 d3
  generalize hd : (n + 1).log2 = d at *
  replace L := hide L
  replace A1 := hide A1
  clear hd
  go_enter Tryz.func117, Tryz.ntmps117
  go_wp2_with fail
  refine (unhide L _).mono ?_
  rintro e w1 ⟨rfl, hw1⟩
  rw [hw1]
  clear hw1 w1
  go_wp2_with fail
  go_loopg [14] d (fun m v wr => ∃ i : Nat, m = d - i ∧ i ≤ d ∧ v = .int .i64 i ∧ Wrt B b wr (l ++ List.replicate i false) ∧ Below B w wr)
  case atStart => exact ⟨0, by omega, by omega, rfl, by simpa using h, Below.refl _ _⟩
  case round =>
    obtain ⟨i, hm, hi, rfl, hw, hb⟩ := hrel
    have HM := hide hm
    replace hw := hide hw
    replace hb := hide hb
    clear hm h
    by_cases hid : i < d
    · have hid2 : (i : Int) < (d : Int) := by omega
      go_wp2_with fail
      refine (wbit_any B b _ _ false (unhide hw) (by simp; omega) (Nat.le_trans hB (unhide hb).size)).mono ?_
      rintro e w2 ⟨rfl, k2, b2⟩
      replace k2 := hide k2
      replace b2 := hide b2
      go_wp2_with fail
      go_roundg (d - (i + 1))
      case measure => rw [unhide HM]; omega
      case rel => exact ⟨i + 1, rfl, by omega, by simp, by have := unhide k2; rwa [List.append_assoc, ← List.replicate_succ'] at this, (unhide hb).trans (unhide b2)⟩
    · have hid2 : ¬ (i : Int) < (d : Int) := by omega
      obtain rfl : i = d := by omega
      go_wp2_with fail
      go_loopg [6] (i + 1) (fun m v wr => ∃ done : List Bool, m ≤ i + 1 ∧ v = .int .i64 ((m : Int) - 1) ∧ digitsB (n + 1) (i + 1) = done ++ digitsB (n + 1) m ∧ Wrt B b wr (l ++ List.replicate i false ++ done) ∧ Below B w wr)
      case atStart => exact ⟨[], Nat.le_refl _, by simp, rfl, by rw [List.append_nil]; exact unhide hw, unhide hb⟩
      case round =>
        obtain ⟨done, hm2, rfl, hd2, hw2, hb2⟩ := hrel
        have hlen : done.length + gk = i + 1 := by
          have := congrArg List.length hd2
          rw [digitsB_len, List.length_append, digitsB_len] at this
          omega
        replace hd2 := hide hd2
        replace hw2 := hide hw2
        replace hb2 := hide hb2
        by_cases h0 : gk = 0
        · subst h0
          have DONE : Wrt B b wr (l ++ (List.replicate i false ++ digitsB (n + 1) (i + 1))) := by
            rw [unhide hd2, digitsB, List.append_nil, ← List.append_assoc]; exact unhide hw2
          replace DONE := hide DONE
          go_wp2_with fail
          go_end0
          exact ⟨rfl, unhide DONE, unhide hb2⟩
        · obtain ⟨j, hj⟩ : ∃ j, gk = j + 1 := ⟨gk - 1, by omega⟩
          have ej : (gk : Int) - 1 = (j : Int) := by omega
          have ej0 : (0 : Int) ≤ (j : Int) := by omega
          have ej64 : j < 64 := by omega
          have ab := unhide A1 j
          have NEXT : digitsB (n + 1) (i + 1) = (done ++ [(n + 1).testBit j]) ++ digitsB (n + 1) j := by rw [unhide hd2, hj, digitsB, List.append_assoc]; rfl
          have WB := hide (fun W x (h : Wrt B b W (l ++ List.replicate i false ++ done)) (hB : B ≤ W.heap.size) => wbit_any B b W _ x h (by simp; omega) hB)
          replace NEXT := hide NEXT
          generalize (n + 1).testBit j = tb at *
          rw [ej]
          clear ej
          go_wp2_with fail
          refine (unhide WB wr tb (unhide hw2) (Nat.le_trans hB (unhide hb2).size)).mono ?_
          rintro e w3 ⟨rfl, k3, b3⟩
          replace k3 := hide k3
          replace b3 := hide b3
          go_wp2_with fail
          go_roundg j
          case measure => omega
          case rel => exact ⟨done ++ [tb], by omega, rfl, unhide NEXT, by have := unhide k3; rwa [List.append_assoc] at this, (unhide hb2).trans (unhide b3)⟩

set_option maxHeartbeats 1600000 in
theorem wid_any (w0 : World) (t : Tr Bool) : ∀ (v : Value), TB w0 v t → ∀ (b : Nat) (w : World) (l : List Bool), Wrt w0.heap.size b w l → Below w0.heap.size w0 w → l.length + (wid t).length ≤ 50000 →
    Calls Tryz.prog 68 #[.pointer (some ⟨b, 0, none⟩), v] w fun e w' => e = .returned (.tuple #[]) ∧ Wrt w0.heap.size b w' (l ++ wid t) ∧ Below w0.heap.size w0 w' := by
  induction t using Tr.ind with
  | leaf a =>
    intro v hv b w l hw hb hl
    have tv := TB.below hb hv
    obtain ⟨k, rfl, hk⟩ := tv
    have hl : l.length + 2 ≤ 50000 := hl
    have hk0 : w0.heap[k]? = some (.cells #[.bool a, .pointer none, .pointer none] 92) := by
      obtain ⟨k', e, hk'⟩ := hv
      injection e with e; injection e with e; injection e with e
      rw [e]; exact hk'
    obtain ⟨c0, c1, c2⟩ := cells3 hk
    show Calls Tryz.prog 68 _ w fun e w' => e = .returned (.tuple #[]) ∧ Wrt w0.heap.size b w' (l ++ [false, a]) ∧ Below w0.heap.size w0 w'
    have W1 := hide (wbit_any w0.heap.size b w l false hw (by omega) hb.size)
    have W2 := hide (fun W (h : Wrt w0.heap.size b W (l ++ [false])) hB => wbit_any w0.heap.size b W _ a h (by simp; omega) hB)
    replace hb := hide hb
    replace hk0 := hide hk0
    clear hv hw hk
    go_enter Tryz.func68, Tryz.ntmps68
    go_wp2_with fail
    refine (isLeafB_yes k w c1).mono ?_
    rintro e w1 ⟨rfl, hw1⟩
    rw [hw1]
    clear hw1 w1
    go_wp2_with fail
    refine (unhide W1).mono ?_
    rintro e w2 ⟨rfl, k2, b2⟩
    have b02 := (unhide hb).trans b2
    obtain ⟨d0, d1, d2⟩ := cells3 ((b02.block k (lt_of_heap (unhide hk0))).trans (unhide hk0))
    replace k2 := hide k2
    replace b02 := hide b02
    clear b2 c0 c1 c2
    go_wp2_with fail
    refine (unhide W2 _ (unhide k2) (unhide b02).size).mono ?_
    rintro e w3 ⟨rfl, k3, b3⟩
    replace k3 := hide k3
    replace b3 := hide b3
    go_wp2_with fail
    refine bodyPost_ret (v := .tuple #[]) (by simp [results, Tryz.results68]) rfl ?_
    exact ⟨rfl, by have := unhide k3; rwa [List.append_assoc] at this, (unhide b02).trans (unhide b3)⟩
  | pair p q ihl ihr =>
    intro v hv b w l hw hb hl
    have el : (wid (.pair p q)).length = 1 + (wid p).length + (wid q).length := by show (true :: (wid p ++ wid q)).length = _; rw [List.length_cons, List.length_append]; omega
    rw [el] at hl
    obtain ⟨k, vl, vr, rfl, hk, tl, tr⟩ := hv
    obtain ⟨kl, rfl⟩ := TA.root tl
    obtain ⟨kr, rfl⟩ := TA.root tr
    obtain ⟨c0, c1, c2⟩ := cells3 ((hb.block k (lt_of_heap hk)).trans hk)
    show Calls Tryz.prog 68 _ w fun e w' => e = .returned (.tuple #[]) ∧ Wrt w0.heap.size b w' (l ++ (true :: (wid p ++ wid q))) ∧ Below w0.heap.size w0 w'
    have W1 := hide (wbit_any w0.heap.size b w l true hw (by omega) hb.size)
    have W2 := hide (fun W h hb => ihl _ tl b W (l ++ [true]) h hb (by simp; omega))
    have W3 := hide (fun W h hb => ihr _ tr b W ((l ++ [true]) ++ wid p) h hb (by simp; omega))
    replace hb := hide hb
    replace hk := hide hk
    clear hw tl tr ihl ihr
    go_enter Tryz.func68, Tryz.ntmps68
    go_wp2_with fail
    refine (isLeafB_no k kl w c1).mono ?_
    rintro e w1 ⟨rfl, hw1⟩
    rw [hw1]
    clear hw1 w1
    go_wp2_with fail
    refine (unhide W1).mono ?_
    rintro e w2 ⟨rfl, k2, b2⟩
    have b02 := (unhide hb).trans b2
    clear c0 c1 c2 b2
    obtain ⟨c0, c1, c2⟩ := cells3 ((b02.block k (lt_of_heap (unhide hk))).trans (unhide hk))
    replace k2 := hide k2
    replace b02 := hide b02
    go_wp2_with fail
    refine (unhide W2 _ (unhide k2) (unhide b02)).mono ?_
    rintro e w3 ⟨rfl, k3, b03⟩
    clear c0 c1 c2
    obtain ⟨c0, c1, c2⟩ := cells3 ((b03.block k (lt_of_heap (unhide hk))).trans (unhide hk))
    replace k3 := hide k3
    replace b03 := hide b03
    go_wp2_with fail
    refine (unhide W3 _ (unhide k3) (unhide b03)).mono ?_
    rintro e w4 ⟨rfl, k4, b04⟩
    replace k4 := hide k4
    replace b04 := hide b04
    go_wp2_with fail
    go_end0
    exact ⟨rfl, by have := unhide k4; rwa [List.append_assoc, List.append_assoc] at this, unhide b04⟩

set_option maxHeartbeats 1600000 in
theorem wev_any (w0 : World) (t : Tr Nat) : ∀ (v : Value), TI w0 v t → ∀ (b : Nat) (w : World) (l : List Bool) (base : Nat), Wrt w0.heap.size b w l → Below w0.heap.size w0 w → base ≤ lowest t → highest t ≤ 1099511627776 → l.length + (wev t base).length ≤ 50000 →
    Calls Tryz.prog 69 #[.pointer (some ⟨b, 0, none⟩), v, .int .i64 (base : Nat)] w fun e w' => e = .returned (.tuple #[]) ∧ Wrt w0.heap.size b w' (l ++ wev t base) ∧ Below w0.heap.size w0 w' := by
  induction t using Tr.ind with
  | leaf a =>
    intro v hv b w l base hw hb hlo hhi hl
    have hlo : base ≤ a := hlo
    have hhi : a ≤ 1099511627776 := hhi
    have el : (wev (.leaf a) base).length = 1 + (gammaB (a - base)).length := by show (false :: gammaB (a - base)).length = _; rw [List.length_cons]; omega
    rw [el] at hl
    have LW : Calls Tryz.prog 101 #[v] w fun e w' => e = .returned (.int .i64 (a : Nat)) ∧ ∃ n, w' = w.drewN n := low_any (.leaf a) w v (TI.below hb hv)
    obtain ⟨k, rfl, hk⟩ := hv
    show Calls Tryz.prog 69 _ w fun e w' => e = .returned (.tuple #[]) ∧ Wrt w0.heap.size b w' (l ++ (false :: gammaB (a - base))) ∧ Below w0.heap.size w0 w'
    have W1 := hide (fun W h hB => wbit_any w0.heap.size b W l false h (by omega) hB)
    have W2 := hide (fun W (h : Wrt w0.heap.size b W (l ++ [false])) hB => wgamma_any w0.heap.size b W _ (a - base) (by omega) h (by simp; omega) hB)
    have es : ((a - base : Nat) : Int) = (a : Int) - (base : Int) := by omega
    rw [es] at W2
    replace LW := hide LW
    replace hb := hide hb
    replace hk := hide hk
    replace hw := hide hw
    clear es
    go_enter Tryz.func69, Tryz.ntmps69
    go_wp2_with fail
    refine (unhide LW).mono ?_
    rintro e w1 ⟨rfl, n1, hw1⟩
    have b01 : Below w0.heap.size w0 w1 := by rw [hw1]; exact (unhide hb).trans ⟨rfl, rfl, rfl, Nat.le_refl _, fun _ _ => rfl⟩
    have k1 : Wrt w0.heap.size b w1 l := by rw [hw1]; exact (unhide hw).drewN n1
    obtain ⟨c0, c1, c2⟩ := cells3 ((b01.block k (lt_of_heap (unhide hk))).trans (unhide hk))
    replace k1 := hide k1
    replace b01 := hide b01
    clear hw1 LW hw hb
    go_wp2_with fail
    refine (isLeafI_yes k w1 c1).mono ?_
    rintro e w2 ⟨rfl, hw2⟩
    rw [hw2]
    clear hw2 w2
    go_wp2_with fail
    refine (unhide W1 _ (unhide k1) (unhide b01).size).mono ?_
    rintro e w3 ⟨rfl, k3, b3⟩
    have b03 := (unhide b01).trans b3
    clear c0 c1 c2 b3
    obtain ⟨c0, c1, c2⟩ := cells3 ((b03.block k (lt_of_heap (unhide hk))).trans (unhide hk))
    replace k3 := hide k3
    replace b03 := hide b03
    go_wp2_with fail
    refine (unhide W2 _ (unhide k3) (unhide b03).size).mono ?_
    rintro e w4 ⟨rfl, k4, b4⟩
    have b04 := (unhide b03).trans b4
    clear c0 c1 c2 b4
    obtain ⟨c0, c1, c2⟩ := cells3 ((b04.block k (lt_of_heap (unhide hk))).trans (unhide hk))
    replace k4 := hide k4
    replace b04 := hide b04
    go_wp2_with fail
    refine (isLeafI_yes k w4 c1).mono ?_
    rintro e w5 ⟨rfl, hw5⟩
    rw [hw5]
    clear hw5 w5
    go_wp2_with fail
    go_end0
    exact ⟨rfl, by have := unhide k4; rwa [List.append_assoc] at this, unhide b04⟩
  | pair p q ihl ihr =>
    intro v hv b w l base hw hb hlo hhi hl
    have LW := low_any (.pair p q) w v (TI.below hb hv)
    have hlo : base ≤ min (lowest p) (lowest q) := hlo
    have hhi : max (highest p) (highest q) ≤ 1099511627776 := hhi
    have hlow := low_high p
    have LW : Calls Tryz.prog 101 #[v] w fun e w' => e = .returned (.int .i64 ((min (lowest p) (lowest q) : Nat) : Int)) ∧ ∃ n, w' = w.drewN n := LW
    have el : (wev (.pair p q) base).length = 1 + (gammaB (min (lowest p) (lowest q) - base)).length + (wev p (min (lowest p) (lowest q))).length + (wev q (min (lowest p) (lowest q))).length := by
      show (true :: (gammaB (min (lowest p) (lowest q) - base) ++ (wev p (min (lowest p) (lowest q)) ++ wev q (min (lowest p) (lowest q))))).length = _
      rw [List.length_cons, List.length_append, List.length_append]; omega
    rw [el] at hl
    show Calls Tryz.prog 69 _ w fun e w' => e = .returned (.tuple #[]) ∧ Wrt w0.heap.size b w' (l ++ (true :: (gammaB (min (lowest p) (lowest q) - base) ++ (wev p (min (lowest p) (lowest q)) ++ wev q (min (lowest p) (lowest q)))))) ∧ Below w0.heap.size w0 w'
    obtain ⟨k, vl, vr, rfl, hk, tl, tr⟩ := hv
    obtain ⟨kl, rfl⟩ := TA.root tl
    obtain ⟨kr, rfl⟩ := TA.root tr
    have m1 := Nat.min_le_left (lowest p) (lowest q)
    have m2 := Nat.min_le_right (lowest p) (lowest q)
    generalize min (lowest p) (lowest q) = m at *
    have W1 := hide (fun W h hB => wbit_any w0.heap.size b W l true h (by omega) hB)
    have W2 := hide (fun W (h : Wrt w0.heap.size b W (l ++ [true])) hB => wgamma_any w0.heap.size b W _ (m - base) (by omega) h (by simp; omega) hB)
    have W3 := hide (fun W h hb => ihl _ tl b W ((l ++ [true]) ++ gammaB (m - base)) m h hb m1 (by omega) (by simp; omega))
    have W4 := hide (fun W h hb => ihr _ tr b W (((l ++ [true]) ++ gammaB (m - base)) ++ wev p m) m h hb m2 (by omega) (by simp; omega))
    have es : ((m - base : Nat) : Int) = (m : Int) - (base : Int) := by omega
    rw [es] at W2
    replace LW := hide LW
    replace hb := hide hb
    replace hk := hide hk
    replace hw := hide hw
    clear es tl tr ihl ihr
    go_enter Tryz.func69, Tryz.ntmps69
    go_wp2_with fail
    refine (unhide LW).mono ?_
    rintro e w1 ⟨rfl, n1, hw1⟩
    have b01 : Below w0.heap.size w0 w1 := by rw [hw1]; exact (unhide hb).trans ⟨rfl, rfl, rfl, Nat.le_refl _, fun _ _ => rfl⟩
    have k1 : Wrt w0.heap.size b w1 l := by rw [hw1]; exact (unhide hw).drewN n1
    obtain ⟨c0, c1, c2⟩ := cells3 ((b01.block k (lt_of_heap (unhide hk))).trans (unhide hk))
    replace k1 := hide k1
    replace b01 := hide b01
    clear hw1 LW hw hb
    go_wp2_with fail
    refine (isLeafI_no k kl w1 c1).mono ?_
    rintro e w2 ⟨rfl, hw2⟩
    rw [hw2]
    clear hw2 w2
    go_wp2_with fail
    refine (unhide W1 _ (unhide k1) (unhide b01).size).mono ?_
    rintro e w3 ⟨rfl, k3, b3⟩
    have b03 := (unhide b01).trans b3
    clear c0 c1 c2 b3
    obtain ⟨c0, c1, c2⟩ := cells3 ((b03.block k (lt_of_heap (unhide hk))).trans (unhide hk))
    replace k3 := hide k3
    replace b03 := hide b03
    go_wp2_with fail
    refine (unhide W2 _ (unhide k3) (unhide b03).size).mono ?_
    rintro e w4 ⟨rfl, k4, b4⟩
    have b04 := (unhide b03).trans b4
    clear c0 c1 c2 b4
    obtain ⟨c0, c1, c2⟩ := cells3 ((b04.block k (lt_of_heap (unhide hk))).trans (unhide hk))
    replace k4 := hide k4
    replace b04 := hide b04
    go_wp2_with fail
    refine (isLeafI_no k kl w4 c1).mono ?_
    rintro e w5 ⟨rfl, hw5⟩
    rw [hw5]
    clear hw5 w5
    go_wp2_with fail
    refine (unhide W3 _ (unhide k4) (unhide b04)).mono ?_
    rintro e w6 ⟨rfl, k6, b06⟩
    clear c0 c1 c2
    obtain ⟨c0, c1, c2⟩ := cells3 ((b06.block k (lt_of_heap (unhide hk))).trans (unhide hk))
    replace k6 := hide k6
    replace b06 := hide b06
    go_wp2_with fail
    refine (unhide W4 _ (unhide k6) (unhide b06)).mono ?_
    rintro e w7 ⟨rfl, k7, b07⟩
    replace k7 := hide k7
    replace b07 := hide b07
    go_wp2_with fail
    go_end0
    exact ⟨rfl, by have := unhide k7; simpa only [List.append_assoc, List.singleton_append, List.cons_append, List.nil_append] using this, unhide b07⟩

set_option maxRecDepth 100000 in
set_option maxHeartbeats 1600000 in
theorem pkWrite_any (id : Tr Bool) (ev : Tr Nat) (P : PT id ev) (w : World) (v u : Value) (h : TB w v id) (g : TI w u ev) :
    Calls Tryz.prog 34 #[.agg #[v, u]] w fun e w' => ∃ c, e = .returned (.string c) ∧ Packed c (wbits id ev) ∧ Below w.heap.size w w' := by
  obtain ⟨lb, lb4⟩ := P.bits
  have hsum : (wid id).length + (wev ev 0).length = (wbits id ev).length := by rw [wbits, List.length_append]
  obtain ⟨kv, rfl⟩ := TA.root h
  obtain ⟨ku, rfl⟩ := TA.root g
  have b1 := below_alloc w (.cells #[.pointer (some ⟨kv, 0, none⟩), .pointer (some ⟨ku, 0, none⟩)] 61)
  have h1 := TA.below h b1
  have g1 := TA.below g b1
  have x1 : (w.alloc (.cells #[.pointer (some ⟨kv, 0, none⟩), .pointer (some ⟨ku, 0, none⟩)] 61)).heap[w.heap.size]? = some (.cells #[.pointer (some ⟨kv, 0, none⟩), .pointer (some ⟨ku, 0, none⟩)] 61) := heap_new w _
  have s1 : (w.alloc (.cells #[.pointer (some ⟨kv, 0, none⟩), .pointer (some ⟨ku, 0, none⟩)] 61)).heap.size = w.heap.size + 1 := by simp
  have START : ∀ W0 : World, W0.heap.size = w.heap.size + 1 → Wrt W0.heap.size (w.heap.size + 1) (W0.alloc (.cells #[.slice none 0 0, .int .i64 0] 105)) [] := by
    intro W0 e0
    refine ⟨.slice none 0 0, [], by omega, ?_, World.ownsRow_nil _ _ _ _, ?_⟩
    · rw [← e0]; exact heap_new W0 _
    · refine ⟨by simp [strOf_size], fun k hk => ?_⟩
      rw [strOf_size] at hk
      simp at hk
  have W1 := hide (fun W0 (h1 : TB W0 (.pointer (some ⟨kv, 0, none⟩)) id) W hW hb => wid_any W0 id _ h1 (w.heap.size + 1) W [] hW hb (by rw [List.length_nil]; omega))
  have W2 := hide (fun W0 (g1 : TI W0 (.pointer (some ⟨ku, 0, none⟩)) ev) W hW hb => wev_any W0 ev _ g1 (w.heap.size + 1) W ([] ++ wid id) 0 hW hb (Nat.zero_le _) P.hi (by rw [List.nil_append]; omega))
  have hu1 := Tryz.underlying27
  have hu2 := Tryz.underlying5
  have hu3 := Tryz.underlying9
  replace hu1 := hide hu1
  replace hu2 := hide hu2
  replace hu3 := hide hu3
  replace START := hide START
  have x0 := cells2 x1
  clear h g
  generalize hW0 : w.alloc (.cells #[.pointer (some ⟨kv, 0, none⟩), .pointer (some ⟨ku, 0, none⟩)] 61) = W0 at *
  have W1' := hide (unhide W1 W0 h1)
  have W2' := hide (unhide W2 W0 g1)
  have ST := hide (unhide START W0 s1)
  replace x1 := hide x1
  replace b1 := hide b1
  replace s1 := hide s1
  replace hW0 := hide hW0
  clear W1 W2 h1 g1 START x0 P
  go_enter Tryz.func34, Tryz.ntmps34
  rw [← unhide hW0] at ST W1' W2' x1 b1 s1
  go_wp2_with fail
  rw [unhide hW0] at ST W1' W2' x1 b1 s1 ⊢
  refine (unhide W1' _ (unhide ST) (below_alloc _ _)).mono ?_
  rintro e w2 ⟨rfl, k2, b2⟩
  obtain ⟨c0, c1, cf⟩ := cells2 ((b2.block w.heap.size (by rw [unhide s1]; omega)).trans (unhide x1))
  replace k2 := hide k2
  replace b2 := hide b2
  go_wp2_with fail
  refine (unhide W2' _ (unhide k2) (unhide b2)).mono ?_
  rintro e w3 ⟨rfl, ⟨sv, L, k3⟩, b3⟩
  have hLl := k3.len
  have hL0 : 0 < L.length := by rw [hLl, List.nil_append, List.length_append]; omega
  obtain ⟨d0, d1, df⟩ := cells2 k3.box
  have BB := hide ((unhide b1).trans (b3.mono (by rw [unhide s1]; omega)))
  have PK : Hid (Packed (strOf L) (wbits id ev)) := hide (by have := k3.bits; rwa [List.nil_append] at this)
  rcases k3.row.2 with ⟨_, h0⟩ | ⟨g9, cap, cur, rfl, hb9, hc9, h19, h29, h39, h49⟩
  · omega
  have HC : Sem.run Tryz.prog (convert 27 9 (.slice (some ⟨g9, 0, none⟩) L.length cap)) w3 = .ok (.string (strOf L)) w3 := by
    refine run_convert_bytes_back w3 _ _ 5 ⟨g9, 0, none⟩ cap L (unhide hu1) (unhide hu2) (unhide hu3) fun j hj => ?_
    have hadd : (⟨g9, 0, none⟩ : Addr).add j = ⟨g9, j, none⟩ := by unfold Addr.add; split <;> simp_all
    rw [hadd]
    have hv : (bytesV L)[j]? = some (.int .u8 (L[j].toNat : Int)) := by
      unfold bytesV
      rw [List.getElem?_map, List.getElem?_eq_getElem hj]; rfl
    rw [← h49, List.getElem?_take_of_lt (by omega)] at hv
    simp only [World.cell?, hc9]
    simpa using hv
  clear k3 hLl hL0 hc9 h19 h29 h39 h49 hb9 c0 c1 cf
  generalize L.length = n at *
  generalize strOf L = S at *
  go_wp2_with fail
  go_ret
  exact ⟨S, rfl, unhide PK, unhide BB⟩

set_option maxHeartbeats 800000 in
/-- Encode of a stamp. -/
theorem encode_ok {s : ByteArray} {id : Tr Bool} {ev : Tr Nat} (hm : s.size ≤ maxLen) (f : readR s = .ok id ev) (P : PT id ev) (w : World) :
    Calls Tryz.prog 17 #[.string s] w fun e w' => ∃ c, e = .returned (.tuple #[.string c, .int .i64 0]) ∧ Packed c (wbits id ev) ∧ Below w.heap.size w w' := by
  have R := hide (sread_ok hm f w)
  have S := hide (fun w v u h g => pkWrite_any id ev P w v u h g)
  clear f P
  go_enter Tryz.func17, Tryz.ntmps17
  go_wp2_with fail
  refine (unhide R).mono ?_
  rintro e w1 ⟨k, j, rfl, h1, h2, b1⟩
  have S2 := hide (unhide S _ _ _ (TA.below h1 (below_alloc w1 (.cells #[.pointer (some ⟨k, 0, none⟩), .pointer (some ⟨j, 0, none⟩)] 61))) (TA.below h2 (below_alloc w1 (.cells #[.pointer (some ⟨k, 0, none⟩), .pointer (some ⟨j, 0, none⟩)] 61))))
  have B := hide (below_trans b1 (below_alloc w1 (.cells #[.pointer (some ⟨k, 0, none⟩), .pointer (some ⟨j, 0, none⟩)] 61)))
  clear h1 h2 b1 S
  go_wp2_with fail
  refine (unhide S2).mono ?_
  rintro e w2 ⟨c, rfl, pk, b2⟩
  replace pk := hide pk
  replace b2 := hide b2
  go_wp2_with fail
  go_ret2
  exact ⟨c, rfl, unhide pk, below_trans (unhide B) (unhide b2)⟩

end Go.Proofs.YtoebmfhgaalcdaaGreatDoor
