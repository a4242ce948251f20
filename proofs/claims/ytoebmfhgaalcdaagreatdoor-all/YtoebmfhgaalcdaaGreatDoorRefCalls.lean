/-
  Our own. sprigsref.Read again, by cells; two, Shares, Leq.
-/
import Derived.Test.YtoebmfhgaalcdaaGreatDoorRefTextAll
import Derived.Test.YtoebmfhgaalcdaaGreatDoorRefFails
import Derived.Test.YtoebmfhgaalcdaaGreatDoorRefRead
import Derived.Test.YtoebmfhgaalcdaaGreatDoorReadInv
import Derived.Test.YtoebmfhgaalcdaaGreatDoorCallsBad
namespace Go.Proofs.YtoebmfhgaalcdaaGreatDoor
open Go.RowKit

theorem pow8 : (2 : Nat) ^ 8 = 256 := rfl

/-- The cells of a stamp. -/
def SC (b : Nat) (id : Tr Bool) (ev : Tr Nat) (w : World) : Prop := St b (fun k => cellT id 8 k) (fun k => cellT ev 8 k) w

theorem rread_ok {s : ByteArray} {id : Tr Bool} {ev : Tr Nat} (hm : s.size ≤ maxLen) (f : readR s = .ok id ev) (w : World) :
    Calls Tryz.prog 38 #[.string s] w fun e w' => ∃ b, e = .returned (.tuple #[.pointer (some ⟨b, 0, none⟩), .int .i64 0, .int .i64 0]) ∧ w.heap.size ≤ b ∧ SC b id ev w' ∧ Below w.heap.size w w' := by
  have P := (readR_inv f).1
  have R := rread_any fails_any s w hm
  rw [f] at R
  refine R.mono ?_
  rintro e w' ⟨b, rfl, h1, h2, h3⟩
  refine ⟨b, rfl, h1, h2.congr (fun i hi => ?_) (fun i hi => ?_), h3⟩
  · rw [lay_in _ _ _ _ _ (by omega) (by omega), Nat.sub_zero, ← pow8]
    exact cellB_T id 8 i P.di (by rw [pow8]; exact hi)
  · rw [lay_in _ _ _ _ _ (by omega) (by omega), Nat.sub_zero, ← pow8]
    exact cellI_T ev 8 i P.de (by rw [pow8]; exact hi)
theorem rread_bad {s : ByteArray} {e p : Nat} (hm : s.size ≤ maxLen) (f : readR s = .bad e p) (w : World) :
    Calls Tryz.prog 38 #[.string s] w fun o w' => o = .returned (.tuple #[.pointer none, .int .i64 (e : Nat), .int .i64 (p : Nat)]) ∧ Below w.heap.size w w' := by
  have R := rread_any fails_any s w hm
  rw [f] at R
  exact R

theorem cell_high (ev : Tr Nat) (k : Nat) : cellT ev 8 k ≤ highest ev := le_highest ev _
theorem SC.share (id : Tr Bool) (hd : deepT id ≤ 8) : cnt (fun k => cellT id 8 k) 0 256 = shareP id 256 :=
  cnt_share _ 8 0 id hd (fun k _ => by rw [Nat.zero_add])
theorem SC.below {b : Nat} {id : Tr Bool} {ev : Tr Nat} {w w' : World} (h : SC b id ev w) (hb : Below w.heap.size w w') : SC b id ev w' := St.below h hb

set_option maxHeartbeats 800000 in
theorem rShares_ok {s : ByteArray} {id : Tr Bool} {ev : Tr Nat} (hm : s.size ≤ maxLen) (f : readR s = .ok id ev) (w : World) :
    Calls Tryz.prog 85 #[.string s] w fun o w' => o = .returned (.tuple #[.int .i64 (shareP id 256 : Nat), .int .i64 0]) ∧ Below w.heap.size w w' := by
  have R := hide (rread_ok hm f w)
  have SH := SC.share id (readR_inv f).1.di
  clear f
  have S := hide (fun b w1 (h : SC b id ev w1) => rShare_any b _ _ w1 h)
  rw [SH] at S
  clear SH
  generalize shareP id 256 = z at *
  go_enter Tryz.func85, Tryz.ntmps85
  go_wp2_with fail
  refine (unhide R).mono ?_
  rintro o w1 ⟨b, rfl, _, sc, b1⟩
  have S1 := hide (unhide S b w1 sc)
  replace sc := hide sc
  replace b1 := hide b1
  clear S
  go_wp2_with fail
  refine (unhide S1).mono ?_
  rintro o w2 ⟨rfl, rfl⟩
  go_wp2_with fail
  go_ret2
  exact ⟨rfl, unhide b1⟩
set_option maxHeartbeats 800000 in
theorem rShares_bad {s : ByteArray} {e p : Nat} (hm : s.size ≤ maxLen) (f : readR s = .bad e p) (w : World) :
    Calls Tryz.prog 85 #[.string s] w fun o w' => o = .returned (.tuple #[.int .i64 0, .int .i64 (e : Nat)]) ∧ Below w.heap.size w w' := by
  have R := hide (rread_bad hm f w)
  have he := readR_errno f
  have he1 : ¬ (e : Int) = 0 := by omega
  clear f
  go_enter Tryz.func85, Tryz.ntmps85
  go_wp2_with fail
  refine (unhide R).mono ?_
  rintro o w1 ⟨rfl, b1⟩
  replace b1 := hide b1
  go_wp2_with fail
  go_ret2
  exact ⟨rfl, unhide b1⟩

set_option maxHeartbeats 800000 in
theorem rtwo_ok {s t : ByteArray} {i1 i2 : Tr Bool} {e1 e2 : Tr Nat} (hs : s.size ≤ maxLen) (ht : t.size ≤ maxLen) (f : readR s = .ok i1 e1) (g : readR t = .ok i2 e2) (w : World) :
    Calls Tryz.prog 128 #[.string s, .string t] w fun o w' => ∃ a b, o = .returned (.tuple #[.pointer (some ⟨a, 0, none⟩), .pointer (some ⟨b, 0, none⟩), .int .i64 0]) ∧ w.heap.size ≤ a ∧ a < b ∧ SC a i1 e1 w' ∧ SC b i2 e2 w' ∧ Below w.heap.size w w' := by
  have R1 := hide (rread_ok hs f w)
  have R2 := hide (rread_ok ht g)
  clear f g
  go_enter Tryz.func128, Tryz.ntmps128
  go_wp2_with fail
  refine (unhide R1).mono ?_
  rintro o w1 ⟨a, rfl, h1, sc1, b1⟩
  have ha := St.lt sc1
  replace sc1 := hide sc1
  replace b1 := hide b1
  go_wp2_with fail
  refine (unhide R2 _).mono ?_
  rintro o w2 ⟨b, rfl, h2, sc2, b2⟩
  have sc3 := hide (SC.below (unhide sc1) b2)
  replace sc2 := hide sc2
  replace b2 := hide (below_trans (unhide b1) b2)
  go_wp2_with fail
  go_ret3
  exact ⟨a, b, rfl, h1, by omega, unhide sc3, unhide sc2, unhide b2⟩
set_option maxHeartbeats 800000 in
theorem rtwo_bad1 {s t : ByteArray} {e p : Nat} (hm : s.size ≤ maxLen) (f : readR s = .bad e p) (w : World) :
    Calls Tryz.prog 128 #[.string s, .string t] w fun o w' => ∃ v u, o = .returned (.tuple #[v, u, .int .i64 (e : Nat)]) ∧ Below w.heap.size w w' := by
  have R := hide (rread_bad hm f w)
  have he := readR_errno f
  have he1 : ¬ (e : Int) = 0 := by omega
  clear f
  go_enter Tryz.func128, Tryz.ntmps128
  go_wp2_with fail
  refine (unhide R).mono ?_
  rintro o w1 ⟨rfl, b1⟩
  replace b1 := hide b1
  go_wp2_with fail
  go_ret3
  exact ⟨_, _, rfl, unhide b1⟩
set_option maxHeartbeats 800000 in
theorem rtwo_bad2 {s t : ByteArray} {i1 : Tr Bool} {e1 : Tr Nat} {e p : Nat} (hs : s.size ≤ maxLen) (f : readR s = .ok i1 e1) (ht : t.size ≤ maxLen) (g : readR t = .bad e p) (w : World) :
    Calls Tryz.prog 128 #[.string s, .string t] w fun o w' => ∃ v u, o = .returned (.tuple #[v, u, .int .i64 (e : Nat)]) ∧ Below w.heap.size w w' := by
  have R1 := hide (rread_ok hs f w)
  have R2 := hide (rread_bad ht g)
  clear f g
  go_enter Tryz.func128, Tryz.ntmps128
  go_wp2_with fail
  refine (unhide R1).mono ?_
  rintro o w1 ⟨a, rfl, h1, sc1, b1⟩
  replace sc1 := hide sc1
  replace b1 := hide b1
  go_wp2_with fail
  refine (unhide R2 _).mono ?_
  rintro o w2 ⟨rfl, b2⟩
  replace b2 := hide (below_trans (unhide b1) b2)
  go_wp2_with fail
  go_ret3
  exact ⟨_, _, rfl, unhide b2⟩

theorem atMost_cells (a b : Tr Nat) (ha : deepT a ≤ 8) (hb : deepT b ≤ 8) : atMostP a b = true ↔ ∀ k, k < 256 → cellT a 8 k ≤ cellT b 8 k := by
  rw [atMost_iff]
  constructor
  · intro h k _; exact h _
  · intro h p
    obtain ⟨k, hk, hv⟩ := road_cell 8 p
    rw [hv a ha, hv b hb]
    exact h k hk

set_option maxRecDepth 100000 in
set_option maxHeartbeats 2000000 in
theorem rLeq_ok {s t : ByteArray} {i1 i2 : Tr Bool} {e1 e2 : Tr Nat} (hs : s.size ≤ maxLen) (ht : t.size ≤ maxLen) (f : readR s = .ok i1 e1) (g : readR t = .ok i2 e2) (w : World) :
    Calls Tryz.prog 86 #[.string s, .string t] w fun o w' => o = .returned (.tuple #[.bool (atMostP e1 e2), .int .i64 0]) ∧ Below w.heap.size w w' := by
  have R := hide (rtwo_ok hs ht f g w)
  have AC := hide (atMost_cells e1 e2 (readR_inv f).1.de (readR_inv g).1.de)
  clear f g
  generalize atMostP e1 e2 = A at *
  go_enter Tryz.func86, Tryz.ntmps86
  go_wp2_with fail
  refine (unhide R).mono ?_
  rintro o w1 ⟨a, b, rfl, ha, hab, sa, sb, b1⟩
  replace sa := hide sa
  replace sb := hide sb
  replace b1 := hide b1
  go_wp2_with fail
  go_loopg [9] 256 (fun q x wr => ∃ j n : Nat, j + q = 256 ∧ x = .int .i64 (j : Nat) ∧ wr = w1.drewN n ∧ ∀ k, k < j → cellT e1 8 k ≤ cellT e2 8 k)
  case atStart => exact ⟨0, 0, rfl, rfl, rfl, fun k hk => by omega⟩
  case round =>
    obtain ⟨j, n, hj, rfl, rfl, hq⟩ := hrel
    have HJ := hide hj
    have hj256 : j ≤ 256 := by omega
    clear hj
    replace hq := hide hq
    by_cases hlt : j < 256
    · have c1 := (unhide sa).counts j hlt
      have c2 := (unhide sb).counts j hlt
      have j0 : (0 : Int) ≤ (j : Int) := by omega
      have j1 : (j : Int) < 256 := by omega
      generalize hx : cellT e1 8 j = x at *
      generalize hy : cellT e2 8 j = y at *
      replace hx := hide hx
      replace hy := hide hy
      by_cases hgt : y < x
      · have g1 : (y : Int) < (x : Int) := by omega
        go_wp2_with fail
        go_quiet (fail)
        go_wp2_with fail
        go_ret2
        refine ⟨?_, below_trans (unhide b1) (below_trans (below_drewN _ _) (below_drewN _ _))⟩
        have : A = false := by
          cases e : A with
          | false => rfl
          | true =>
            have := (unhide AC).1 e j hlt
            rw [unhide hx, unhide hy] at this
            omega
        rw [this]; rfl
      · have g1 : ¬ (y : Int) < (x : Int) := by omega
        go_wp2_with fail
        go_quiet (fail)
        go_wp2_with fail
        go_roundg (gk - 1)
        case measure => have := unhide HJ; omega
        case rel => exact ⟨j + 1, n + nq, by have := unhide HJ; omega, by go_num, by simp [World.drewN], fun k hk => by
          by_cases e : k = j
          · subst e; rw [unhide hx, unhide hy]; omega
          · exact unhide hq k (by omega)⟩
    · have hj6 : j = 256 := by omega
      subst hj6
      have e := hide ((unhide AC).2 (unhide hq))
      go_wp2_with fail
      go_ret2
      exact ⟨by rw [unhide e]; rfl, below_trans (unhide b1) (below_drewN _ _)⟩

end Go.Proofs.YtoebmfhgaalcdaaGreatDoor
