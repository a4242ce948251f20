/-
  Our own. The calls at texts that are no stamps: the error, and nothing else. (Laid by wip/mk/bad.py.)
-/
import Derived.Test.YtoebmfhgaalcdaaGreatDoorCalls2
namespace Go.Proofs.YtoebmfhgaalcdaaGreatDoor
open Go.RowKit

theorem readR_errno {s : ByteArray} {e p : Nat} (h : readR s = .bad e p) : e = 1 ∨ e = 2 ∨ e = 3 ∨ e = 7 := by
  have YES : ∀ a b, Rd1.bad a b = Rd1.bad e p → (a = 1 ∨ a = 2 ∨ a = 3 ∨ a = 7) → (e = 1 ∨ e = 2 ∨ e = 3 ∨ e = 7) := fun a b h ha => by injection h with h; injection h with h; injection h with h1 h2; subst h1; exact ha
  by_cases hs : 20000 < s.size
  · rw [readR_of_long s hs] at h; exact YES _ _ h (by omega)
  have hs : s.size ≤ 20000 := by omega
  cases f : idR s 8 0 s.size using Rs.cs with
  | bad j => rw [readR_bad0 hs f] at h; exact YES _ _ h (by omega)
  | ok id i1 r1 =>
    by_cases g : nx s i1 = 59
    · cases f2 : evR s 8 0 (i1 + 1) r1 using Rs.cs with
      | bad j => rw [readR_bad2 hs f g f2] at h; exact YES _ _ h (by omega)
      | ok o i2 r2 =>
        obtain ⟨ev, n⟩ := o
        by_cases l : i2 < s.size
        · rw [readR_bad3 hs f g f2 l] at h; exact YES _ _ h (by omega)
        by_cases m : 1099511627776 < highest ev
        · rw [readR_bad4 hs f g f2 l m] at h; exact YES _ _ h (by omega)
        by_cases q : r2 < s.size
        · rw [readR_bad5 hs f g f2 l m q] at h; exact YES _ _ h (by omega)
        rw [readR_ok hs f g f2 l m q] at h
        injection h with h; injection h
    · rw [readR_bad1 hs f g] at h; exact YES _ _ h (by omega)

theorem sread_bad {s : ByteArray} {e p : Nat} (hm : s.size ≤ maxLen) (f : readR s = .bad e p) (w : World) :
    Calls Tryz.prog 23 #[.string s] w fun o w' => o = .returned (.tuple #[.agg #[.pointer none, .pointer none], .int .i64 (e : Nat), .int .i64 (p : Nat)]) ∧ Below w.heap.size w w' := by
  have R := sread_any s w hm
  rw [f] at R
  exact R

set_option maxHeartbeats 1600000 in
theorem readTwo_bad1 {s t : ByteArray} {e p : Nat} (hs : s.size ≤ maxLen) (f : readR s = .bad e p) (w : World) :
    Calls Tryz.prog 28 #[.string s, .string t] w fun o w' => o = .returned (.tuple #[.agg #[.pointer none, .pointer none], .agg #[.pointer none, .pointer none], .int .i64 (e : Nat)]) ∧ Below w.heap.size w w' := by
  have R1 := hide (sread_bad hs f)
  have he := readR_errno f
  have he1 : ¬ (e : Int) = 0 := by omega
  clear f
  go_enter Tryz.func28, Tryz.ntmps28
  go_wp2_with fail
  refine (unhide R1 _).mono ?_
  rintro o w1 ⟨rfl, b1⟩
  have s1 : (w.alloc (.cells #[.pointer none, .pointer none] 61)).heap.size = w.heap.size + 1 := by simp
  have s2 : ((w.alloc (.cells #[.pointer none, .pointer none] 61)).alloc (.cells #[.pointer none, .pointer none] 61)).heap.size = w.heap.size + 1 + 1 := by simp
  have B0 : Below w.heap.size w w1 := below_trans (below_trans (below_alloc _ _) (below_alloc _ _)) b1
  have x1 : Box w.heap.size (.pointer none) (.pointer none) w1 := ((Box.new w _ _).keep (below_alloc _ _)).keep b1
  have x2 : Box (w.heap.size + 1) (.pointer none) (.pointer none) w1 := by
    have := (Box.new (w.alloc (.cells #[.pointer none, .pointer none] 61)) (.pointer none) (.pointer none)).keep b1
    rwa [s1] at this
  have y1 := x1.set (.pointer none) (.pointer none)
  have y2 := x2.far (M := w.heap.size) (by omega) (.pointer none) (.pointer none)
  have B1 : Below w.heap.size w ((w1.setCell ⟨w.heap.size, 0, none⟩ (.pointer none)).setCell ⟨w.heap.size, 1, none⟩ (.pointer none)) := B0.trans (Box.below w1 (Nat.le_refl _) _ _)
  obtain ⟨c0, c1, cf⟩ := x1.cells
  clear x1 x2 b1 s1 s2 B0
  replace y1 := hide y1
  replace y2 := hide y2
  replace B1 := hide B1
  go_wp2_with fail
  clear c0 c1 cf
  generalize (w1.setCell ⟨w.heap.size, 0, none⟩ (.pointer none)).setCell ⟨w.heap.size, 1, none⟩ (.pointer none) = W3 at *
  obtain ⟨c0, c1, cf⟩ := (unhide y1).cells
  obtain ⟨d0, d1, df⟩ := (unhide y2).cells
  go_region
  all_goals
    go_wp2_with fail
    have g1 := (unhide y1).set (.pointer none) (.pointer none)
    have g2 := (unhide y2).far (M := w.heap.size) (by omega) (.pointer none) (.pointer none)
    have B4 := (unhide B1).trans (Box.below W3 (Nat.le_refl w.heap.size) (.pointer none) (.pointer none))
    clear c0 c1 cf d0 d1 df y1 y2 B1
    generalize (W3.setCell ⟨w.heap.size, 0, none⟩ (.pointer none)).setCell ⟨w.heap.size, 1, none⟩ (.pointer none) = W4 at *
    have j1 := g1.far (M := w.heap.size + 1) (by omega) (.pointer none) (.pointer none)
    have j2 := g2.set (.pointer none) (.pointer none)
    have B5 := B4.trans (Box.below W4 (show w.heap.size ≤ w.heap.size + 1 by omega) (.pointer none) (.pointer none))
    generalize (W4.setCell ⟨w.heap.size + 1, 0, none⟩ (.pointer none)).setCell ⟨w.heap.size + 1, 1, none⟩ (.pointer none) = W5 at *
    obtain ⟨c0, c1, cf⟩ := j1.cells
    obtain ⟨d0, d1, df⟩ := j2.cells
    refine ⟨rfl, .tuple #[.agg #[.pointer none, .pointer none], .agg #[.pointer none, .pointer none], .int .i64 (e : Nat)], ?_, rfl, B5.trans ((below_drew _).mono B5.size)⟩
    simp [results, Tryz.results28, go_sem, c0, c1, d0, d1]

set_option maxHeartbeats 1600000 in
theorem readTwo_bad2 {s t : ByteArray} {i1 : Tr Bool} {e1 : Tr Nat} {e p : Nat} (hs : s.size ≤ maxLen) (f : readR s = .ok i1 e1) (ht : t.size ≤ maxLen) (g : readR t = .bad e p) (w : World) :
    Calls Tryz.prog 28 #[.string s, .string t] w fun o w' => ∃ a b, o = .returned (.tuple #[.agg #[.pointer (some ⟨a, 0, none⟩), .pointer (some ⟨b, 0, none⟩)], .agg #[.pointer none, .pointer none], .int .i64 (e : Nat)]) ∧ Below w.heap.size w w' := by
  have R1 := hide (sread_ok hs f)
  have R2 := hide (sread_bad ht g)
  clear f g
  go_enter Tryz.func28, Tryz.ntmps28
  go_wp2_with fail
  refine (unhide R1 _).mono ?_
  rintro o w1 ⟨a, b, rfl, _, _, b1⟩
  have s1 : (w.alloc (.cells #[.pointer none, .pointer none] 61)).heap.size = w.heap.size + 1 := by simp
  have s2 : ((w.alloc (.cells #[.pointer none, .pointer none] 61)).alloc (.cells #[.pointer none, .pointer none] 61)).heap.size = w.heap.size + 1 + 1 := by simp
  have B0 : Below w.heap.size w w1 := below_trans (below_trans (below_alloc _ _) (below_alloc _ _)) b1
  have x1 : Box w.heap.size (.pointer none) (.pointer none) w1 := ((Box.new w _ _).keep (below_alloc _ _)).keep b1
  have x2 : Box (w.heap.size + 1) (.pointer none) (.pointer none) w1 := by
    have := (Box.new (w.alloc (.cells #[.pointer none, .pointer none] 61)) (.pointer none) (.pointer none)).keep b1
    rwa [s1] at this
  have y1 := x1.set (.pointer (some ⟨a, 0, none⟩)) (.pointer (some ⟨b, 0, none⟩))
  have y2 := x2.far (M := w.heap.size) (by omega) (.pointer (some ⟨a, 0, none⟩)) (.pointer (some ⟨b, 0, none⟩))
  have B1 : Below w.heap.size w ((w1.setCell ⟨w.heap.size, 0, none⟩ (.pointer (some ⟨a, 0, none⟩))).setCell ⟨w.heap.size, 1, none⟩ (.pointer (some ⟨b, 0, none⟩))) := B0.trans (Box.below w1 (Nat.le_refl _) _ _)
  obtain ⟨c0, c1, cf⟩ := x1.cells
  clear x1 x2 b1 s1 s2 B0
  replace y1 := hide y1
  replace y2 := hide y2
  replace B1 := hide B1
  go_wp2_with fail
  clear c0 c1 cf
  generalize (w1.setCell ⟨w.heap.size, 0, none⟩ (.pointer (some ⟨a, 0, none⟩))).setCell ⟨w.heap.size, 1, none⟩ (.pointer (some ⟨b, 0, none⟩)) = W1 at *
  refine (unhide R2 _).mono ?_
  rintro o w2 ⟨rfl, b2⟩
  have z1 := (unhide y1).keep b2
  have z2 := (unhide y2).keep b2
  have B2 : Below w.heap.size w w2 := (unhide B1).trans (b2.mono (unhide B1).size)
  have v1 := z1.far (M := w.heap.size + 1) (by omega) (.pointer none) (.pointer none)
  have v2 := z2.set (.pointer none) (.pointer none)
  have B3 : Below w.heap.size w ((w2.setCell ⟨w.heap.size + 1, 0, none⟩ (.pointer none)).setCell ⟨w.heap.size + 1, 1, none⟩ (.pointer none)) := B2.trans (Box.below w2 (by omega) _ _)
  obtain ⟨c0, c1, cf⟩ := z2.cells
  clear y1 y2 B1 z1 z2 B2 b2
  replace v1 := hide v1
  replace v2 := hide v2
  replace B3 := hide B3
  go_wp2_with fail
  clear c0 c1 cf
  generalize (w2.setCell ⟨w.heap.size + 1, 0, none⟩ (.pointer none)).setCell ⟨w.heap.size + 1, 1, none⟩ (.pointer none) = W3 at *
  obtain ⟨c0, c1, cf⟩ := (unhide v1).cells
  obtain ⟨d0, d1, df⟩ := (unhide v2).cells
  go_region
  all_goals
    go_wp2_with fail
    have g1 := (unhide v1).set (.pointer (some ⟨a, 0, none⟩)) (.pointer (some ⟨b, 0, none⟩))
    have g2 := (unhide v2).far (M := w.heap.size) (by omega) (.pointer (some ⟨a, 0, none⟩)) (.pointer (some ⟨b, 0, none⟩))
    have B4 := (unhide B3).trans (Box.below W3 (Nat.le_refl w.heap.size) (.pointer (some ⟨a, 0, none⟩)) (.pointer (some ⟨b, 0, none⟩)))
    clear c0 c1 cf d0 d1 df v1 v2 B3
    generalize (W3.setCell ⟨w.heap.size, 0, none⟩ (.pointer (some ⟨a, 0, none⟩))).setCell ⟨w.heap.size, 1, none⟩ (.pointer (some ⟨b, 0, none⟩)) = W4 at *
    have j1 := g1.far (M := w.heap.size + 1) (by omega) (.pointer none) (.pointer none)
    have j2 := g2.set (.pointer none) (.pointer none)
    have B5 := B4.trans (Box.below W4 (show w.heap.size ≤ w.heap.size + 1 by omega) (.pointer none) (.pointer none))
    generalize (W4.setCell ⟨w.heap.size + 1, 0, none⟩ (.pointer none)).setCell ⟨w.heap.size + 1, 1, none⟩ (.pointer none) = W5 at *
    obtain ⟨c0, c1, cf⟩ := j1.cells
    obtain ⟨d0, d1, df⟩ := j2.cells
    refine ⟨rfl, .tuple #[.agg #[.pointer (some ⟨a, 0, none⟩), .pointer (some ⟨b, 0, none⟩)], .agg #[.pointer none, .pointer none], .int .i64 (e : Nat)], ?_, a, b, rfl, B5.trans ((below_drew _).mono B5.size)⟩
    simp [results, Tryz.results28, go_sem, c0, c1, d0, d1]

set_option maxHeartbeats 800000 in
theorem fork_bad {s : ByteArray} {e p : Nat} (hm : s.size ≤ maxLen) (f : readR s = .bad e p) (w : World) :
    Calls Tryz.prog 11 #[.string s] w fun o w' => o = .returned (.tuple #[.string { data := #[] }, .string { data := #[] }, .int .i64 (e : Nat)]) ∧ Below w.heap.size w w' := by
  have R := hide (sread_bad hm f w)
  have he := readR_errno f
  have he1 : ¬ (e : Int) = 0 := by omega
  clear f
  go_enter Tryz.func11, Tryz.ntmps11
  go_wp2_with fail
  refine (unhide R).mono ?_
  rintro o w1 ⟨rfl, b1⟩
  replace b1 := hide b1
  go_wp2_with fail
  go_ret3
  exact ⟨rfl, below_trans (unhide b1) (below_alloc _ _)⟩

set_option maxHeartbeats 800000 in
theorem peek_bad {s : ByteArray} {e p : Nat} (hm : s.size ≤ maxLen) (f : readR s = .bad e p) (w : World) :
    Calls Tryz.prog 12 #[.string s] w fun o w' => o = .returned (.tuple #[.string { data := #[] }, .int .i64 (e : Nat)]) ∧ Below w.heap.size w w' := by
  have R := hide (sread_bad hm f w)
  have he := readR_errno f
  have he1 : ¬ (e : Int) = 0 := by omega
  clear f
  go_enter Tryz.func12, Tryz.ntmps12
  go_wp2_with fail
  refine (unhide R).mono ?_
  rintro o w1 ⟨rfl, b1⟩
  replace b1 := hide b1
  go_wp2_with fail
  go_ret2
  exact ⟨rfl, below_trans (unhide b1) (below_alloc _ _)⟩

set_option maxHeartbeats 800000 in
theorem share_bad {s : ByteArray} {e p : Nat} (hm : s.size ≤ maxLen) (f : readR s = .bad e p) (w : World) :
    Calls Tryz.prog 14 #[.string s] w fun o w' => o = .returned (.tuple #[.int .i64 0, .int .i64 (e : Nat)]) ∧ Below w.heap.size w w' := by
  have R := hide (sread_bad hm f w)
  have he := readR_errno f
  have he1 : ¬ (e : Int) = 0 := by omega
  clear f
  go_enter Tryz.func14, Tryz.ntmps14
  go_wp2_with fail
  refine (unhide R).mono ?_
  rintro o w1 ⟨rfl, b1⟩
  replace b1 := hide b1
  go_wp2_with fail
  go_ret2
  exact ⟨rfl, below_trans (unhide b1) (below_alloc _ _)⟩

set_option maxHeartbeats 800000 in
theorem event_bad {s : ByteArray} {e p : Nat} (hm : s.size ≤ maxLen) (f : readR s = .bad e p) (w : World) :
    Calls Tryz.prog 15 #[.string s] w fun o w' => o = .returned (.tuple #[.string { data := #[] }, .int .i64 (e : Nat)]) ∧ Below w.heap.size w w' := by
  have R := hide (sread_bad hm f w)
  have he := readR_errno f
  have he1 : ¬ (e : Int) = 0 := by omega
  clear f
  go_enter Tryz.func15, Tryz.ntmps15
  go_wp2_with fail
  refine (unhide R).mono ?_
  rintro o w1 ⟨rfl, b1⟩
  replace b1 := hide b1
  go_wp2_with fail
  go_ret2
  exact ⟨rfl, below_trans (unhide b1) (below_alloc _ _)⟩

set_option maxHeartbeats 800000 in
theorem encode_bad {s : ByteArray} {e p : Nat} (hm : s.size ≤ maxLen) (f : readR s = .bad e p) (w : World) :
    Calls Tryz.prog 17 #[.string s] w fun o w' => o = .returned (.tuple #[.string { data := #[] }, .int .i64 (e : Nat)]) ∧ Below w.heap.size w w' := by
  have R := hide (sread_bad hm f w)
  have he := readR_errno f
  have he1 : ¬ (e : Int) = 0 := by omega
  clear f
  go_enter Tryz.func17, Tryz.ntmps17
  go_wp2_with fail
  refine (unhide R).mono ?_
  rintro o w1 ⟨rfl, b1⟩
  replace b1 := hide b1
  go_wp2_with fail
  go_ret2
  exact ⟨rfl, below_trans (unhide b1) (below_alloc _ _)⟩

set_option maxHeartbeats 800000 in
theorem join_bad1 {s t : ByteArray} {e p : Nat} (hm : s.size ≤ maxLen) (f : readR s = .bad e p) (w : World) :
    Calls Tryz.prog 13 #[.string s, .string t] w fun o w' => o = .returned (.tuple #[.string { data := #[] }, .int .i64 (e : Nat)]) ∧ Below w.heap.size w w' := by
  have R := hide (readTwo_bad1 (t := t) hm f w)
  have he := readR_errno f
  have he1 : ¬ (e : Int) = 0 := by omega
  clear f
  go_enter Tryz.func13, Tryz.ntmps13
  go_wp2_with fail
  refine (unhide R).mono ?_
  rintro o w1 ⟨rfl, b1⟩
  replace b1 := hide b1
  go_wp2_with fail
  go_ret2
  exact ⟨rfl, below_trans (below_trans (unhide b1) (below_alloc _ _)) (below_alloc _ _)⟩

set_option maxHeartbeats 800000 in
theorem join_bad2 {s t : ByteArray} {i1 : Tr Bool} {e1 : Tr Nat} {e p : Nat} (hs : s.size ≤ maxLen) (f : readR s = .ok i1 e1) (ht : t.size ≤ maxLen) (g : readR t = .bad e p) (w : World) :
    Calls Tryz.prog 13 #[.string s, .string t] w fun o w' => o = .returned (.tuple #[.string { data := #[] }, .int .i64 (e : Nat)]) ∧ Below w.heap.size w w' := by
  have R := hide (readTwo_bad2 hs f ht g w)
  have he := readR_errno g
  have he1 : ¬ (e : Int) = 0 := by omega
  clear f g
  go_enter Tryz.func13, Tryz.ntmps13
  go_wp2_with fail
  refine (unhide R).mono ?_
  rintro o w1 ⟨a, b, rfl, b1⟩
  replace b1 := hide b1
  go_wp2_with fail
  go_ret2
  exact ⟨rfl, below_trans (below_trans (unhide b1) (below_alloc _ _)) (below_alloc _ _)⟩

set_option maxHeartbeats 800000 in
theorem leq_bad1 {s t : ByteArray} {e p : Nat} (hm : s.size ≤ maxLen) (f : readR s = .bad e p) (w : World) :
    Calls Tryz.prog 16 #[.string s, .string t] w fun o w' => o = .returned (.tuple #[.bool false, .int .i64 (e : Nat)]) ∧ Below w.heap.size w w' := by
  have R := hide (readTwo_bad1 (t := t) hm f w)
  have he := readR_errno f
  have he1 : ¬ (e : Int) = 0 := by omega
  clear f
  go_enter Tryz.func16, Tryz.ntmps16
  go_wp2_with fail
  refine (unhide R).mono ?_
  rintro o w1 ⟨rfl, b1⟩
  replace b1 := hide b1
  go_wp2_with fail
  go_ret2
  exact ⟨rfl, below_trans (below_trans (unhide b1) (below_alloc _ _)) (below_alloc _ _)⟩

set_option maxHeartbeats 800000 in
theorem leq_bad2 {s t : ByteArray} {i1 : Tr Bool} {e1 : Tr Nat} {e p : Nat} (hs : s.size ≤ maxLen) (f : readR s = .ok i1 e1) (ht : t.size ≤ maxLen) (g : readR t = .bad e p) (w : World) :
    Calls Tryz.prog 16 #[.string s, .string t] w fun o w' => o = .returned (.tuple #[.bool false, .int .i64 (e : Nat)]) ∧ Below w.heap.size w w' := by
  have R := hide (readTwo_bad2 hs f ht g w)
  have he := readR_errno g
  have he1 : ¬ (e : Int) = 0 := by omega
  clear f g
  go_enter Tryz.func16, Tryz.ntmps16
  go_wp2_with fail
  refine (unhide R).mono ?_
  rintro o w1 ⟨a, b, rfl, b1⟩
  replace b1 := hide b1
  go_wp2_with fail
  go_ret2
  exact ⟨rfl, below_trans (below_trans (unhide b1) (below_alloc _ _)) (below_alloc _ _)⟩

end Go.Proofs.YtoebmfhgaalcdaaGreatDoor
