/-
  Our own. The calls of package sprigs, third part: Event.
-/
import Derived.Test.YtoebmfhgaalcdaaGreatDoorSidesF
import Derived.Test.YtoebmfhgaalcdaaGreatDoorStamps
namespace Go.Proofs.YtoebmfhgaalcdaaGreatDoor
open Go.RowKit

theorem field_fill (b : Bool) (p : Option Addr) (w : World) : Sem.run Tryz.prog (Instr.field 145 (Value.agg #[Value.bool b, Value.pointer p]) 1) w = .ok (.pointer p) w := by kernel_rfl
theorem field_grow (q p : Option Addr) (w : World) : Sem.run Tryz.prog (Instr.field 150 (Value.agg #[Value.pointer q, Value.pointer p]) 1) w = .ok (.pointer p) w := by kernel_rfl

set_option maxHeartbeats 800000 in
theorem fill_of {id : Tr Bool} {ev : Tr Nat} {w : World} {v u : Value} (h : TB w v id) (g : TI w u ev) :
    Calls Tryz.prog 63 #[v, u] w fun e w' => ∃ k, e = .returned (.pointer (some ⟨k, 0, none⟩)) ∧ TI w' (.pointer (some ⟨k, 0, none⟩)) (fillP id ev).2 ∧ Below w.heap.size w w' := by
  have S := hide (sideBIF_any id ev w v u h g)
  obtain ⟨k, rfl⟩ := TA.root h
  obtain ⟨j, rfl⟩ := TA.root g
  clear h g
  generalize fillP id ev = c at *
  go_enter Tryz.func63, Tryz.ntmps63
  go_wp2_with fail
  refine (unhide S).mono ?_
  rintro e w1 ⟨x, rfl, r1, b1⟩
  obtain ⟨q, rfl, t1⟩ := r1
  have hfl := field_fill c.1 (some ⟨q, 0, none⟩)
  replace t1 := hide t1
  replace b1 := hide b1
  go_wp2_with fail
  go_ret
  exact ⟨q, rfl, unhide t1, unhide b1⟩

set_option maxHeartbeats 800000 in
theorem grow_of {id : Tr Bool} {ev : Tr Nat} (d1 : deepT id ≤ 8) (d2 : deepT ev ≤ 8) (hi : highest ev ≤ 1099511627776) {w : World} {v u : Value} (h : TB w v id) (g : TI w u ev) :
    Calls Tryz.prog 64 #[v, u] w fun e w' => ∃ r, e = .returned (.pointer r) ∧ RO w' r (growP id ev).2 ∧ Below w.heap.size w w' := by
  have S := hide (sideBIG_any id ev 8 (Nat.le_refl _) d1 d2 (by omega) w v u h g)
  obtain ⟨k, rfl⟩ := TA.root h
  obtain ⟨j, rfl⟩ := TA.root g
  clear h g hi d1 d2
  generalize growP id ev = c at *
  go_enter Tryz.func64, Tryz.ntmps64
  go_wp2_with fail
  refine (unhide S).mono ?_
  rintro e w1 ⟨x, rfl, r1, b1⟩
  obtain ⟨q, p, rfl, t1, o1⟩ := r1
  have hfl := field_grow (some ⟨q, 0, none⟩) p
  replace t1 := hide t1
  replace o1 := hide o1
  replace b1 := hide b1
  go_wp2_with fail
  go_ret
  exact ⟨p, rfl, unhide o1, unhide b1⟩

set_option maxHeartbeats 800000 in
theorem cEvent_of {id : Tr Bool} {ev : Tr Nat} (P : PT id ev) {w : World} {v u : Value} (h : TB w v id) (g : TI w u ev) :
    Calls Tryz.prog 32 #[v, u] w fun e w' => ∃ r, e = .returned (.pointer r) ∧ RO w' r (eventP id ev) ∧ Below w.heap.size w w' := by
  have F := hide (fill_of h g)
  have G := hide (fun w' (hb : Below w.heap.size w w') => grow_of P.di P.de P.hi (TA.below h hb) (TA.below g hb))
  have A : ∀ w' k, Below w.heap.size w w' → TI w' (.pointer (some ⟨k, 0, none⟩)) (fillP id ev).2 → Calls Tryz.prog 33 #[.pointer (some ⟨k, 0, none⟩), u] w' fun e w'' => e = .returned (.bool (atMostP (fillP id ev).2 ev)) ∧ Below w'.heap.size w' w'' := fun w' k hb t => atMost_of t (TA.below g hb)
  obtain ⟨k, rfl⟩ := TA.root h
  obtain ⟨j, rfl⟩ := TA.root g
  clear h g P
  unfold eventP
  cases f : atMostP (fillP id ev).2 ev with
  | true =>
    rw [f] at A
    replace A := hide A
    simp only [if_true]
    clear f
    go_enter Tryz.func32, Tryz.ntmps32
    go_wp2_with fail
    refine (unhide F).mono ?_
    rintro e w1 ⟨q, rfl, t1, b1⟩
    replace t1 := hide t1
    replace b1 := hide b1
    go_wp2_with fail
    refine (unhide A _ _ (unhide b1) (unhide t1)).mono ?_
    rintro e w2 ⟨rfl, b2⟩
    replace b2 := hide (below_trans (unhide b1) b2)
    go_wp2_with fail
    refine (unhide G _ (unhide b2)).mono ?_
    rintro e w3 ⟨r, rfl, o3, b3⟩
    replace o3 := hide o3
    replace b3 := hide (below_trans (unhide b2) b3)
    go_wp2_with fail
    go_ret
    exact ⟨r, rfl, unhide o3, unhide b3⟩
  | false =>
    rw [f] at A
    replace A := hide A
    simp only [Bool.false_eq_true, if_false]
    clear f G
    go_enter Tryz.func32, Tryz.ntmps32
    go_wp2_with fail
    refine (unhide F).mono ?_
    rintro e w1 ⟨q, rfl, t1, b1⟩
    replace t1 := hide t1
    replace b1 := hide b1
    go_wp2_with fail
    refine (unhide A _ _ (unhide b1) (unhide t1)).mono ?_
    rintro e w2 ⟨rfl, b2⟩
    have t2 := hide (TA.below (unhide t1) b2)
    replace b2 := hide (below_trans (unhide b1) b2)
    go_wp2_with fail
    go_ret
    exact ⟨_, rfl, ⟨q, rfl, unhide t2⟩, unhide b2⟩

set_option maxHeartbeats 1600000 in
theorem event_nothing {s : ByteArray} {id : Tr Bool} {ev : Tr Nat} (hm : s.size ≤ maxLen) (f : readR s = .ok id ev) (h0 : shareP id 256 = 0) (w : World) :
    Calls Tryz.prog 15 #[.string s] w fun e w' => e = .returned (.tuple #[.string { data := #[] }, .int .i64 4]) ∧ Below w.heap.size w w' := by
  have R := hide (sread_ok hm f w)
  have S : ∀ w v, TB w v id → Calls Tryz.prog 24 #[v] w fun e w' => e = .returned (.int .i64 ((0 : Nat) : Int)) ∧ ∃ k, w' = w.drewN k := fun w v h => by rw [← h0]; exact pShare_any id w v h
  replace S := hide S
  clear f h0
  go_enter Tryz.func15, Tryz.ntmps15
  go_wp2_with fail
  refine (unhide R).mono ?_
  rintro e w1 ⟨k, j, rfl, h1, h2, b1⟩
  replace h1 := hide h1
  replace h2 := hide h2
  replace b1 := hide b1
  go_wp2_with fail
  refine (unhide S _ _ (TA.below (unhide h1) (below_alloc w1 _))).mono ?_
  rintro e w2 ⟨rfl, m, rfl⟩
  go_wp2_with fail
  go_ret2
  exact ⟨rfl, below_trans (below_trans (unhide b1) (below_alloc _ _)) (below_drewN _ _)⟩

set_option maxHeartbeats 1600000 in
theorem event_full {s : ByteArray} {id : Tr Bool} {ev : Tr Nat} (hm : s.size ≤ maxLen) (f : readR s = .ok id ev) (P : PT id ev) (h0 : shareP id 256 ≠ 0) (he : eventP id ev = none) (w : World) :
    Calls Tryz.prog 15 #[.string s] w fun e w' => e = .returned (.tuple #[.string { data := #[] }, .int .i64 7]) ∧ Below w.heap.size w w' := by
  have R := hide (sread_ok hm f w)
  have S := hide (fun w v h => pShare_any id w v h)
  have C : ∀ w v u, TB w v id → TI w u ev → Calls Tryz.prog 32 #[v, u] w fun e w' => e = .returned (.pointer none) ∧ Below w.heap.size w w' := fun w v u h g => by
    refine (cEvent_of P h g).mono ?_
    rintro e w' ⟨r, rfl, o, b⟩
    rw [he] at o
    have o : r = none := o
    subst o
    exact ⟨rfl, b⟩
  replace C := hide C
  clear f P he
  generalize shareP id 256 = n at *
  have n0 : ((n : Int) == 0) = false := beq_eq_false_iff_ne.2 (by omega)
  clear h0
  go_enter Tryz.func15, Tryz.ntmps15
  go_wp2_with fail
  refine (unhide R).mono ?_
  rintro e w1 ⟨k, j, rfl, h1, h2, b1⟩
  have bb := below_alloc w1 (.cells #[.pointer (some ⟨k, 0, none⟩), .pointer (some ⟨j, 0, none⟩)] 61)
  have x1 := Box.new w1 (.pointer (some ⟨k, 0, none⟩)) (.pointer (some ⟨j, 0, none⟩))
  have H1 := hide (TA.below h1 bb)
  have H2 := hide (TA.below h2 bb)
  have B := hide (below_trans b1 bb)
  obtain ⟨c0, c1, _⟩ := x1.cells
  clear h1 h2 b1 bb R x1
  go_wp2_with fail
  generalize w1.alloc (.cells #[.pointer (some ⟨k, 0, none⟩), .pointer (some ⟨j, 0, none⟩)] 61) = W at *
  refine (unhide S _ _ (unhide H1)).mono ?_
  rintro e w2 ⟨rfl, m, rfl⟩
  go_wp2_with fail
  refine (unhide C _ _ _ (TA.below (unhide H1) (below_drewN W m)) (TA.below (unhide H2) (below_drewN W m))).mono ?_
  rintro e w3 ⟨rfl, b3⟩
  replace b3 := hide (below_trans (below_trans (unhide B) (below_drewN W m)) b3)
  go_wp2_with fail
  go_ret2
  exact ⟨rfl, unhide b3⟩

set_option maxHeartbeats 1600000 in
theorem event_ok {s : ByteArray} {id : Tr Bool} {ev t : Tr Nat} (hm : s.size ≤ maxLen) (f : readR s = .ok id ev) (P : PT id ev) (h0 : shareP id 256 ≠ 0) (he : eventP id ev = some t) (Q : PT id t) (w : World) (T : Tab w) :
    Calls Tryz.prog 15 #[.string s] w fun e w' => e = .returned (.tuple #[.string (strOf (wtext id t)), .int .i64 0]) ∧ Below w.heap.size w w' := by
  have R := hide (sread_ok hm f w)
  have S := hide (fun w v h => pShare_any id w v h)
  have C : ∀ w v u, TB w v id → TI w u ev → Calls Tryz.prog 32 #[v, u] w fun e w' => ∃ q, e = .returned (.pointer (some ⟨q, 0, none⟩)) ∧ TI w' (.pointer (some ⟨q, 0, none⟩)) t ∧ Below w.heap.size w w' := fun w v u h g => by
    refine (cEvent_of P h g).mono ?_
    rintro e w' ⟨r, rfl, o, b⟩
    rw [he] at o
    obtain ⟨q, rfl, t'⟩ := o
    exact ⟨q, rfl, t', b⟩
  have WR := hide (fun w v u T h g => write_any id t Q w v u T h g)
  replace C := hide C
  replace T := hide T
  clear f P he Q
  generalize strOf (wtext id t) = Z at *
  generalize shareP id 256 = n at *
  have n0 : ((n : Int) == 0) = false := beq_eq_false_iff_ne.2 (by omega)
  clear h0
  go_enter Tryz.func15, Tryz.ntmps15
  go_wp2_with fail
  refine (unhide R).mono ?_
  rintro e w1 ⟨k, j, rfl, h1, h2, b1⟩
  have bb := below_alloc w1 (.cells #[.pointer (some ⟨k, 0, none⟩), .pointer (some ⟨j, 0, none⟩)] 61)
  have x1 := hide (Box.new w1 (.pointer (some ⟨k, 0, none⟩)) (.pointer (some ⟨j, 0, none⟩)))
  have H1 := hide (TA.below h1 bb)
  have H2 := hide (TA.below h2 bb)
  have B := hide (below_trans b1 bb)
  clear h1 h2 b1 bb R
  go_wp2_with fail
  generalize w1.alloc (.cells #[.pointer (some ⟨k, 0, none⟩), .pointer (some ⟨j, 0, none⟩)] 61) = W at *
  generalize w1.heap.size = N at *
  refine (unhide S _ _ (unhide H1)).mono ?_
  rintro e w2 ⟨rfl, m, rfl⟩
  obtain ⟨c0, c1, _⟩ := (unhide x1).cells
  go_wp2_with fail
  refine (unhide C _ _ _ (TA.below (unhide H1) (below_drewN W m)) (TA.below (unhide H2) (below_drewN W m))).mono ?_
  rintro e w3 ⟨q, rfl, t3, b3⟩
  have H3 := hide (TA.below (TA.below (unhide H1) (below_drewN W m)) b3)
  have x3 := ((unhide x1).keep (below_drewN W m)).keep b3
  replace b3 := hide (below_trans (below_trans (unhide B) (below_drewN W m)) b3)
  obtain ⟨d0, d1, _⟩ := x3.cells
  replace t3 := hide t3
  clear c0 c1 x3 x1
  go_wp2_with fail
  refine (unhide WR _ _ _ ((unhide T).below (unhide b3)) (unhide H3) (unhide t3)).mono ?_
  rintro e w4 ⟨rfl, b4⟩
  replace b4 := hide (below_trans (unhide b3) b4)
  go_wp2_with fail
  go_ret2
  exact ⟨rfl, unhide b4⟩

theorem nothing_T {i : Tr Bool} {e : Tr Nat} (P : PT i e) (h0 : shareP i 256 = 0) (w : World) :
    Calls Tryz.prog 15 #[.string (tx i e)] w fun o w' => o = .returned (.tuple #[.string { data := #[] }, .int .i64 4]) ∧ Below w.heap.size w w' := event_nothing P.size P.read h0 w
theorem full_T {i : Tr Bool} {e : Tr Nat} (P : PT i e) (h0 : shareP i 256 ≠ 0) (he : eventP i e = none) (w : World) :
    Calls Tryz.prog 15 #[.string (tx i e)] w fun o w' => o = .returned (.tuple #[.string { data := #[] }, .int .i64 7]) ∧ Below w.heap.size w w' := event_full P.size P.read P h0 he w
theorem PT.event {i : Tr Bool} {e t : Tr Nat} (P : PT i e) (he : eventP i e = some t) : PT i t ∧ Evented i e t := by
  have E := event_some i e t P.pe P.di P.de P.hi he
  exact ⟨⟨P.pi, P.di, E.plain, E.deep, E.cap⟩, E⟩
theorem event_T {i : Tr Bool} {e t : Tr Nat} (P : PT i e) (h0 : shareP i 256 ≠ 0) (he : eventP i e = some t) (w : World) (T : Tab w) :
    Calls Tryz.prog 15 #[.string (tx i e)] w fun o w' => o = .returned (.tuple #[.string (tx i t), .int .i64 0]) ∧ Below w.heap.size w w' := event_ok P.size P.read P h0 he (P.event he).1 w T

end Go.Proofs.YtoebmfhgaalcdaaGreatDoor
