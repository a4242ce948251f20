/-
  Our own. (*sprigslaw.World).step, kind by kind, up to 7. (Laid by wip/mk/step.py.)
-/
import Derived.Test.YtoebmfhgaalcdaaGreatDoorLawKeepAll
namespace Go.Proofs.YtoebmfhgaalcdaaGreatDoor
open Go.RowKit

theorem cells5 {w : World} {k : Nat} {a b c d e : Value} {ty : Nat} (h : w.heap[k]? = some (.cells #[a, b, c, d, e] ty)) : w.cell? ⟨k, 0, none⟩ = some a ∧ w.cell? ⟨k, 1, none⟩ = some b ∧ w.cell? ⟨k, 2, none⟩ = some c ∧ w.cell? ⟨k, 3, none⟩ = some d ∧ w.cell? ⟨k, 4, none⟩ = some e := by
  refine ⟨?_, ?_, ?_, ?_, ?_⟩ <;> simp [World.cell?, h]

set_option maxRecDepth 100000 in
set_option maxHeartbeats 4000000 in
theorem step_checks (w0 w : World) (_T0 : Tab w0) (wb : Nat) (G : Going w0 wb w) (a bb : Int) (s t : ByteArray) (ha : a ≤ 9223372036854775807) (hbb : bb ≤ 9223372036854775807) (hs : s.size ≤ maxLen) (ht : t.size ≤ maxLen) :
    Calls Tryz.prog 20 #[.pointer (some ⟨wb, 0, none⟩), .agg #[.int .i64 1, .int .i64 a, .int .i64 bb, .string s, .string t]] w fun e w' => e = .returned (.bool true) ∧ Going w0 wb w' := by
  have G1 := G.keep (below_alloc w (.cells #[.int .i64 1, .int .i64 a, .int .i64 bb, .string s, .string t] 52))
  obtain ⟨x0, x1, x2, x3, x4⟩ := cells5 (heap_new w (.cells #[.int .i64 1, .int .i64 a, .int .i64 bb, .string s, .string t] 52))
  obtain ⟨r1, h1, O1⟩ := of_go w0 _ wb G1 a s ha hs
  replace O1 := hide O1
  clear G G1
  go_enter Tryz.func20, Tryz.ntmps20
  go_wp2_with fail
  generalize w.alloc (.cells #[.int .i64 1, .int .i64 a, .int .i64 bb, .string s, .string t] 52) = W at *
  generalize w.heap.size = N at *
  refine (unhide O1).mono ?_
  rintro o w1 ⟨rfl, g1, b1⟩
  have y0 := cell_keep b1 x0
  have y2 := cell_keep b1 x2
  have y3 := cell_keep b1 x3
  have y4 := cell_keep b1 x4
  obtain ⟨r2, h2, O2⟩ := of_go w0 w1 wb g1 bb t hbb ht
  replace O2 := hide O2
  clear x0 x1 x2 x3 x4 g1 b1 O1
  go_wp2_with fail
  refine (unhide O2).mono ?_
  rintro o w2 ⟨rfl, g2, b2⟩
  have z0 := cell_keep b2 y0
  have z3 := cell_keep b2 y3
  clear y0 y2 y3 y4 b2 O2
  replace g2 := hide g2
  obtain ⟨cd, pl, C1, C2⟩ := check_both r1 h1
  replace C1 := hide C1
  replace C2 := hide C2
  go_wp2_with fail
  refine (unhide C1 _).mono ?_
  rintro o w3 ⟨rfl, b3⟩
  replace g2 := hide ((unhide g2).keep b3)
  clear b3
  go_wp2_with fail
  refine (unhide C2 _).mono ?_
  rintro o w4 ⟨v, rfl, b4⟩
  replace g2 := hide ((unhide g2).keep b4)
  clear b4
  go_wp2_with fail
  go_ret
  exact ⟨rfl, unhide g2⟩

set_option maxRecDepth 100000 in
set_option maxHeartbeats 4000000 in
theorem step_fork (w0 w : World) (T0 : Tab w0) (wb : Nat) (G : Going w0 wb w) (a bb : Int) (s t : ByteArray) (ha : a ≤ 9223372036854775807) (hbb : bb ≤ 9223372036854775807) (hs : s.size ≤ maxLen) (ht : t.size ≤ maxLen) :
    Calls Tryz.prog 20 #[.pointer (some ⟨wb, 0, none⟩), .agg #[.int .i64 2, .int .i64 a, .int .i64 bb, .string s, .string t]] w fun e w' => e = .returned (.bool true) ∧ Going w0 wb w' := by
  have G1 := G.keep (below_alloc w (.cells #[.int .i64 2, .int .i64 a, .int .i64 bb, .string s, .string t] 52))
  obtain ⟨x0, x1, x2, x3, x4⟩ := cells5 (heap_new w (.cells #[.int .i64 2, .int .i64 a, .int .i64 bb, .string s, .string t] 52))
  obtain ⟨r1, h1, O1⟩ := of_go w0 _ wb G1 a s ha hs
  replace O1 := hide O1
  clear G G1
  replace T0 := hide T0
  go_enter Tryz.func20, Tryz.ntmps20
  go_wp2_with fail
  generalize w.alloc (.cells #[.int .i64 2, .int .i64 a, .int .i64 bb, .string s, .string t] 52) = W at *
  generalize w.heap.size = N at *
  refine (unhide O1).mono ?_
  rintro o w1 ⟨rfl, g1, b1⟩
  have y0 := cell_keep b1 x0
  have y2 := cell_keep b1 x2
  have y3 := cell_keep b1 x3
  have y4 := cell_keep b1 x4
  obtain ⟨r2, h2, O2⟩ := of_go w0 w1 wb g1 bb t hbb ht
  replace O2 := hide O2
  clear x0 x1 x2 x3 x4 g1 b1 O1
  go_wp2_with fail
  refine (unhide O2).mono ?_
  rintro o w2 ⟨rfl, g2, b2⟩
  have z0 := cell_keep b2 y0
  have z3 := cell_keep b2 y3
  clear y0 y2 y3 y4 b2 O2
  replace g2 := hide g2
  have PC := hide (pieces_fork w0 w2 (unhide T0) wb (unhide g2) r1 r2 h1 h2)
  clear g2
  go_wp2_with fail
  refine (unhide PC).mono ?_
  rintro o w3 ⟨rfl, g3⟩
  replace g3 := hide g3
  go_wp2_with fail
  go_ret
  exact ⟨rfl, unhide g3⟩

set_option maxRecDepth 100000 in
set_option maxHeartbeats 4000000 in
theorem step_peek (w0 w : World) (T0 : Tab w0) (wb : Nat) (G : Going w0 wb w) (a bb : Int) (s t : ByteArray) (ha : a ≤ 9223372036854775807) (hbb : bb ≤ 9223372036854775807) (hs : s.size ≤ maxLen) (ht : t.size ≤ maxLen) :
    Calls Tryz.prog 20 #[.pointer (some ⟨wb, 0, none⟩), .agg #[.int .i64 3, .int .i64 a, .int .i64 bb, .string s, .string t]] w fun e w' => e = .returned (.bool true) ∧ Going w0 wb w' := by
  have G1 := G.keep (below_alloc w (.cells #[.int .i64 3, .int .i64 a, .int .i64 bb, .string s, .string t] 52))
  obtain ⟨x0, x1, x2, x3, x4⟩ := cells5 (heap_new w (.cells #[.int .i64 3, .int .i64 a, .int .i64 bb, .string s, .string t] 52))
  obtain ⟨r1, h1, O1⟩ := of_go w0 _ wb G1 a s ha hs
  replace O1 := hide O1
  clear G G1
  replace T0 := hide T0
  go_enter Tryz.func20, Tryz.ntmps20
  go_wp2_with fail
  generalize w.alloc (.cells #[.int .i64 3, .int .i64 a, .int .i64 bb, .string s, .string t] 52) = W at *
  generalize w.heap.size = N at *
  refine (unhide O1).mono ?_
  rintro o w1 ⟨rfl, g1, b1⟩
  have y0 := cell_keep b1 x0
  have y2 := cell_keep b1 x2
  have y3 := cell_keep b1 x3
  have y4 := cell_keep b1 x4
  obtain ⟨r2, h2, O2⟩ := of_go w0 w1 wb g1 bb t hbb ht
  replace O2 := hide O2
  clear x0 x1 x2 x3 x4 g1 b1 O1
  go_wp2_with fail
  refine (unhide O2).mono ?_
  rintro o w2 ⟨rfl, g2, b2⟩
  have z0 := cell_keep b2 y0
  have z3 := cell_keep b2 y3
  clear y0 y2 y3 y4 b2 O2
  replace g2 := hide g2
  have PC := hide (pieces_peek w0 w2 (unhide T0) wb (unhide g2) r1 r2 h1 h2)
  clear g2
  go_wp2_with fail
  refine (unhide PC).mono ?_
  rintro o w3 ⟨rfl, g3⟩
  replace g3 := hide g3
  go_wp2_with fail
  go_ret
  exact ⟨rfl, unhide g3⟩

set_option maxRecDepth 100000 in
set_option maxHeartbeats 4000000 in
theorem step_join (w0 w : World) (T0 : Tab w0) (wb : Nat) (G : Going w0 wb w) (a bb : Int) (s t : ByteArray) (ha : a ≤ 9223372036854775807) (hbb : bb ≤ 9223372036854775807) (hs : s.size ≤ maxLen) (ht : t.size ≤ maxLen) :
    Calls Tryz.prog 20 #[.pointer (some ⟨wb, 0, none⟩), .agg #[.int .i64 4, .int .i64 a, .int .i64 bb, .string s, .string t]] w fun e w' => e = .returned (.bool true) ∧ Going w0 wb w' := by
  have G1 := G.keep (below_alloc w (.cells #[.int .i64 4, .int .i64 a, .int .i64 bb, .string s, .string t] 52))
  obtain ⟨x0, x1, x2, x3, x4⟩ := cells5 (heap_new w (.cells #[.int .i64 4, .int .i64 a, .int .i64 bb, .string s, .string t] 52))
  obtain ⟨r1, h1, O1⟩ := of_go w0 _ wb G1 a s ha hs
  replace O1 := hide O1
  clear G G1
  replace T0 := hide T0
  go_enter Tryz.func20, Tryz.ntmps20
  go_wp2_with fail
  generalize w.alloc (.cells #[.int .i64 4, .int .i64 a, .int .i64 bb, .string s, .string t] 52) = W at *
  generalize w.heap.size = N at *
  refine (unhide O1).mono ?_
  rintro o w1 ⟨rfl, g1, b1⟩
  have y0 := cell_keep b1 x0
  have y2 := cell_keep b1 x2
  have y3 := cell_keep b1 x3
  have y4 := cell_keep b1 x4
  obtain ⟨r2, h2, O2⟩ := of_go w0 w1 wb g1 bb t hbb ht
  replace O2 := hide O2
  clear x0 x1 x2 x3 x4 g1 b1 O1
  go_wp2_with fail
  refine (unhide O2).mono ?_
  rintro o w2 ⟨rfl, g2, b2⟩
  have z0 := cell_keep b2 y0
  have z3 := cell_keep b2 y3
  clear y0 y2 y3 y4 b2 O2
  replace g2 := hide g2
  have PC := hide (pieces_join w0 w2 (unhide T0) wb (unhide g2) r1 r2 h1 h2)
  clear g2
  go_wp2_with fail
  refine (unhide PC).mono ?_
  rintro o w3 ⟨rfl, g3⟩
  replace g3 := hide g3
  go_wp2_with fail
  go_ret
  exact ⟨rfl, unhide g3⟩

set_option maxRecDepth 100000 in
set_option maxHeartbeats 4000000 in
theorem step_share (w0 w : World) (T0 : Tab w0) (wb : Nat) (G : Going w0 wb w) (a bb : Int) (s t : ByteArray) (ha : a ≤ 9223372036854775807) (hbb : bb ≤ 9223372036854775807) (hs : s.size ≤ maxLen) (ht : t.size ≤ maxLen) :
    Calls Tryz.prog 20 #[.pointer (some ⟨wb, 0, none⟩), .agg #[.int .i64 5, .int .i64 a, .int .i64 bb, .string s, .string t]] w fun e w' => e = .returned (.bool true) ∧ Going w0 wb w' := by
  have G1 := G.keep (below_alloc w (.cells #[.int .i64 5, .int .i64 a, .int .i64 bb, .string s, .string t] 52))
  obtain ⟨x0, x1, x2, x3, x4⟩ := cells5 (heap_new w (.cells #[.int .i64 5, .int .i64 a, .int .i64 bb, .string s, .string t] 52))
  obtain ⟨r1, h1, O1⟩ := of_go w0 _ wb G1 a s ha hs
  replace O1 := hide O1
  clear G G1
  replace T0 := hide T0
  go_enter Tryz.func20, Tryz.ntmps20
  go_wp2_with fail
  generalize w.alloc (.cells #[.int .i64 5, .int .i64 a, .int .i64 bb, .string s, .string t] 52) = W at *
  generalize w.heap.size = N at *
  refine (unhide O1).mono ?_
  rintro o w1 ⟨rfl, g1, b1⟩
  have y0 := cell_keep b1 x0
  have y2 := cell_keep b1 x2
  have y3 := cell_keep b1 x3
  have y4 := cell_keep b1 x4
  obtain ⟨r2, h2, O2⟩ := of_go w0 w1 wb g1 bb t hbb ht
  replace O2 := hide O2
  clear x0 x1 x2 x3 x4 g1 b1 O1
  go_wp2_with fail
  refine (unhide O2).mono ?_
  rintro o w2 ⟨rfl, g2, b2⟩
  have z0 := cell_keep b2 y0
  have z3 := cell_keep b2 y3
  clear y0 y2 y3 y4 b2 O2
  replace g2 := hide g2
  have PC := hide (pieces_share w0 w2 (unhide T0) wb (unhide g2) r1 r2 h1 h2)
  clear g2
  go_wp2_with fail
  refine (unhide PC).mono ?_
  rintro o w3 ⟨rfl, g3⟩
  replace g3 := hide g3
  go_wp2_with fail
  go_ret
  exact ⟨rfl, unhide g3⟩

set_option maxRecDepth 100000 in
set_option maxHeartbeats 4000000 in
theorem step_leq (w0 w : World) (T0 : Tab w0) (wb : Nat) (G : Going w0 wb w) (a bb : Int) (s t : ByteArray) (ha : a ≤ 9223372036854775807) (hbb : bb ≤ 9223372036854775807) (hs : s.size ≤ maxLen) (ht : t.size ≤ maxLen) :
    Calls Tryz.prog 20 #[.pointer (some ⟨wb, 0, none⟩), .agg #[.int .i64 7, .int .i64 a, .int .i64 bb, .string s, .string t]] w fun e w' => e = .returned (.bool true) ∧ Going w0 wb w' := by
  have G1 := G.keep (below_alloc w (.cells #[.int .i64 7, .int .i64 a, .int .i64 bb, .string s, .string t] 52))
  obtain ⟨x0, x1, x2, x3, x4⟩ := cells5 (heap_new w (.cells #[.int .i64 7, .int .i64 a, .int .i64 bb, .string s, .string t] 52))
  obtain ⟨r1, h1, O1⟩ := of_go w0 _ wb G1 a s ha hs
  replace O1 := hide O1
  clear G G1
  replace T0 := hide T0
  go_enter Tryz.func20, Tryz.ntmps20
  go_wp2_with fail
  generalize w.alloc (.cells #[.int .i64 7, .int .i64 a, .int .i64 bb, .string s, .string t] 52) = W at *
  generalize w.heap.size = N at *
  refine (unhide O1).mono ?_
  rintro o w1 ⟨rfl, g1, b1⟩
  have y0 := cell_keep b1 x0
  have y2 := cell_keep b1 x2
  have y3 := cell_keep b1 x3
  have y4 := cell_keep b1 x4
  obtain ⟨r2, h2, O2⟩ := of_go w0 w1 wb g1 bb t hbb ht
  replace O2 := hide O2
  clear x0 x1 x2 x3 x4 g1 b1 O1
  go_wp2_with fail
  refine (unhide O2).mono ?_
  rintro o w2 ⟨rfl, g2, b2⟩
  have z0 := cell_keep b2 y0
  have z3 := cell_keep b2 y3
  clear y0 y2 y3 y4 b2 O2
  replace g2 := hide g2
  have PC := hide (pieces_leq w0 w2 (unhide T0) wb (unhide g2) r1 r2 h1 h2)
  clear g2
  go_wp2_with fail
  refine (unhide PC).mono ?_
  rintro o w3 ⟨rfl, g3⟩
  replace g3 := hide g3
  go_wp2_with fail
  go_ret
  exact ⟨rfl, unhide g3⟩

set_option maxRecDepth 100000 in
set_option maxHeartbeats 4000000 in
theorem step_low (w0 w : World) (_T0 : Tab w0) (wb : Nat) (G : Going w0 wb w) (k : Int) (hk : k < 1) (a bb : Int) (s t : ByteArray) (ha : a ≤ 9223372036854775807) (hbb : bb ≤ 9223372036854775807) (hs : s.size ≤ maxLen) (ht : t.size ≤ maxLen) :
    Calls Tryz.prog 20 #[.pointer (some ⟨wb, 0, none⟩), .agg #[.int .i64 k, .int .i64 a, .int .i64 bb, .string s, .string t]] w fun e w' => e = .returned (.bool true) ∧ Going w0 wb w' := by
  have G1 := G.keep (below_alloc w (.cells #[.int .i64 k, .int .i64 a, .int .i64 bb, .string s, .string t] 52))
  obtain ⟨x0, x1, x2, x3, x4⟩ := cells5 (heap_new w (.cells #[.int .i64 k, .int .i64 a, .int .i64 bb, .string s, .string t] 52))
  obtain ⟨r1, h1, O1⟩ := of_go w0 _ wb G1 a s ha hs
  replace O1 := hide O1
  have k1 : (k == 1) = false := beq_eq_false_iff_ne.2 (by omega)
  have k2 : (k == 2) = false := beq_eq_false_iff_ne.2 (by omega)
  have k3 : (k == 3) = false := beq_eq_false_iff_ne.2 (by omega)
  have k4 : (k == 4) = false := beq_eq_false_iff_ne.2 (by omega)
  have k5 : (k == 5) = false := beq_eq_false_iff_ne.2 (by omega)
  have k6 : (k == 6) = false := beq_eq_false_iff_ne.2 (by omega)
  have k7 : (k == 7) = false := beq_eq_false_iff_ne.2 (by omega)
  have k8 : (k == 8) = false := beq_eq_false_iff_ne.2 (by omega)
  have k9 : (k == 9) = false := beq_eq_false_iff_ne.2 (by omega)
  clear G G1
  go_enter Tryz.func20, Tryz.ntmps20
  go_wp2_with fail
  generalize w.alloc (.cells #[.int .i64 k, .int .i64 a, .int .i64 bb, .string s, .string t] 52) = W at *
  generalize w.heap.size = N at *
  refine (unhide O1).mono ?_
  rintro o w1 ⟨rfl, g1, b1⟩
  have y0 := cell_keep b1 x0
  have y2 := cell_keep b1 x2
  have y3 := cell_keep b1 x3
  have y4 := cell_keep b1 x4
  obtain ⟨r2, h2, O2⟩ := of_go w0 w1 wb g1 bb t hbb ht
  replace O2 := hide O2
  clear x0 x1 x2 x3 x4 g1 b1 O1
  go_wp2_with fail
  refine (unhide O2).mono ?_
  rintro o w2 ⟨rfl, g2, b2⟩
  have z0 := cell_keep b2 y0
  have z3 := cell_keep b2 y3
  clear y0 y2 y3 y4 b2 O2
  replace g2 := hide g2
  go_wp2_with fail
  go_ret
  exact ⟨rfl, unhide g2⟩

end Go.Proofs.YtoebmfhgaalcdaaGreatDoor
