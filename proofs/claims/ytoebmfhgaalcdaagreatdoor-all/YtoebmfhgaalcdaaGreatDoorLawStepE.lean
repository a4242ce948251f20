/-
  Our own. (*sprigslaw.World).step: events. (Laid by wip/mk/step.py.)
-/
import Derived.Test.YtoebmfhgaalcdaaGreatDoorLawStepP
import Derived.Test.YtoebmfhgaalcdaaGreatDoorRefEventAll
namespace Go.Proofs.YtoebmfhgaalcdaaGreatDoor
open Go.RowKit

set_option maxRecDepth 100000 in
set_option maxHeartbeats 4000000 in
theorem step_event (w0 w : World) (T0 : Tab w0) (wb : Nat) (G : Going w0 wb w) (a bb : Int) (s t : ByteArray) (ha : a ≤ 9223372036854775807) (hbb : bb ≤ 9223372036854775807) (hs : s.size ≤ maxLen) (ht : t.size ≤ maxLen) :
    Calls Tryz.prog 20 #[.pointer (some ⟨wb, 0, none⟩), .agg #[.int .i64 6, .int .i64 a, .int .i64 bb, .string s, .string t]] w fun e w' => e = .returned (.bool true) ∧ Going w0 wb w' := by
  have G1 := G.keep (below_alloc w (.cells #[.int .i64 6, .int .i64 a, .int .i64 bb, .string s, .string t] 52))
  obtain ⟨x0, x1, x2, x3, x4⟩ := cells5 (heap_new w (.cells #[.int .i64 6, .int .i64 a, .int .i64 bb, .string s, .string t] 52))
  obtain ⟨r1, h1, O1⟩ := of_go w0 _ wb G1 a s ha hs
  replace O1 := hide O1
  clear G G1
  replace T0 := hide T0
  go_enter Tryz.func20, Tryz.ntmps20
  go_wp2_with fail
  generalize w.alloc (.cells #[.int .i64 6, .int .i64 a, .int .i64 bb, .string s, .string t] 52) = W at *
  generalize w.heap.size = N at *
  refine (unhide O1).mono ?_
  rintro o w1 ⟨rfl, g1, b1⟩
  have y0 := cell_keep b1 x0
  have y2 := cell_keep b1 x2
  have y3 := cell_keep b1 x3
  have y4 := cell_keep b1 x4
  obtain ⟨r2, h2, O2⟩ := of_go w0 w1 wb g1 bb t hbb ht
  replace O2 := hide O2
  clear x0 x1 x2 x3 x4 g1 b1 O1
  go_wp2_with fail
  refine (unhide O2).mono ?_
  rintro o w2 ⟨rfl, g2, b2⟩
  have z0 := cell_keep b2 y0
  have z3 := cell_keep b2 y3
  clear y0 y2 y3 y4 b2 O2
  replace g2 := hide g2
  obtain ⟨A, cd, hA, C1, C2⟩ := event_both r1 h1
  replace C1 := hide C1
  replace C2 := hide C2
  go_wp2_with fail
  refine (unhide C1 _ ((unhide g2).tab (unhide T0))).mono ?_
  rintro o w3 ⟨rfl, b3⟩
  replace g2 := hide ((unhide g2).keep b3)
  clear b3
  go_wp2_with fail
  refine (unhide C1 _ ((unhide g2).tab (unhide T0))).mono ?_
  rintro o w4 ⟨rfl, b4⟩
  replace g2 := hide ((unhide g2).keep b4)
  clear b4
  go_wp2_with fail
  refine (unhide C2 _).mono ?_
  rintro o w5 ⟨rfl, b5⟩
  replace g2 := hide ((unhide g2).keep b5)
  clear b5
  go_wp2_with fail
  refine (keep_go w0 _ wb (unhide g2) A hA).mono ?_
  rintro o w6 ⟨rfl, g6⟩
  replace g6 := hide g6
  go_wp2_with fail
  go_ret
  exact ⟨rfl, unhide g6⟩

end Go.Proofs.YtoebmfhgaalcdaaGreatDoor
