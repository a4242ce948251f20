/-
  Our own. Scripts, for Pieces and All. (Laid by wip/mk/playsp.py.)
-/
import Derived.Test.YtoebmfhgaalcdaaGreatDoorLawStepE
import Derived.Test.YtoebmfhgaalcdaaGreatDoorOpsRow
import Derived.Test.YtoebmfhgaalcdaaGreatDoorLawStepP
import Derived.Test.YtoebmfhgaalcdaaGreatDoorRefEncAll
import Derived.Test.YtoebmfhgaalcdaaGreatDoorRefDecAll
import Derived.Deep.LoopGhost
namespace Go.Proofs.YtoebmfhgaalcdaaGreatDoor
open Go.RowKit

theorem step_seven (w0 w : World) (T0 : Tab w0) (wb : Nat) (G : Going w0 wb w) (k : Int) (hk : k ≤ 7) (a bb : Int) (s t : ByteArray) (ha : a ≤ 9223372036854775807) (hbb : bb ≤ 9223372036854775807) (hs : s.size ≤ maxLen) (ht : t.size ≤ maxLen) :
    Calls Tryz.prog 20 #[.pointer (some ⟨wb, 0, none⟩), .agg #[.int .i64 k, .int .i64 a, .int .i64 bb, .string s, .string t]] w fun e w' => e = .returned (.bool true) ∧ Going w0 wb w' := by
  by_cases h1 : k < 1
  · exact step_low w0 w T0 wb G k h1 a bb s t ha hbb hs ht
  · obtain rfl | rfl | rfl | rfl | rfl | rfl | rfl : k = 1 ∨ k = 2 ∨ k = 3 ∨ k = 4 ∨ k = 5 ∨ k = 6 ∨ k = 7 := by omega
    · exact step_checks w0 w T0 wb G a bb s t ha hbb hs ht
    · exact step_fork w0 w T0 wb G a bb s t ha hbb hs ht
    · exact step_peek w0 w T0 wb G a bb s t ha hbb hs ht
    · exact step_join w0 w T0 wb G a bb s t ha hbb hs ht
    · exact step_share w0 w T0 wb G a bb s t ha hbb hs ht
    · exact step_event w0 w T0 wb G a bb s t ha hbb hs ht
    · exact step_leq w0 w T0 wb G a bb s t ha hbb hs ht

end Go.Proofs.YtoebmfhgaalcdaaGreatDoor

namespace Go.Proofs.YtoebmfhgaalcdaaGreatDoor
open Go.RowKit

set_option maxRecDepth 100000 in
set_option maxHeartbeats 4000000 in
theorem step_encode (w0 w : World) (_T0 : Tab w0) (wb : Nat) (G : Going w0 wb w) (a bb : Int) (s t : ByteArray) (ha : a ≤ 9223372036854775807) (hbb : bb ≤ 9223372036854775807) (hs : s.size ≤ maxLen) (ht : t.size ≤ maxLen) :
    Calls Tryz.prog 20 #[.pointer (some ⟨wb, 0, none⟩), .agg #[.int .i64 8, .int .i64 a, .int .i64 bb, .string s, .string t]] w fun e w' => e = .returned (.bool true) ∧ Going w0 wb w' := by
  have G1 := G.keep (below_alloc w (.cells #[.int .i64 8, .int .i64 a, .int .i64 bb, .string s, .string t] 52))
  obtain ⟨x0, x1, x2, x3, x4⟩ := cells5 (heap_new w (.cells #[.int .i64 8, .int .i64 a, .int .i64 bb, .string s, .string t] 52))
  obtain ⟨r1, h1, O1⟩ := of_go w0 _ wb G1 a s ha hs
  replace O1 := hide O1
  clear G G1
  go_enter Tryz.func20, Tryz.ntmps20
  go_wp2_with fail
  generalize w.alloc (.cells #[.int .i64 8, .int .i64 a, .int .i64 bb, .string s, .string t] 52) = W at *
  generalize w.heap.size = N at *
  refine (unhide O1).mono ?_
  rintro o w1 ⟨rfl, g1, b1⟩
  have y0 := cell_keep b1 x0
  have y2 := cell_keep b1 x2
  have y3 := cell_keep b1 x3
  have y4 := cell_keep b1 x4
  obtain ⟨r2, h2, O2⟩ := of_go w0 w1 wb g1 bb t hbb ht
  replace O2 := hide O2
  clear x0 x1 x2 x3 x4 g1 b1 O1
  go_wp2_with fail
  refine (unhide O2).mono ?_
  rintro o w2 ⟨rfl, g2, b2⟩
  have z0 := cell_keep b2 y0
  have z3 := cell_keep b2 y3
  clear y0 y2 y3 y4 b2 O2
  replace g2 := hide g2
  obtain ⟨A, cd, C1, C2⟩ := encode_both r1 h1
  replace C1 := hide C1
  replace C2 := hide C2
  go_wp2_with fail
  refine (unhide C1 _).mono ?_
  rintro o w3 ⟨rfl, b3⟩
  replace g2 := hide ((unhide g2).keep b3)
  clear b3
  go_wp2_with fail
  refine (unhide C2 _).mono ?_
  rintro o w4 ⟨rfl, b4⟩
  replace g2 := hide ((unhide g2).keep b4)
  clear b4
  go_wp2_with fail
  go_ret
  exact ⟨rfl, unhide g2⟩

end Go.Proofs.YtoebmfhgaalcdaaGreatDoor

namespace Go.Proofs.YtoebmfhgaalcdaaGreatDoor
open Go.RowKit

set_option maxRecDepth 100000 in
set_option maxHeartbeats 4000000 in
theorem step_decode (w0 w : World) (T0 : Tab w0) (wb : Nat) (G : Going w0 wb w) (a bb : Int) (s t : ByteArray) (ha : a ≤ 9223372036854775807) (hbb : bb ≤ 9223372036854775807) (hs : s.size ≤ maxLen) (ht : t.size ≤ maxLen) :
    Calls Tryz.prog 20 #[.pointer (some ⟨wb, 0, none⟩), .agg #[.int .i64 9, .int .i64 a, .int .i64 bb, .string s, .string t]] w fun e w' => e = .returned (.bool true) ∧ Going w0 wb w' := by
  have G1 := G.keep (below_alloc w (.cells #[.int .i64 9, .int .i64 a, .int .i64 bb, .string s, .string t] 52))
  obtain ⟨x0, x1, x2, x3, x4⟩ := cells5 (heap_new w (.cells #[.int .i64 9, .int .i64 a, .int .i64 bb, .string s, .string t] 52))
  obtain ⟨r1, h1, O1⟩ := of_go w0 _ wb G1 a s ha hs
  replace O1 := hide O1
  clear G G1
  replace T0 := hide T0
  go_enter Tryz.func20, Tryz.ntmps20
  go_wp2_with fail
  generalize w.alloc (.cells #[.int .i64 9, .int .i64 a, .int .i64 bb, .string s, .string t] 52) = W at *
  generalize w.heap.size = N at *
  refine (unhide O1).mono ?_
  rintro o w1 ⟨rfl, g1, b1⟩
  have y0 := cell_keep b1 x0
  have y2 := cell_keep b1 x2
  have y3 := cell_keep b1 x3
  have y4 := cell_keep b1 x4
  obtain ⟨r2, h2, O2⟩ := of_go w0 w1 wb g1 bb t hbb ht
  replace O2 := hide O2
  clear x0 x1 x2 x3 x4 g1 b1 O1
  go_wp2_with fail
  refine (unhide O2).mono ?_
  rintro o w2 ⟨rfl, g2, b2⟩
  have z0 := cell_keep b2 y0
  have z3 := cell_keep b2 y3
  clear y0 y2 y3 y4 b2 O2
  replace g2 := hide g2
  obtain ⟨A, cd, pl, C1, C2⟩ := decode_both s hs
  replace C1 := hide C1
  replace C2 := hide C2
  go_wp2_with fail
  refine (unhide C1 _ ((unhide g2).tab (unhide T0))).mono ?_
  rintro o w3 ⟨rfl, b3⟩
  have z4 := cell_keep b3 z3
  replace g2 := hide ((unhide g2).keep b3)
  clear b3
  go_wp2_with fail
  refine (unhide C2 _).mono ?_
  rintro o w4 ⟨rfl, b4⟩
  replace g2 := hide ((unhide g2).keep b4)
  clear b4
  go_wp2_with fail
  go_ret
  exact ⟨rfl, unhide g2⟩

theorem step_nine (w0 w : World) (T0 : Tab w0) (wb : Nat) (G : Going w0 wb w) (k : Int) (hk : k ≤ 9) (a bb : Int) (s t : ByteArray) (ha : a ≤ 9223372036854775807) (hbb : bb ≤ 9223372036854775807) (hs : s.size ≤ maxLen) (ht : t.size ≤ maxLen) :
    Calls Tryz.prog 20 #[.pointer (some ⟨wb, 0, none⟩), .agg #[.int .i64 k, .int .i64 a, .int .i64 bb, .string s, .string t]] w fun e w' => e = .returned (.bool true) ∧ Going w0 wb w' := by
  by_cases h7 : k ≤ 7
  · exact step_seven w0 w T0 wb G k h7 a bb s t ha hbb hs ht
  · obtain rfl | rfl : k = 8 ∨ k = 9 := by omega
    · exact step_encode w0 w T0 wb G a bb s t ha hbb hs ht
    · exact step_decode w0 w T0 wb G a bb s t ha hbb hs ht

end Go.Proofs.YtoebmfhgaalcdaaGreatDoor

namespace Go.Proofs.YtoebmfhgaalcdaaGreatDoor
open Go.RowKit

set_option maxRecDepth 100000 in
set_option maxHeartbeats 4000000 in
theorem plays_all (v : Value) (n : Nat) (w : World) (T0 : Tab w) (h : OpsP w.heap.size w v n) :
    Calls Tryz.prog 7 #[v, .int .i64 9] w fun e w' => e = .returned (.bool true) ∧ Below w.heap.size w w' := by
  obtain ⟨hn, p, cap, rfl, hops⟩ := h
  have G := hide (going_new w)
  replace T0 := hide T0
  have HO := hide hops
  clear hops
  go_enter Tryz.func7, Tryz.ntmps7
  go_wp2_with fail
  refine (step_checks w _ (unhide T0) w.heap.size (unhide G) 0 0 { data := #[49, 59, 40, 49, 44, 48, 44, 50, 41] } { data := #[] } (by decide) (by decide) (by decide) (by decide)).mono ?_
  rintro e w1 ⟨rfl, g1⟩
  replace G := hide g1
  clear g1
  go_wp2_with fail
  refine (step_fork w _ (unhide T0) w.heap.size (unhide G) 0 0 { data := #[49, 59, 48] } { data := #[] } (by decide) (by decide) (by decide) (by decide)).mono ?_
  rintro e w2 ⟨rfl, g2⟩
  replace G := hide g2
  clear g2
  go_wp2_with fail
  refine (step_event w _ (unhide T0) w.heap.size (unhide G) 0 0 { data := #[40, 49, 44, 48, 41, 59, 48] } { data := #[] } (by decide) (by decide) (by decide) (by decide)).mono ?_
  rintro e w3 ⟨rfl, g3⟩
  replace G := hide g3
  clear g3
  go_wp2_with fail
  refine (step_share w _ (unhide T0) w.heap.size (unhide G) 0 0 { data := #[40, 49, 44, 48, 41, 59, 48] } { data := #[] } (by decide) (by decide) (by decide) (by decide)).mono ?_
  rintro e w4 ⟨rfl, g4⟩
  replace G := hide g4
  clear g4
  go_wp2_with fail
  refine (step_leq w _ (unhide T0) w.heap.size (unhide G) 0 0 { data := #[49, 59, 48] } { data := #[48, 59, 49] } (by decide) (by decide) (by decide) (by decide)).mono ?_
  rintro e w5 ⟨rfl, g5⟩
  replace G := hide g5
  clear g5
  go_wp2_with fail
  refine (step_encode w _ (unhide T0) w.heap.size (unhide G) 0 0 { data := #[49, 59, 48] } { data := #[] } (by decide) (by decide) (by decide) (by decide)).mono ?_
  rintro e w6 ⟨rfl, g6⟩
  replace G := hide g6
  clear g6
  go_wp2_with fail
  go_loopg [6, 10] n (fun k ok x wr => ∃ j : Nat, j + k = n ∧ ok = .bool true ∧ x = .int .i64 (j : Nat) ∧ Going w w.heap.size wr)
  case atStart => exact ⟨0, by omega, rfl, rfl, unhide G⟩
  case round =>
    obtain ⟨j, hj, rfl, rfl, he⟩ := hrel
    clear G
    have HJ := hide hj
    by_cases hlt : j < n
    · obtain ⟨g, off, hg, rfl, hc⟩ := (unhide HO) (by omega)
      obtain ⟨k, a, b, s, t, c0, c1, c2, c3, c4, ha, hb, hs, ht⟩ := hc j hlt
      have d0 := (he.1.cell (p := ⟨g, off + j * 5, none⟩) hg).trans c0
      have d1 := (he.1.cell (p := ⟨g, off + j * 5 + 1, none⟩) hg).trans c1
      have d2 := (he.1.cell (p := ⟨g, off + j * 5 + 2, none⟩) hg).trans c2
      have d3 := (he.1.cell (p := ⟨g, off + j * 5 + 3, none⟩) hg).trans c3
      have d4 := (he.1.cell (p := ⟨g, off + j * 5 + 4, none⟩) hg).trans c4
      have hlt2 : (j : Int) < (n : Int) := by omega
      clear hc c0 c1 c2 c3 c4 hj
      by_cases hk : (9 : Int) < k
      · replace he := hide he
        clear ha hb hs ht
        go_wp2_with fail
        go_roundg (gk - 1)
        case measure => have := unhide HJ; omega
        case rel =>
          have := unhide HJ
          exact ⟨j + 1, by omega, rfl, by go_num, unhide he⟩
      · have ST := hide (step_nine w wr (unhide T0) w.heap.size he k (by omega) a b s t ha hb hs ht)
        clear he ha hb hs ht
        go_wp2_with fail
        refine (unhide ST).mono ?_
        rintro e w9 ⟨rfl, g9⟩
        replace g9 := hide g9
        go_wp2_with fail
        go_roundg (gk - 1)
        case measure => have := unhide HJ; omega
        case rel =>
          have := unhide HJ
          exact ⟨j + 1, by omega, rfl, by go_num, unhide g9⟩
    · have hlt2 : ¬ (j : Int) < (n : Int) := by omega
      clear hj
      replace he := hide he
      go_wp2_with fail
      go_ret
      exact ⟨rfl, (unhide he).1⟩

set_option maxHeartbeats 400000 in
/-- All, of any script. -/
theorem all_any (v : Value) (n : Nat) (w : World) (T0 : Tab w) (h : OpsP w.heap.size w v n) :
    Calls Tryz.prog 5 #[v] w fun e w' => e = .returned (.bool true) ∧ Below w.heap.size w w' := by
  have P := hide (plays_all v n w T0 h)
  obtain ⟨hn, p, cap, rfl, hops⟩ := h
  clear hops T0
  go_enter Tryz.func5, Tryz.ntmps5
  go_wp2_with fail
  refine (unhide P).mono ?_
  rintro e w1 ⟨rfl, b1⟩
  go_wp2_with fail
  go_ret
  exact ⟨rfl, b1⟩

end Go.Proofs.YtoebmfhgaalcdaaGreatDoor
