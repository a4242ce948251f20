/-
  Our own. (*sprigslaw.World).pieces: every Fork, Peek, Join, Share, Leq.
-/
import Derived.Test.YtoebmfhgaalcdaaGreatDoorLawKeep
import Derived.Test.YtoebmfhgaalcdaaGreatDoorLawBoth
namespace Go.Proofs.YtoebmfhgaalcdaaGreatDoor
open Go.RowKit

/-- A script under way. -/
def Going (w0 : World) (wb : Nat) (w : World) : Prop := Below w0.heap.size w0 w ∧ ∃ sv L, Kw w0.heap.size wb w sv L
theorem Going.keep {w0 w w' : World} {wb : Nat} (h : Going w0 wb w) (hb : Below w.heap.size w w') : Going w0 wb w' := by
  obtain ⟨h1, sv, L, K⟩ := h
  exact ⟨h1.trans (hb.mono h1.size), sv, L, K.keep hb⟩
theorem Going.tab {w0 w : World} {wb : Nat} (h : Going w0 wb w) (T : Tab w0) : Tab w := T.below h.1
theorem keep_go (w0 w : World) (wb : Nat) (G : Going w0 wb w) (s : ByteArray) (hs : s.size ≤ 20000) : Calls Tryz.prog 41 #[.pointer (some ⟨wb, 0, none⟩), .string s] w fun e w' => e = .returned (.tuple #[]) ∧ Going w0 wb w' := by
  obtain ⟨h1, sv, L, K⟩ := G
  refine (keep_any w0.heap.size wb w sv L s hs K h1.size).mono ?_
  rintro e w' ⟨rfl, b, sv', L', K'⟩
  exact ⟨rfl, h1.trans b, sv', L', K'⟩
theorem of_go (w0 w : World) (wb : Nat) (G : Going w0 wb w) (a : Int) (s : ByteArray) (ha : a ≤ 9223372036854775807) (hs : s.size ≤ maxLen) : ∃ r : ByteArray, r.size ≤ maxLen ∧ Calls Tryz.prog 37 #[.pointer (some ⟨wb, 0, none⟩), .int .i64 a, .string s] w fun e w' => e = .returned (.string r) ∧ Going w0 wb w' ∧ Below w.heap.size w w' := by
  obtain ⟨h1, sv, L, K⟩ := G
  refine ⟨ofP L a s, ofP_size L K.small a s hs, (of_any w0.heap.size wb w sv L a s ha K).mono ?_⟩
  rintro e w' ⟨rfl, b⟩
  exact ⟨rfl, ⟨h1.trans (b.mono h1.size), sv, L, K.keep b⟩, b⟩

set_option maxRecDepth 100000 in
set_option maxHeartbeats 2000000 in
theorem pieces_fork (w0 w : World) (T0 : Tab w0) (wb : Nat) (G : Going w0 wb w) (s t : ByteArray) (hs : s.size ≤ maxLen) (_ht : t.size ≤ maxLen) : Calls Tryz.prog 39 #[.pointer (some ⟨wb, 0, none⟩), .int .i64 2, .string s, .string t] w fun e w' => e = .returned (.bool true) ∧ Going w0 wb w' := by
  obtain ⟨A, B, cd, hA, hB, C1, C2⟩ := fork_both s hs
  replace C1 := hide C1
  replace C2 := hide C2
  replace T0 := hide T0
  replace G := hide G
  go_enter Tryz.func39, Tryz.ntmps39
  go_wp2_with fail
  refine (unhide C1 _ ((unhide G).tab (unhide T0))).mono ?_
  rintro o w1 ⟨rfl, b1⟩
  replace G := hide ((unhide G).keep b1)
  clear b1
  go_wp2_with fail
  refine (unhide C2 _).mono ?_
  rintro o w2 ⟨rfl, b2⟩
  replace G := hide ((unhide G).keep b2)
  clear b2
  go_wp2_with fail
  refine (keep_go w0 _ wb (unhide G) A hA).mono ?_
  rintro o w3 ⟨rfl, g3⟩
  replace G := hide g3
  clear g3
  go_wp2_with fail
  refine (keep_go w0 _ wb (unhide G) B hB).mono ?_
  rintro o w4 ⟨rfl, g4⟩
  replace G := hide g4
  clear g4
  go_wp2_with fail
  go_ret
  exact ⟨rfl, unhide G⟩

set_option maxRecDepth 100000 in
set_option maxHeartbeats 2000000 in
theorem pieces_peek (w0 w : World) (T0 : Tab w0) (wb : Nat) (G : Going w0 wb w) (s t : ByteArray) (hs : s.size ≤ maxLen) (_ht : t.size ≤ maxLen) : Calls Tryz.prog 39 #[.pointer (some ⟨wb, 0, none⟩), .int .i64 3, .string s, .string t] w fun e w' => e = .returned (.bool true) ∧ Going w0 wb w' := by
  obtain ⟨A, cd, hA, C1, C2⟩ := peek_both s hs
  replace C1 := hide C1
  replace C2 := hide C2
  replace T0 := hide T0
  replace G := hide G
  go_enter Tryz.func39, Tryz.ntmps39
  go_wp2_with fail
  refine (unhide C1 _ ((unhide G).tab (unhide T0))).mono ?_
  rintro o w1 ⟨rfl, b1⟩
  replace G := hide ((unhide G).keep b1)
  clear b1
  go_wp2_with fail
  refine (unhide C2 _).mono ?_
  rintro o w2 ⟨rfl, b2⟩
  replace G := hide ((unhide G).keep b2)
  clear b2
  go_wp2_with fail
  refine (keep_go w0 _ wb (unhide G) A hA).mono ?_
  rintro o w3 ⟨rfl, g3⟩
  replace G := hide g3
  clear g3
  go_wp2_with fail
  go_ret
  exact ⟨rfl, unhide G⟩

set_option maxRecDepth 100000 in
set_option maxHeartbeats 2000000 in
theorem pieces_join (w0 w : World) (T0 : Tab w0) (wb : Nat) (G : Going w0 wb w) (s t : ByteArray) (hs : s.size ≤ maxLen) (ht : t.size ≤ maxLen) : Calls Tryz.prog 39 #[.pointer (some ⟨wb, 0, none⟩), .int .i64 4, .string s, .string t] w fun e w' => e = .returned (.bool true) ∧ Going w0 wb w' := by
  obtain ⟨A, cd, hA, C1, C2⟩ := join_both s t hs ht
  replace C1 := hide C1
  replace C2 := hide C2
  replace T0 := hide T0
  replace G := hide G
  go_enter Tryz.func39, Tryz.ntmps39
  go_wp2_with fail
  refine (unhide C1 _ ((unhide G).tab (unhide T0))).mono ?_
  rintro o w1 ⟨rfl, b1⟩
  replace G := hide ((unhide G).keep b1)
  clear b1
  go_wp2_with fail
  refine (unhide C2 _).mono ?_
  rintro o w2 ⟨rfl, b2⟩
  replace G := hide ((unhide G).keep b2)
  clear b2
  go_wp2_with fail
  refine (keep_go w0 _ wb (unhide G) A hA).mono ?_
  rintro o w3 ⟨rfl, g3⟩
  replace G := hide g3
  clear g3
  go_wp2_with fail
  go_ret
  exact ⟨rfl, unhide G⟩

set_option maxRecDepth 100000 in
set_option maxHeartbeats 2000000 in
theorem pieces_share (w0 w : World) (_T0 : Tab w0) (wb : Nat) (G : Going w0 wb w) (s t : ByteArray) (hs : s.size ≤ maxLen) (_ht : t.size ≤ maxLen) : Calls Tryz.prog 39 #[.pointer (some ⟨wb, 0, none⟩), .int .i64 5, .string s, .string t] w fun e w' => e = .returned (.bool true) ∧ Going w0 wb w' := by
  obtain ⟨A, cd, C1, C2⟩ := share_both s hs
  replace C1 := hide C1
  replace C2 := hide C2
  replace G := hide G
  go_enter Tryz.func39, Tryz.ntmps39
  go_wp2_with fail
  refine (unhide C1 _).mono ?_
  rintro o w1 ⟨rfl, b1⟩
  replace G := hide ((unhide G).keep b1)
  clear b1
  go_wp2_with fail
  refine (unhide C2 _).mono ?_
  rintro o w2 ⟨rfl, b2⟩
  replace G := hide ((unhide G).keep b2)
  clear b2
  go_wp2_with fail
  go_ret
  exact ⟨rfl, unhide G⟩

set_option maxRecDepth 100000 in
set_option maxHeartbeats 2000000 in
theorem pieces_leq (w0 w : World) (_T0 : Tab w0) (wb : Nat) (G : Going w0 wb w) (s t : ByteArray) (hs : s.size ≤ maxLen) (ht : t.size ≤ maxLen) : Calls Tryz.prog 39 #[.pointer (some ⟨wb, 0, none⟩), .int .i64 7, .string s, .string t] w fun e w' => e = .returned (.bool true) ∧ Going w0 wb w' := by
  obtain ⟨A, cd, C1, C2⟩ := leq_both s t hs ht
  replace C1 := hide C1
  replace C2 := hide C2
  replace G := hide G
  go_enter Tryz.func39, Tryz.ntmps39
  go_wp2_with fail
  refine (unhide C1 _).mono ?_
  rintro o w1 ⟨rfl, b1⟩
  replace G := hide ((unhide G).keep b1)
  clear b1
  go_wp2_with fail
  refine (unhide C2 _).mono ?_
  rintro o w2 ⟨rfl, b2⟩
  replace G := hide ((unhide G).keep b2)
  clear b2
  go_wp2_with fail
  go_ret
  exact ⟨rfl, unhide G⟩
end Go.Proofs.YtoebmfhgaalcdaaGreatDoor
