/-
  Our own. sprigskeep.aStamp, sprigskeep.fine.
-/
import Derived.Test.YtoebmfhgaalcdaaDoorKeepEv
import Derived.Test.YtoebmfhgaalcdaaDoorWalkCheck
namespace Go.Proofs.YtoebmfhgaalcdaaDoor
open Go.RowKit

theorem stampText_len (l : List Int) : (stampText l).length ≤ 3064 := by
  have h1 := anIdP_len8 l 8 0 (by omega)
  have h2 := anEvP_len8 l 8 false (anIdP l 8 0).2 (by omega)
  unfold stampText stampId stampEv
  simp
  omega

theorem stamp_join (l : List Int) : Ending.returned (.string (strOf (idText (anIdP l 8 0).1) ++ { data := #[59] } ++ strOf (evText (anEvP l 8 false (anIdP l 8 0).2).1))) = Ending.returned (.string (strOf (stampText l))) := by
  have e : ∀ c : UInt8, ({ data := #[c] } : ByteArray) = strOf [c] := fun _ => rfl
  rw [e, strOf_append, strOf_append]
  simp [stampText, stampId, stampEv]

set_option maxHeartbeats 800000 in
theorem aStamp_any (v : Value) (l : List Int) (w : World) (hs : Sl w.heap.size w v l) :
    Calls Tryd.prog 17 #[v] w fun e w' => e = .returned (.string (strOf (stampText l))) ∧ Below w.heap.size w w' := by
  have hv := hs.at_
  have A : Apart w.heap.size w (w.alloc (.cells #[v, .int .i64 0] 43)) := (Apart.refl _ _).alloc _
  have s1 := hs.apart (Nat.le_refl _) (Nat.le_refl _) A
  have z1 := A.size
  have h1 : Rw w.heap.size v 0 (w.alloc (.cells #[v, .int .i64 0] 43)) := heap_new w _
  have I1 := hide (anId_any w.heap.size w.heap.size v l (Nat.le_refl _) 8 (by omega) 0 _ s1 z1 h1 (by omega))
  have I2 := hide (fun w2 s2 z2 h2 => anEv_any w.heap.size w.heap.size v l (Nat.le_refl _) 8 (by omega) false (anIdP l 8 0).2 w2 s2 z2 h2 (anIdP_place l 8 0 (by omega)))
  have J := hide (stamp_join l)
  have q1 : (strOf (idText (anIdP l 8 0).1)).size ≤ 1021 := by rw [strOf_size]; exact anIdP_len8 l 8 0 (by omega)
  have q2 : (strOf (evText (anEvP l 8 false (anIdP l 8 0).2).1)).size ≤ 2042 := by rw [strOf_size]; exact anEvP_len8 l 8 false _ (by omega)
  obtain ⟨p, cap, rfl, _⟩ := hv
  generalize strOf (stampText l) = S at *
  generalize anEvP l 8 false (anIdP l 8 0).2 = o2 at *
  generalize anIdP l 8 0 = o1 at *
  generalize strOf (idText o1.1) = X at *
  generalize strOf (evText o2.1) = Y at *
  go_enter Tryd.func17, Tryd.ntmps17
  go_wp2_with fail
  refine (unhide I1).mono ?_
  rintro e w2 ⟨rfl, h2, a2⟩
  have s2 := s1.apart (Nat.le_refl _) z1 a2
  have z2 := Nat.le_trans z1 a2.size
  go_wp2_with fail
  refine (unhide I2 _ s2 z2 h2).mono ?_
  rintro e w3 ⟨rfl, h3, a3⟩
  go_wp2_with fail
  go_ret
  exact ⟨unhide J, ((A.trans a2).trans a3).below (Nat.le_refl _)⟩

set_option maxHeartbeats 400000 in
theorem fine_yes (s : ByteArray) (w : World) (hm : s.size ≤ maxLen) (h : chk s = (0, 0)) :
    Calls Tryd.prog 23 #[.string s] w fun e w' => e = .returned (.bool true) ∧ Below w.heap.size w w' := by
  have C := check_any s w hm
  rw [h] at C
  have C := hide C
  clear h
  go_enter Tryd.func23, Tryd.ntmps23
  go_wp2_with fail
  refine (unhide C).mono ?_
  rintro e w1 ⟨rfl, b1⟩
  go_wp2_with fail
  go_ret
  exact ⟨rfl, b1⟩

end Go.Proofs.YtoebmfhgaalcdaaDoor
