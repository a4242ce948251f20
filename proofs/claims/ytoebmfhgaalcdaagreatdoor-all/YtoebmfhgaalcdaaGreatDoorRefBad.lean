/-
  Our own. The document's calls at texts that are no stamps. (Laid by wip/mk/rbad.py.)
-/
import Derived.Test.YtoebmfhgaalcdaaGreatDoorRefCalls
namespace Go.Proofs.YtoebmfhgaalcdaaGreatDoor
open Go.RowKit

set_option maxHeartbeats 800000 in
theorem rPeek_bad {s : ByteArray} {e p : Nat} (hm : s.size ≤ maxLen) (f : readR s = .bad e p) (w : World) :
    Calls Tryz.prog 83 #[.string s] w fun o w' => o = .returned (.tuple #[.string { data := #[] }, .int .i64 (e : Nat)]) ∧ Below w.heap.size w w' := by
  have R := hide (rread_bad hm f w)
  have he := readR_errno f
  have he1 : ¬ (e : Int) = 0 := by omega
  clear f
  go_enter Tryz.func83, Tryz.ntmps83
  go_wp2_with fail
  refine (unhide R).mono ?_
  rintro o w1 ⟨rfl, b1⟩
  replace b1 := hide b1
  go_wp2_with fail
  go_ret2
  exact ⟨rfl, unhide b1⟩

set_option maxHeartbeats 800000 in
theorem rFork_bad {s : ByteArray} {e p : Nat} (hm : s.size ≤ maxLen) (f : readR s = .bad e p) (w : World) :
    Calls Tryz.prog 82 #[.string s] w fun o w' => o = .returned (.tuple #[.string { data := #[] }, .string { data := #[] }, .int .i64 (e : Nat)]) ∧ Below w.heap.size w w' := by
  have R := hide (rread_bad hm f w)
  have he := readR_errno f
  have he1 : ¬ (e : Int) = 0 := by omega
  clear f
  go_enter Tryz.func82, Tryz.ntmps82
  go_wp2_with fail
  refine (unhide R).mono ?_
  rintro o w1 ⟨rfl, b1⟩
  replace b1 := hide b1
  go_wp2_with fail
  go_ret3
  exact ⟨rfl, unhide b1⟩

set_option maxHeartbeats 800000 in
theorem rJoin_bad1 {s t : ByteArray} {e p : Nat} (hm : s.size ≤ maxLen) (f : readR s = .bad e p) (w : World) :
    Calls Tryz.prog 84 #[.string s, .string t] w fun o w' => o = .returned (.tuple #[.string { data := #[] }, .int .i64 (e : Nat)]) ∧ Below w.heap.size w w' := by
  have R := hide (rtwo_bad1 (t := t) hm f w)
  have he := readR_errno f
  have he1 : ¬ (e : Int) = 0 := by omega
  clear f
  go_enter Tryz.func84, Tryz.ntmps84
  go_wp2_with fail
  refine (unhide R).mono ?_
  rintro o w1 ⟨v, u, rfl, b1⟩
  replace b1 := hide b1
  go_wp2_with fail
  go_ret2
  exact ⟨rfl, unhide b1⟩

set_option maxHeartbeats 800000 in
theorem rJoin_bad2 {s t : ByteArray} {i1 : Tr Bool} {e1 : Tr Nat} {e p : Nat} (hs : s.size ≤ maxLen) (f : readR s = .ok i1 e1) (ht : t.size ≤ maxLen) (g : readR t = .bad e p) (w : World) :
    Calls Tryz.prog 84 #[.string s, .string t] w fun o w' => o = .returned (.tuple #[.string { data := #[] }, .int .i64 (e : Nat)]) ∧ Below w.heap.size w w' := by
  have R := hide (rtwo_bad2 hs f ht g w)
  have he := readR_errno g
  have he1 : ¬ (e : Int) = 0 := by omega
  clear f g
  go_enter Tryz.func84, Tryz.ntmps84
  go_wp2_with fail
  refine (unhide R).mono ?_
  rintro o w1 ⟨v, u, rfl, b1⟩
  replace b1 := hide b1
  go_wp2_with fail
  go_ret2
  exact ⟨rfl, unhide b1⟩

set_option maxHeartbeats 800000 in
theorem rLeq_bad1 {s t : ByteArray} {e p : Nat} (hm : s.size ≤ maxLen) (f : readR s = .bad e p) (w : World) :
    Calls Tryz.prog 86 #[.string s, .string t] w fun o w' => o = .returned (.tuple #[.bool false, .int .i64 (e : Nat)]) ∧ Below w.heap.size w w' := by
  have R := hide (rtwo_bad1 (t := t) hm f w)
  have he := readR_errno f
  have he1 : ¬ (e : Int) = 0 := by omega
  clear f
  go_enter Tryz.func86, Tryz.ntmps86
  go_wp2_with fail
  refine (unhide R).mono ?_
  rintro o w1 ⟨v, u, rfl, b1⟩
  replace b1 := hide b1
  go_wp2_with fail
  go_ret2
  exact ⟨rfl, unhide b1⟩

set_option maxHeartbeats 800000 in
theorem rLeq_bad2 {s t : ByteArray} {i1 : Tr Bool} {e1 : Tr Nat} {e p : Nat} (hs : s.size ≤ maxLen) (f : readR s = .ok i1 e1) (ht : t.size ≤ maxLen) (g : readR t = .bad e p) (w : World) :
    Calls Tryz.prog 86 #[.string s, .string t] w fun o w' => o = .returned (.tuple #[.bool false, .int .i64 (e : Nat)]) ∧ Below w.heap.size w w' := by
  have R := hide (rtwo_bad2 hs f ht g w)
  have he := readR_errno g
  have he1 : ¬ (e : Int) = 0 := by omega
  clear f g
  go_enter Tryz.func86, Tryz.ntmps86
  go_wp2_with fail
  refine (unhide R).mono ?_
  rintro o w1 ⟨v, u, rfl, b1⟩
  replace b1 := hide b1
  go_wp2_with fail
  go_ret2
  exact ⟨rfl, unhide b1⟩

set_option maxRecDepth 100000 in
set_option maxHeartbeats 800000 in
theorem rEvent_bad {s : ByteArray} {e p : Nat} (hm : s.size ≤ maxLen) (f : readR s = .bad e p) (w : World) :
    Calls Tryz.prog 40 #[.string s, .string { data := #[] }] w fun o w' => o = .returned (.tuple #[.int .i64 (e : Nat), .bool true]) ∧ Below w.heap.size w w' := by
  have R := hide (rread_bad hm f w)
  have he := readR_errno f
  have he1 : ¬ (e : Int) = 0 := by omega
  clear f
  go_enter Tryz.func40, Tryz.ntmps40
  go_wp2_with fail
  refine (unhide R).mono ?_
  rintro o w1 ⟨rfl, b1⟩
  replace b1 := hide b1
  go_wp2_with fail
  go_ret2
  exact ⟨rfl, unhide b1⟩

end Go.Proofs.YtoebmfhgaalcdaaGreatDoor
