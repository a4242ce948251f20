/-
  Our own. The program's calls and the document's, of any texts: one answer.
-/
import Derived.Test.YtoebmfhgaalcdaaGreatDoorRefForkAll
import Derived.Test.YtoebmfhgaalcdaaGreatDoorRefBad
import Derived.Test.YtoebmfhgaalcdaaGreatDoorStamps
namespace Go.Proofs.YtoebmfhgaalcdaaGreatDoor
open Go.RowKit

theorem tx_small {id : Tr Bool} {ev : Tr Nat} (P : PT id ev) : (tx id ev).size ≤ 20000 := by have := P.size20; omega
theorem empty_small : ({ data := #[] } : ByteArray).size ≤ 20000 := Nat.zero_le _

theorem fork_both (s : ByteArray) (hm : s.size ≤ maxLen) : ∃ (A B : ByteArray) (cd : Int), A.size ≤ 20000 ∧ B.size ≤ 20000 ∧
    (∀ w, Tab w → Calls Tryz.prog 11 #[.string s] w fun o w' => o = .returned (.tuple #[.string A, .string B, .int .i64 cd]) ∧ Below w.heap.size w w') ∧
    (∀ w, Calls Tryz.prog 82 #[.string s] w fun o w' => o = .returned (.tuple #[.string A, .string B, .int .i64 cd]) ∧ Below w.heap.size w w') := by
  cases f : readR s using Rd1.cs with
  | bad e p => exact ⟨_, _, _, empty_small, empty_small, fun w _ => fork_bad hm f w, fun w => rFork_bad hm f w⟩
  | ok id ev =>
    have P := (readR_inv f).1
    by_cases h : shareP id 256 ≤ 1
    · exact ⟨_, _, _, empty_small, empty_small, fun w _ => fork_few hm f h w, fun w => rFork_few hm f h w⟩
    · have h2 : 2 ≤ shareP id 256 := by omega
      obtain ⟨Pa, Pb, _⟩ := P.cut h2
      exact ⟨_, _, _, tx_small Pa, tx_small Pb, fun w T => fork_ok hm f h2 Pa Pb w T, fun w => rFork_ok hm f h2 w⟩

theorem peek_both (s : ByteArray) (hm : s.size ≤ maxLen) : ∃ (A : ByteArray) (cd : Int), A.size ≤ 20000 ∧
    (∀ w, Tab w → Calls Tryz.prog 12 #[.string s] w fun o w' => o = .returned (.tuple #[.string A, .int .i64 cd]) ∧ Below w.heap.size w w') ∧
    (∀ w, Calls Tryz.prog 83 #[.string s] w fun o w' => o = .returned (.tuple #[.string A, .int .i64 cd]) ∧ Below w.heap.size w w') := by
  cases f : readR s using Rd1.cs with
  | bad e p => exact ⟨_, _, empty_small, fun w _ => peek_bad hm f w, fun w => rPeek_bad hm f w⟩
  | ok id ev =>
    have P := (readR_inv f).1
    exact ⟨_, _, tx_small P.none, fun w T => peek_ok hm f P.none w T, fun w => rPeek_ok hm f w⟩

theorem join_both (s t : ByteArray) (hm : s.size ≤ maxLen) (ht : t.size ≤ maxLen) : ∃ (A : ByteArray) (cd : Int), A.size ≤ 20000 ∧
    (∀ w, Tab w → Calls Tryz.prog 13 #[.string s, .string t] w fun o w' => o = .returned (.tuple #[.string A, .int .i64 cd]) ∧ Below w.heap.size w w') ∧
    (∀ w, Calls Tryz.prog 84 #[.string s, .string t] w fun o w' => o = .returned (.tuple #[.string A, .int .i64 cd]) ∧ Below w.heap.size w w') := by
  cases f : readR s using Rd1.cs with
  | bad e p => exact ⟨_, _, empty_small, fun w _ => join_bad1 hm f w, fun w => rJoin_bad1 hm f w⟩
  | ok i1 e1 =>
    cases g : readR t using Rd1.cs with
    | bad e p => exact ⟨_, _, empty_small, fun w _ => join_bad2 hm f ht g w, fun w => rJoin_bad2 hm f ht g w⟩
    | ok i2 e2 =>
      have PJ := (readR_inv f).1.join (readR_inv g).1
      have R := fun w => rJoin_ok hm ht f g w
      by_cases hc : clash i1 i2 = true
      · rw [if_pos hc, if_pos hc] at R
        exact ⟨_, _, empty_small, fun w _ => join_clash hm ht f g hc w, R⟩
      · rw [if_neg hc, if_neg hc] at R
        have hc2 : clash i1 i2 = false := by simpa using hc
        exact ⟨_, _, tx_small PJ, fun w T => join_ok hm ht f g hc2 PJ w T, R⟩

theorem share_both (s : ByteArray) (hm : s.size ≤ maxLen) : ∃ n cd : Int,
    (∀ w, Calls Tryz.prog 14 #[.string s] w fun o w' => o = .returned (.tuple #[.int .i64 n, .int .i64 cd]) ∧ Below w.heap.size w w') ∧
    (∀ w, Calls Tryz.prog 85 #[.string s] w fun o w' => o = .returned (.tuple #[.int .i64 n, .int .i64 cd]) ∧ Below w.heap.size w w') := by
  cases f : readR s using Rd1.cs with
  | bad e p => exact ⟨_, _, fun w => share_bad hm f w, fun w => rShares_bad hm f w⟩
  | ok id ev => exact ⟨_, _, fun w => share_ok hm f w, fun w => rShares_ok hm f w⟩

theorem leq_both (s t : ByteArray) (hm : s.size ≤ maxLen) (ht : t.size ≤ maxLen) : ∃ (A : Bool) (cd : Int),
    (∀ w, Calls Tryz.prog 16 #[.string s, .string t] w fun o w' => o = .returned (.tuple #[.bool A, .int .i64 cd]) ∧ Below w.heap.size w w') ∧
    (∀ w, Calls Tryz.prog 86 #[.string s, .string t] w fun o w' => o = .returned (.tuple #[.bool A, .int .i64 cd]) ∧ Below w.heap.size w w') := by
  cases f : readR s using Rd1.cs with
  | bad e p => exact ⟨_, _, fun w => leq_bad1 hm f w, fun w => rLeq_bad1 hm f w⟩
  | ok i1 e1 =>
    cases g : readR t using Rd1.cs with
    | bad e p => exact ⟨_, _, fun w => leq_bad2 hm f ht g w, fun w => rLeq_bad2 hm f ht g w⟩
    | ok i2 e2 => exact ⟨_, _, fun w => leq_ok hm ht f g w, fun w => rLeq_ok hm ht f g w⟩

theorem check_both (s : ByteArray) (hm : s.size ≤ maxLen) : ∃ cd pl : Int,
    (∀ w, Calls Tryz.prog 10 #[.string s] w fun o w' => o = .returned (.tuple #[.int .i64 cd, .int .i64 pl]) ∧ Below w.heap.size w w') ∧
    (∀ w, Calls Tryz.prog 38 #[.string s] w fun o w' => ∃ v, o = .returned (.tuple #[v, .int .i64 cd, .int .i64 pl]) ∧ Below w.heap.size w w') := by
  have C := fun w => check_any s w hm
  cases f : readR s using Rd1.cs with
  | bad e p =>
    rw [chk_of_bad f] at C
    exact ⟨_, _, C, fun w => (rread_bad hm f w).mono fun o w' ⟨h1, h2⟩ => ⟨_, h1, h2⟩⟩
  | ok id ev =>
    rw [chk_of_ok f] at C
    exact ⟨_, _, C, fun w => (rread_ok hm f w).mono fun o w' ⟨b, h1, _, _, h2⟩ => ⟨_, h1, h2⟩⟩

end Go.Proofs.YtoebmfhgaalcdaaGreatDoor
