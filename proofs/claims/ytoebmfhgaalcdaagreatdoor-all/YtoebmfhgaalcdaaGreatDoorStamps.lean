/-
  Our own. The calls at plain stamps that are told by their trees; what is plain stays plain.
-/
import Derived.Test.YtoebmfhgaalcdaaGreatDoorCalls2
namespace Go.Proofs.YtoebmfhgaalcdaaGreatDoor
open Go.RowKit

/-- The text of a stamp. -/
def tx (id : Tr Bool) (ev : Tr Nat) : ByteArray := strOf (wtext id ev)

theorem PT.size {id : Tr Bool} {ev : Tr Nat} (h : PT id ev) : (tx id ev).size ≤ maxLen := by
  have := h.len
  rw [tx, strOf_size]; unfold maxLen; omega
theorem PT.size20 {id : Tr Bool} {ev : Tr Nat} (h : PT id ev) : (tx id ev).size ≤ 8685 := by
  rw [tx, strOf_size]; exact h.len
theorem PT.none {id : Tr Bool} {ev : Tr Nat} (h : PT id ev) : PT (.leaf false) ev := ⟨trivial, Nat.zero_le _, h.pe, h.de, h.hi⟩
theorem PT.whole {id : Tr Bool} {ev : Tr Nat} (h : PT id ev) : PT (.leaf true) ev := ⟨trivial, Nat.zero_le _, h.pe, h.de, h.hi⟩

def orB (a b : Tr Bool) : Tr Bool := zip (fun x y => x || y) a b
def maxT (a b : Tr Nat) : Tr Nat := zip (fun x y => max x y) a b
def clash (a b : Tr Bool) : Bool := anyB (fun x y => x && y) a b

theorem orB_val (a b : Tr Bool) (p : Nat → Bool) : (orB a b).val p = (a.val p || b.val p) := zip_val _ a b p
theorem maxT_val (a b : Tr Nat) (p : Nat → Bool) : (maxT a b).val p = max (a.val p) (b.val p) := zip_val _ a b p
theorem clash_iff (a b : Tr Bool) : clash a b = true ↔ ∃ p, a.val p = true ∧ b.val p = true := by
  unfold clash; rw [anyB_iff]; simp
theorem clash_no (a b : Tr Bool) : clash a b = false ↔ ∀ p, a.val p = true → b.val p = false := by
  rw [Bool.eq_false_iff, ne_eq, clash_iff]
  constructor
  · intro h p h1
    cases h2 : b.val p with
    | true => exact absurd ⟨p, h1, h2⟩ h
    | false => rfl
  · rintro h ⟨p, h1, h2⟩
    rw [h p h1] at h2; cases h2

theorem PT.join {i1 i2 : Tr Bool} {e1 e2 : Tr Nat} (h : PT i1 e1) (g : PT i2 e2) : PT (orB i1 i2) (maxT e1 e2) := by
  refine ⟨zip_plain _ _ _, zip_deep _ _ _ 8 h.di g.di, zip_plain _ _ _, zip_deep _ _ _ 8 h.de g.de, highest_le _ _ fun p => ?_⟩
  rw [maxT_val]
  have := le_highest e1 p
  have := le_highest e2 p
  have := h.hi
  have := g.hi
  omega
theorem maxT_high (e1 e2 : Tr Nat) (n : Nat) (h1 : highest e1 ≤ n) (h2 : highest e2 ≤ n) : highest (maxT e1 e2) ≤ n := by
  refine highest_le _ _ fun p => ?_
  rw [maxT_val]
  have := le_highest e1 p
  have := le_highest e2 p
  omega
theorem maxT_comm {a b : Tr Nat} : maxT a b = maxT b a := val_ext (zip_plain _ _ _) (zip_plain _ _ _) fun p => by rw [maxT_val, maxT_val]; omega
theorem orB_comm {a b : Tr Bool} : orB a b = orB b a := val_ext (zip_plain _ _ _) (zip_plain _ _ _) fun p => by rw [orB_val, orB_val, Bool.or_comm]
theorem maxT_assoc {a b c : Tr Nat} : maxT (maxT a b) c = maxT a (maxT b c) := val_ext (zip_plain _ _ _) (zip_plain _ _ _) fun p => by rw [maxT_val, maxT_val, maxT_val, maxT_val]; omega
theorem maxT_self {a : Tr Nat} (h : plainT a) : maxT a a = a := val_ext (zip_plain _ _ _) h fun p => by rw [maxT_val]; omega
theorem none_or {a : Tr Bool} (h : plainT a) : orB (.leaf false) a = a := val_ext (zip_plain _ _ _) h fun p => by rw [orB_val, val_leaf, Bool.false_or]

/-- Stamps are told by their texts. -/
theorem tx_inj {i1 i2 : Tr Bool} {e1 e2 : Tr Nat} (h : PT i1 e1) (g : PT i2 e2) (e : tx i1 e1 = tx i2 e2) : i1 = i2 ∧ e1 = e2 := by
  have r1 := h.read
  have r2 := g.read
  unfold tx at e
  rw [e, r2] at r1
  injection r1 with r1
  injection r1 with r1
  injection r1 with h1 h2
  exact ⟨h1.symm, h2.symm⟩
theorem tx_same (i : Tr Bool) (e : Tr Nat) : ((tx i e).toList == (tx i e).toList) = true := by simp
theorem tx_diff {i1 i2 : Tr Bool} {e1 e2 : Tr Nat} (h : tx i1 e1 ≠ tx i2 e2) : ((tx i1 e1).toList == (tx i2 e2).toList) = false := str_diff fun e => h (by unfold tx; rw [e])

theorem peek_T {i : Tr Bool} {e : Tr Nat} (P : PT i e) (w : World) (T : Tab w) : Calls Tryz.prog 12 #[.string (tx i e)] w fun o w' => o = .returned (.tuple #[.string (tx (.leaf false) e), .int .i64 0]) ∧ Below w.heap.size w w' :=
  peek_ok P.size P.read P.none w T
theorem share_T {i : Tr Bool} {e : Tr Nat} (P : PT i e) (w : World) : Calls Tryz.prog 14 #[.string (tx i e)] w fun o w' => o = .returned (.tuple #[.int .i64 (shareP i 256 : Nat), .int .i64 0]) ∧ Below w.heap.size w w' :=
  share_ok P.size P.read w
theorem leq_T {i1 i2 : Tr Bool} {e1 e2 : Tr Nat} (P : PT i1 e1) (Q : PT i2 e2) (w : World) : Calls Tryz.prog 16 #[.string (tx i1 e1), .string (tx i2 e2)] w fun o w' => o = .returned (.tuple #[.bool (atMostP e1 e2), .int .i64 0]) ∧ Below w.heap.size w w' :=
  leq_ok P.size Q.size P.read Q.read w
theorem join_T {i1 i2 : Tr Bool} {e1 e2 : Tr Nat} (P : PT i1 e1) (Q : PT i2 e2) (h : clash i1 i2 = false) (w : World) (T : Tab w) :
    Calls Tryz.prog 13 #[.string (tx i1 e1), .string (tx i2 e2)] w fun o w' => o = .returned (.tuple #[.string (tx (orB i1 i2) (maxT e1 e2)), .int .i64 0]) ∧ Below w.heap.size w w' :=
  join_ok P.size Q.size P.read Q.read h (P.join Q) w T
theorem clash_T {i1 i2 : Tr Bool} {e1 e2 : Tr Nat} (P : PT i1 e1) (Q : PT i2 e2) (h : clash i1 i2 = true) (w : World) :
    Calls Tryz.prog 13 #[.string (tx i1 e1), .string (tx i2 e2)] w fun o w' => o = .returned (.tuple #[.string { data := #[] }, .int .i64 5]) ∧ Below w.heap.size w w' :=
  join_clash P.size Q.size P.read Q.read h w
theorem few_T {i : Tr Bool} {e : Tr Nat} (P : PT i e) (h : shareP i 256 ≤ 1) (w : World) :
    Calls Tryz.prog 11 #[.string (tx i e)] w fun o w' => o = .returned (.tuple #[.string { data := #[] }, .string { data := #[] }, .int .i64 (if shareP i 256 = 0 then 4 else 6)]) ∧ Below w.heap.size w w' :=
  fork_few P.size P.read h w
theorem PT.cut {i : Tr Bool} {e : Tr Nat} (P : PT i e) (h : 2 ≤ shareP i 256) : PT (cutP i).1 e ∧ PT (cutP i).2 e ∧ CutInto 8 i (cutP i).1 (cutP i).2 := by
  have C := cut_into i 8 P.di P.pi h
  exact ⟨⟨C.pa, C.da, P.pe, P.de, P.hi⟩, ⟨C.pb, C.db, P.pe, P.de, P.hi⟩, C⟩
theorem fork_T {i : Tr Bool} {e : Tr Nat} (P : PT i e) (h : 2 ≤ shareP i 256) (w : World) (T : Tab w) :
    Calls Tryz.prog 11 #[.string (tx i e)] w fun o w' => o = .returned (.tuple #[.string (tx (cutP i).1 e), .string (tx (cutP i).2 e), .int .i64 0]) ∧ Below w.heap.size w w' :=
  fork_ok P.size P.read h (P.cut h).1 (P.cut h).2.1 w T

end Go.Proofs.YtoebmfhgaalcdaaGreatDoor
