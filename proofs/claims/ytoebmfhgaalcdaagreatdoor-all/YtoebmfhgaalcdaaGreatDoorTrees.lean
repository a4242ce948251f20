/-
  Our own. Trees in memory, and what the functions of package tree do.
-/
import Derived.Test.YtoebmfhgaalcdaaGreatDoorWalk1
import Derived.Test.YtoebmfhgaalcdaaGreatDoorPlain
import Derived.Deep.RegionWith
namespace Go.Proofs.YtoebmfhgaalcdaaGreatDoor
open Go.RowKit

/-- A tree lies in memory: every node in a block of its own type. -/
def TA {α : Type} (enc : α → Value) (zero : Value) (ty : Nat) (w : World) : Value → Tr α → Prop
  | v, ⟨.inl a⟩ => ∃ k, v = .pointer (some ⟨k, 0, none⟩) ∧ w.heap[k]? = some (.cells #[enc a, .pointer none, .pointer none] ty)
  | v, ⟨.inr (l, r)⟩ => ∃ k vl vr, v = .pointer (some ⟨k, 0, none⟩) ∧ w.heap[k]? = some (.cells #[zero, vl, vr] ty) ∧ TA enc zero ty w vl l ∧ TA enc zero ty w vr r

/-- IDs, EVs. -/
def TB : World → Value → Tr Bool → Prop := TA (fun b => .bool b) (.bool false) 92
def TI : World → Value → Tr Nat → Prop := TA (fun n => .int .i64 (n : Int)) (.int .i64 0) 139

theorem TA.keep {α : Type} {enc : α → Value} {zero : Value} {ty : Nat} {w w' : World} (h : ∀ (k : Nat) (c : Array Value), w.heap[k]? = some (Obj.cells c ty) → w'.heap[k]? = some (Obj.cells c ty)) :
    ∀ (t : Tr α) (v : Value), TA enc zero ty w v t → TA enc zero ty w' v t
  | ⟨.inl _⟩, _, ⟨k, e, hk⟩ => ⟨k, e, h k _ hk⟩
  | ⟨.inr (l, r)⟩, _, ⟨k, vl, vr, e, hk, hl, hr⟩ => ⟨k, vl, vr, e, h k _ hk, TA.keep h l vl hl, TA.keep h r vr hr⟩

theorem TA.root {α : Type} {enc : α → Value} {zero : Value} {ty : Nat} {w : World} {t : Tr α} {v : Value} (h : TA enc zero ty w v t) : ∃ k, v = .pointer (some ⟨k, 0, none⟩) := by
  cases t using Tr.cs with
  | leaf a => obtain ⟨k, e, _⟩ := h; exact ⟨k, e⟩
  | pair l r => obtain ⟨k, _, _, e, _⟩ := h; exact ⟨k, e⟩

/-- Whatever keeps all blocks but the reader's keeps trees. -/
theorem keeps_of_apart {b : Nat} {s : ByteArray} {i r : Nat} {w w' : World} (hr : Rd b s i r w) (ha : Apart b w w') {ty : Nat} (hty : ty ≠ 135) (k : Nat) (c : Array Value) (h : w.heap[k]? = some (.cells c ty)) :
    w'.heap[k]? = some (.cells c ty) := by
  rw [ha.block k (lt_of_heap h) ?_]
  · exact h
  · rintro rfl
    unfold Rd rdObj at hr
    rw [hr] at h
    injection h with h
    injection h with h1 h2
    exact hty h2.symm

theorem TB.apart {b : Nat} {s : ByteArray} {i r : Nat} {w w' : World} (hr : Rd b s i r w) (ha : Apart b w w') {v : Value} {t : Tr Bool} (h : TB w v t) : TB w' v t :=
  TA.keep (keeps_of_apart hr ha (by decide)) t v h
theorem TI.apart {b : Nat} {s : ByteArray} {i r : Nat} {w w' : World} (hr : Rd b s i r w) (ha : Apart b w w') {v : Value} {t : Tr Nat} (h : TI w v t) : TI w' v t :=
  TA.keep (keeps_of_apart hr ha (by decide)) t v h

theorem keeps_of_below {w w' : World} (ha : Below w.heap.size w w') {ty : Nat} (k : Nat) (c : Array Value) (h : w.heap[k]? = some (.cells c ty)) : w'.heap[k]? = some (.cells c ty) :=
  (ha.block k (lt_of_heap h)).trans h
theorem TB.below {w w' : World} (ha : Below w.heap.size w w') {v : Value} {t : Tr Bool} (h : TB w v t) : TB w' v t := TA.keep (keeps_of_below ha) t v h
theorem TI.below {w w' : World} (ha : Below w.heap.size w w') {v : Value} {t : Tr Nat} (h : TI w v t) : TI w' v t := TA.keep (keeps_of_below ha) t v h

theorem TI.drewN {w : World} {v : Value} {t : Tr Nat} (h : TI w v t) (n : Nat) : TI (w.drewN n) v t := TI.below (w := w) (w' := w.drewN n) ⟨rfl, rfl, rfl, Nat.le_refl _, fun _ _ => rfl⟩ h
theorem TB.drewN {w : World} {v : Value} {t : Tr Bool} (h : TB w v t) (n : Nat) : TB (w.drewN n) v t := TB.below (w := w) (w' := w.drewN n) ⟨rfl, rfl, rfl, Nat.le_refl _, fun _ _ => rfl⟩ h

theorem cells3 {w : World} {k : Nat} {x y z : Value} {ty : Nat} (h : w.heap[k]? = some (.cells #[x, y, z] ty)) :
    w.cell? ⟨k, 0, none⟩ = some x ∧ w.cell? ⟨k, 1, none⟩ = some y ∧ w.cell? ⟨k, 2, none⟩ = some z := by
  refine ⟨?_, ?_, ?_⟩ <;> simp [World.cell?, h]

set_option maxHeartbeats 400000 in
theorem leafB_any (a : Bool) (w : World) :
    Calls Tryz.prog 53 #[.bool a] w fun e w' => e = .returned (.pointer (some ⟨w.heap.size, 0, none⟩)) ∧ w' = w.alloc (.cells #[.bool a, .pointer none, .pointer none] 92) := by
  go_enter Tryz.func53, Tryz.ntmps53
  go_wp2_with fail
  go_ret
  exact ⟨rfl, rfl⟩

set_option maxHeartbeats 400000 in
theorem leafI_any (a : Int) (w : World) :
    Calls Tryz.prog 107 #[.int .i64 a] w fun e w' => e = .returned (.pointer (some ⟨w.heap.size, 0, none⟩)) ∧ w' = w.alloc (.cells #[.int .i64 a, .pointer none, .pointer none] 139) := by
  go_enter Tryz.func107, Tryz.ntmps107
  go_wp2_with fail
  go_ret
  exact ⟨rfl, rfl⟩

set_option maxHeartbeats 400000 in
theorem pairB_any (p q : Option Addr) (w : World) :
    Calls Tryz.prog 49 #[.pointer p, .pointer q] w fun e w' => e = .returned (.pointer (some ⟨w.heap.size, 0, none⟩)) ∧ w' = w.alloc (.cells #[.bool false, .pointer p, .pointer q] 92) := by
  go_enter Tryz.func49, Tryz.ntmps49
  go_wp2_with fail
  go_ret
  exact ⟨rfl, rfl⟩

set_option maxHeartbeats 400000 in
theorem pairI_any (p q : Option Addr) (w : World) :
    Calls Tryz.prog 109 #[.pointer p, .pointer q] w fun e w' => e = .returned (.pointer (some ⟨w.heap.size, 0, none⟩)) ∧ w' = w.alloc (.cells #[.int .i64 0, .pointer p, .pointer q] 139) := by
  go_enter Tryz.func109, Tryz.ntmps109
  go_wp2_with fail
  go_ret
  exact ⟨rfl, rfl⟩

set_option maxHeartbeats 400000 in
theorem isLeafB_yes (k : Nat) (w : World) (h : w.cell? ⟨k, 1, none⟩ = some (.pointer none)) :
    Calls Tryz.prog 48 #[.pointer (some ⟨k, 0, none⟩)] w fun e w' => e = .returned (.bool true) ∧ w' = w := by
  go_enter Tryz.func48, Tryz.ntmps48
  go_wp2_with fail
  go_ret
  exact ⟨rfl, rfl⟩

set_option maxHeartbeats 400000 in
theorem isLeafB_no (k j : Nat) (w : World) (h : w.cell? ⟨k, 1, none⟩ = some (.pointer (some ⟨j, 0, none⟩))) :
    Calls Tryz.prog 48 #[.pointer (some ⟨k, 0, none⟩)] w fun e w' => e = .returned (.bool false) ∧ w' = w := by
  go_enter Tryz.func48, Tryz.ntmps48
  go_wp2_with fail
  go_ret
  exact ⟨rfl, rfl⟩

set_option maxHeartbeats 400000 in
theorem isLeafI_yes (k : Nat) (w : World) (h : w.cell? ⟨k, 1, none⟩ = some (.pointer none)) :
    Calls Tryz.prog 103 #[.pointer (some ⟨k, 0, none⟩)] w fun e w' => e = .returned (.bool true) ∧ w' = w := by
  go_enter Tryz.func103, Tryz.ntmps103
  go_wp2_with fail
  go_ret
  exact ⟨rfl, rfl⟩

set_option maxHeartbeats 400000 in
theorem isLeafI_no (k j : Nat) (w : World) (h : w.cell? ⟨k, 1, none⟩ = some (.pointer (some ⟨j, 0, none⟩))) :
    Calls Tryz.prog 103 #[.pointer (some ⟨k, 0, none⟩)] w fun e w' => e = .returned (.bool false) ∧ w' = w := by
  go_enter Tryz.func103, Tryz.ntmps103
  go_wp2_with fail
  go_ret
  exact ⟨rfl, rfl⟩

set_option maxHeartbeats 800000 in
theorem sameB_leaves (k j : Nat) (a b : Bool) (w : World) (hk : w.heap[k]? = some (.cells #[.bool a, .pointer none, .pointer none] 92)) (hj : w.heap[j]? = some (.cells #[.bool b, .pointer none, .pointer none] 92)) :
    Calls Tryz.prog 105 #[.pointer (some ⟨k, 0, none⟩), .pointer (some ⟨j, 0, none⟩)] w fun e w' => e = .returned (.bool (a == b)) ∧ ∃ n, w' = w.drewN n := by
  obtain ⟨k0, k1, _⟩ := cells3 hk
  obtain ⟨j0, j1, _⟩ := cells3 hj
  clear hk hj
  go_enter Tryz.func105, Tryz.ntmps105
  go_wp2_with fail
  go_quiet (first
    | (go_at_call_of 48 (Value.pointer (some (Addr.mk k 0 none))); exact Calls.quiet_of_same (isLeafB_yes k _ k1))
    | (go_at_call_of 48 (Value.pointer (some (Addr.mk j 0 none))); exact Calls.quiet_of_same (isLeafB_yes j _ j1)))
  go_wp2_with fail
  go_ret
  exact ⟨rfl, nq, rfl⟩

set_option maxHeartbeats 800000 in
theorem sameB_first (k j m : Nat) (x y : Value) (w : World) (hk : w.heap[k]? = some (.cells #[x, .pointer (some ⟨m, 0, none⟩), y] 92)) :
    Calls Tryz.prog 105 #[.pointer (some ⟨k, 0, none⟩), .pointer (some ⟨j, 0, none⟩)] w fun e w' => e = .returned (.bool false) ∧ ∃ n, w' = w.drewN n := by
  obtain ⟨k0, k1, _⟩ := cells3 hk
  clear hk
  go_enter Tryz.func105, Tryz.ntmps105
  go_wp2_with fail
  go_quiet (first
    | (go_at_call_of 48 (Value.pointer (some (Addr.mk k 0 none))); exact Calls.quiet_of_same (isLeafB_no k m _ k1)))
  go_wp2_with fail
  go_ret
  exact ⟨rfl, nq, rfl⟩

set_option maxHeartbeats 800000 in
theorem sameB_second (k j m : Nat) (x y z : Value) (w : World) (hk : w.heap[k]? = some (.cells #[z, .pointer none, .pointer none] 92)) (hj : w.heap[j]? = some (.cells #[x, .pointer (some ⟨m, 0, none⟩), y] 92)) :
    Calls Tryz.prog 105 #[.pointer (some ⟨k, 0, none⟩), .pointer (some ⟨j, 0, none⟩)] w fun e w' => e = .returned (.bool false) ∧ ∃ n, w' = w.drewN n := by
  obtain ⟨k0, k1, _⟩ := cells3 hk
  obtain ⟨j0, j1, _⟩ := cells3 hj
  clear hk hj
  go_enter Tryz.func105, Tryz.ntmps105
  go_wp2_with fail
  go_quiet (first
    | (go_at_call_of 48 (Value.pointer (some (Addr.mk j 0 none))); exact Calls.quiet_of_same (isLeafB_no j m _ j1))
    | (go_at_call_of 48 (Value.pointer (some (Addr.mk k 0 none))); exact Calls.quiet_of_same (isLeafB_yes k _ k1)))
  go_wp2_with fail
  go_ret
  exact ⟨rfl, nq, rfl⟩

set_option maxHeartbeats 800000 in
theorem sameI_leaves (k j : Nat) (a b : Int) (w : World) (hk : w.heap[k]? = some (.cells #[.int .i64 a, .pointer none, .pointer none] 139)) (hj : w.heap[j]? = some (.cells #[.int .i64 b, .pointer none, .pointer none] 139)) :
    Calls Tryz.prog 108 #[.pointer (some ⟨k, 0, none⟩), .pointer (some ⟨j, 0, none⟩)] w fun e w' => e = .returned (.bool (a == b)) ∧ ∃ n, w' = w.drewN n := by
  obtain ⟨k0, k1, _⟩ := cells3 hk
  obtain ⟨j0, j1, _⟩ := cells3 hj
  clear hk hj
  go_enter Tryz.func108, Tryz.ntmps108
  go_wp2_with fail
  go_quiet (first
    | (go_at_call_of 103 (Value.pointer (some (Addr.mk k 0 none))); exact Calls.quiet_of_same (isLeafI_yes k _ k1))
    | (go_at_call_of 103 (Value.pointer (some (Addr.mk j 0 none))); exact Calls.quiet_of_same (isLeafI_yes j _ j1)))
  go_wp2_with fail
  go_ret
  exact ⟨rfl, nq, rfl⟩

set_option maxHeartbeats 800000 in
theorem sameI_first (k j m : Nat) (x y : Value) (w : World) (hk : w.heap[k]? = some (.cells #[x, .pointer (some ⟨m, 0, none⟩), y] 139)) :
    Calls Tryz.prog 108 #[.pointer (some ⟨k, 0, none⟩), .pointer (some ⟨j, 0, none⟩)] w fun e w' => e = .returned (.bool false) ∧ ∃ n, w' = w.drewN n := by
  obtain ⟨k0, k1, _⟩ := cells3 hk
  clear hk
  go_enter Tryz.func108, Tryz.ntmps108
  go_wp2_with fail
  go_quiet (first
    | (go_at_call_of 103 (Value.pointer (some (Addr.mk k 0 none))); exact Calls.quiet_of_same (isLeafI_no k m _ k1)))
  go_wp2_with fail
  go_ret
  exact ⟨rfl, nq, rfl⟩

set_option maxHeartbeats 800000 in
theorem sameI_second (k j m : Nat) (x y z : Value) (w : World) (hk : w.heap[k]? = some (.cells #[z, .pointer none, .pointer none] 139)) (hj : w.heap[j]? = some (.cells #[x, .pointer (some ⟨m, 0, none⟩), y] 139)) :
    Calls Tryz.prog 108 #[.pointer (some ⟨k, 0, none⟩), .pointer (some ⟨j, 0, none⟩)] w fun e w' => e = .returned (.bool false) ∧ ∃ n, w' = w.drewN n := by
  obtain ⟨k0, k1, _⟩ := cells3 hk
  obtain ⟨j0, j1, _⟩ := cells3 hj
  clear hk hj
  go_enter Tryz.func108, Tryz.ntmps108
  go_wp2_with fail
  go_quiet (first
    | (go_at_call_of 103 (Value.pointer (some (Addr.mk j 0 none))); exact Calls.quiet_of_same (isLeafI_no j m _ j1))
    | (go_at_call_of 103 (Value.pointer (some (Addr.mk k 0 none))); exact Calls.quiet_of_same (isLeafI_yes k _ k1)))
  go_wp2_with fail
  go_ret
  exact ⟨rfl, nq, rfl⟩

/-- SameLeaves, of any two trees that lie there. -/
theorem sameB_any (w : World) (v u : Value) (l t : Tr Bool) (hl : TB w v l) (ht : TB w u t) :
    Calls Tryz.prog 105 #[v, u] w fun e w' => e = .returned (.bool (sameB l t)) ∧ ∃ n, w' = w.drewN n := by
  cases l using Tr.cs with
  | pair a b =>
    obtain ⟨k, va, vb, rfl, hk, ha, _⟩ := hl
    obtain ⟨m, rfl⟩ := ha.root
    obtain ⟨j, rfl⟩ := TA.root ht
    exact sameB_first k j m _ _ w hk
  | leaf a =>
    obtain ⟨k, rfl, hk⟩ := hl
    cases t using Tr.cs with
    | leaf b =>
      obtain ⟨j, rfl, hj⟩ := ht
      exact sameB_leaves k j a b w hk hj
    | pair c d =>
      obtain ⟨j, va, vb, rfl, hj, ha, _⟩ := ht
      obtain ⟨m, rfl⟩ := ha.root
      exact sameB_second k j m _ _ _ w hk hj

theorem sameI_any (w : World) (v u : Value) (l t : Tr Nat) (hl : TI w v l) (ht : TI w u t) :
    Calls Tryz.prog 108 #[v, u] w fun e w' => e = .returned (.bool (sameI l t)) ∧ ∃ n, w' = w.drewN n := by
  cases l using Tr.cs with
  | pair a b =>
    obtain ⟨k, va, vb, rfl, hk, ha, _⟩ := hl
    obtain ⟨m, rfl⟩ := ha.root
    obtain ⟨j, rfl⟩ := TA.root ht
    exact sameI_first k j m _ _ w hk
  | leaf a =>
    obtain ⟨k, rfl, hk⟩ := hl
    cases t using Tr.cs with
    | leaf b =>
      obtain ⟨j, rfl, hj⟩ := ht
      have e : sameI (.leaf a) (.leaf b) = ((a : Int) == (b : Int)) := by
        show (a == b) = _
        rw [Bool.eq_iff_iff]; simp only [beq_iff_eq]; omega
      rw [e]
      exact sameI_leaves k j a b w hk hj
    | pair c d =>
      obtain ⟨j, va, vb, rfl, hj, ha, _⟩ := ht
      obtain ⟨m, rfl⟩ := ha.root
      exact sameI_second k j m _ _ _ w hk hj

end Go.Proofs.YtoebmfhgaalcdaaGreatDoor
