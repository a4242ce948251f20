/-
  Our own. The reader's ev: what a call does, of any text, from any place.
-/
import Derived.Test.YtoebmfhgaalcdaaDoorWalkId
namespace Go.Proofs.YtoebmfhgaalcdaaDoor
open Go.RowKit

/-- What a call of ev leaves. -/
def EvEnd (b : Nat) (s : ByteArray) (w : World) (o : Rs (Tr Nat × Nat)) (e : Ending) (w' : World) : Prop :=
  match o with
  | ⟨.inl ((t, n), j, r)⟩ => ∃ v, e = .returned (.tuple #[v, .int .i64 n]) ∧ TI w' v t ∧ Rd b s j r w' ∧ j ≤ s.size ∧ Apart b w w'
  | ⟨.inr j⟩ => e = .panicked (thrown 2 j) ∧ Apart b w w'

theorem TI.leaf (w : World) (a : Nat) : TI (w.alloc (.cells #[.int .i64 a, .pointer none, .pointer none] 115)) (.pointer (some ⟨w.heap.size, 0, none⟩)) (.leaf a) :=
  ⟨_, rfl, heap_new w _⟩
theorem TI.pair {w : World} {p q : Option Addr} {l t : Tr Nat} (hl : TI w (.pointer p) l) (ht : TI w (.pointer q) t) :
    TI (w.alloc (.cells #[.int .i64 0, .pointer p, .pointer q] 115)) (.pointer (some ⟨w.heap.size, 0, none⟩)) (.pair l t) :=
  ⟨_, _, _, rfl, heap_new w _, TI.below ((Below.refl _ _).alloc (Nat.le_refl _) _) hl, TI.below ((Below.refl _ _).alloc (Nat.le_refl _) _) ht⟩

set_option maxHeartbeats 400000 in
theorem ev_num (b : Nat) (s : ByteArray) (i r k base : Nat) (w : World) (h : Rd b s i r w) (hs : s.size ≤ 20000) (hi : i ≤ s.size) (hb : base ≤ 109951162777600) (hc : nx s i ≠ 40) :
    Calls Tryd.prog 76 #[.pointer (some ⟨b, 0, none⟩), .int .i64 k, .int .i64 base] w fun e w' => EvEnd b s w (evR s k base i r) e w' := by
  have he : ((nx s i : Int) != 40) = true := by rw [bne_iff_ne]; omega
  cases f : numR s i using Nm.cs with
  | bad j =>
    have HF : Hid (evR s k base i r = .bad j) := evR_numbad k hc f
    have NM := fun w1 (h1 : Rd b s i r w1) => num_any b s i r w1 h1 hs hi
    rw [f] at NM
    have NM := hide NM
    clear f hc
    go_enter Tryd.func76, Tryd.ntmps76
    go_wp2_with fail
    refine (next_k b s i r _ h hi).mono ?_
    rintro e w1 ⟨rfl, h1, a1⟩
    go_wp2_with fail
    refine (unhide NM _ h1).mono ?_
    rintro e w2 ⟨rfl, a2⟩
    refine ⟨rfl, ?_⟩
    rw [HF.out]
    exact ⟨rfl, a1.trans a2⟩
  | ok n j =>
    have HF : Hid (evR s k base i r = .ok (.leaf (base + n), n) j r) := evR_num k hc f
    obtain ⟨n1, n2, n3⟩ := numR_ok hi f
    have NM := fun w1 (h1 : Rd b s i r w1) => num_any b s i r w1 h1 hs hi
    rw [f] at NM
    have NM := hide NM
    clear f hc
    go_enter Tryd.func76, Tryd.ntmps76
    go_wp2_with fail
    refine (next_k b s i r _ h hi).mono ?_
    rintro e w1 ⟨rfl, h1, a1⟩
    go_wp2_with fail
    refine (unhide NM _ h1).mono ?_
    rintro e w2 ⟨rfl, h2, a2⟩
    go_wp2_with fail
    refine (leafI_any _ _).mono ?_
    rintro e w3 ⟨rfl, rfl⟩
    go_wp2_with fail
    go_ret2
    rw [HF.out]
    exact ⟨_, rfl, TI.leaf w2 (base + n), h2.alloc _, n3, (a1.trans a2).alloc _⟩

set_option maxHeartbeats 400000 in
theorem ev_deep (b : Nat) (s : ByteArray) (i r : Nat) (base : Int) (w : World) (h : Rd b s i r w) (hi : i ≤ s.size) (hc : nx s i = 40) :
    Calls Tryd.prog 76 #[.pointer (some ⟨b, 0, none⟩), .int .i64 0, .int .i64 base] w fun e w' => EvEnd b s w (.bad i) e w' := by
  have he : ((nx s i : Int) != 40) = false := by rw [bne_eq_false_iff_eq]; omega
  clear hc
  go_enter Tryd.func76, Tryd.ntmps76
  go_wp2_with fail
  refine (next_k b s i r _ h hi).mono ?_
  rintro e w1 ⟨rfl, h1, a1⟩
  go_wp2_with fail
  refine (open_none b s i r _ h1).mono ?_
  rintro e w2 ⟨rfl, a2⟩
  exact ⟨rfl, rfl, a1.trans a2⟩

end Go.Proofs.YtoebmfhgaalcdaaDoor
