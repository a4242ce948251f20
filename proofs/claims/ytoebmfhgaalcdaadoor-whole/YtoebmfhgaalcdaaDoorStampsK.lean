/-
  Our own. Stamps that are made of raw numbers.
-/
import Derived.Test.YtoebmfhgaalcdaaDoorStamps
import Derived.Test.YtoebmfhgaalcdaaDoorKeepStamp
namespace Go.Proofs.YtoebmfhgaalcdaaDoor
open Go.RowKit

/-- What is made of raw numbers. -/
theorem stamp_tx (l : List Int) : strOf (stampText l) = tx (stampId l) (evTree 0 (stampEv l)) ∧ PT (stampId l) (evTree 0 (stampEv l)) := by
  have G := (stamp_good l).toPT
  refine ⟨?_, G.1⟩
  rw [tx, G.2]; rfl
theorem Sl.below {w w' : World} {v : Value} {l : List Int} (h : Sl w.heap.size w v l) (hb : Below w.heap.size w w') : Sl w'.heap.size w' v l := by
  obtain ⟨hl, ⟨p, cap, e, hh⟩, hi⟩ := h.keep (w' := w') (fun k hk => hb.block k hk)
  refine ⟨hl, ⟨p, cap, e, fun h0 => ?_⟩, hi⟩
  obtain ⟨bl, off, hb2, hp, hc⟩ := hh h0
  exact ⟨bl, off, Nat.lt_of_lt_of_le hb2 hb.size, hp, hc⟩

end Go.Proofs.YtoebmfhgaalcdaaDoor
