/-
  Our own. Small facts on digits, strings put together, old cells.
-/
import Derived.Test.YtoebmfhgaalcdaaGreatDoorBase
import Derived.Test.YtoebmfhgaalcdaaGreatDoorKeepPlain3
namespace Go.Proofs.YtoebmfhgaalcdaaGreatDoor
open Go.RowKit

theorem str_one (N : Nat) (x : Int) (W : World) (h : W.cell? ⟨N, 0, none⟩ = some (.int .u8 x)) : (convert 27 9 (.slice (some ⟨N, 0, none⟩) 1 1)).run Tryz.prog W = .ok (.string ⟨#[UInt8.ofNat x.toNat]⟩) W := by
  have := run_convert_bytes_arg (P := Tryz.prog) W 27 5 Tryz.underlying27 Tryz.underlying5 N 0 1 1 [x] rfl (fun i hi => by
    have e : i = 0 := by omega
    subst e; simpa using h) 9 Tryz.underlying9
  rw [this]
  simp [strOfNums]

theorem cell_of_block {w w' : World} {bl o : Nat} (h : w'.heap[bl]? = w.heap[bl]?) : w'.cell? ⟨bl, o, none⟩ = w.cell? ⟨bl, o, none⟩ := by
  simp only [World.cell?, h]

theorem digs_len : ∀ (k n : Nat), n < 10 ^ (k + 1) → (digs n).length ≤ k + 1
  | 0, n, h => by rw [digs_one n (by simpa using h)]; simp
  | k + 1, n, h => by
    by_cases g : n < 10
    · rw [digs_one n g]; simp
    · rw [digs_more n g]
      have := digs_len k (n / 10) (by rw [Nat.pow_succ] at h; omega)
      simp; omega

theorem bcell {W w1 : World} (hb : Below W.heap.size W w1) : (∀ b o, b < W.heap.size → w1.cell? ⟨b, o, none⟩ = W.cell? ⟨b, o, none⟩) ∧ (∀ b o, b < W.heap.size → w1.frozen? ⟨b, o, none⟩ = W.frozen? ⟨b, o, none⟩) :=
  ⟨fun b o h => hb.cell (p := ⟨b, o, none⟩) h, fun b o h => hb.frozen (p := ⟨b, o, none⟩) h⟩

theorem quo_ten (n : Nat) (hn : n ≤ 4611686018427387904) : IntKind.i64.wrap ((n : Int) / 10) = ((n / 10 : Nat) : Int) := by
  rw [IntKind.wrap_i64]; omega
theorem rem_ten (n : Nat) : IntKind.u8.wrap (IntKind.i64.wrap (48 + (n : Int).tmod 10)) = 48 + (n : Int) % 10 := by
  rw [IntKind.wrap_u8, IntKind.wrap_i64, Int.tmod_eq_emod_of_nonneg (by omega)]; omega

theorem id_join (A C : Tr Bool) : Ending.returned (.string (({ data := #[40] } : ByteArray) ++ strOf (idText A) ++ { data := #[44] } ++ strOf (idText C) ++ { data := #[41] })) = Ending.returned (.string (strOf (idText (.pair A C)))) := by
  have e : ∀ c : UInt8, ({ data := #[c] } : ByteArray) = strOf [c] := fun _ => rfl
  rw [e, e, e, strOf_append, strOf_append, strOf_append, strOf_append]
  simp [idText]

theorem ev_join (n : Nat) (A C : Ev) : Ending.returned (.string (({ data := #[40] } : ByteArray) ++ strOf (digs n) ++ { data := #[44] } ++ strOf (evText A) ++ { data := #[44] } ++ strOf (evText C) ++ { data := #[41] })) = Ending.returned (.string (strOf (evText (.br n A C)))) := by
  have e : ∀ c : UInt8, ({ data := #[c] } : ByteArray) = strOf [c] := fun _ => rfl
  rw [e, e, e, strOf_append, strOf_append, strOf_append, strOf_append, strOf_append, strOf_append]
  simp [evText]

end Go.Proofs.YtoebmfhgaalcdaaGreatDoor
