/-
  Our own. sprigskeep.grown: a group out of any raw numbers.
-/
import Derived.Test.YtoebmfhgaalcdaaDoorPlayAny
namespace Go.Proofs.YtoebmfhgaalcdaaDoor
open Go.RowKit

theorem start_cells : (mcells startMem).toArray = #[.string { data := #[49, 59, 48] }, .bool false, .bool false, .bool false, .bool false, .bool false, .bool false, .bool false, .bool false, .bool false, .bool false, .bool false, .bool false, .bool false, .bool false, .bool false, .bool false, .bool false, .bool false, .bool false, .bool false, .bool false, .bool false, .bool false, .bool false, .bool false, .bool false, .bool false, .bool false, .bool false, .bool false, .bool false, .bool false, .bool false, .bool false, .bool false, .bool false, .bool false, .bool false, .bool false, .bool false, .bool false, .bool false, .bool false, .bool false, .bool false, .bool false, .bool false, .bool false, .bool false, .bool false, .bool false, .bool false, .bool false, .bool false, .bool false, .bool false, .bool false, .bool false, .bool false, .bool false, .bool false] := by kernel_rfl

theorem Gr.start (w : World) : Gr w.heap.size (w.heap.size + 1) ((w.alloc (.cells (mcells startMem).toArray 34)).alloc (.cells #[.slice (some ⟨w.heap.size, 0, none⟩) 1 1, .int .i64 0] 28)) (.slice (some ⟨w.heap.size, 0, none⟩) 1 1) [startMem] 0 ∧
    Below w.heap.size w ((w.alloc (.cells (mcells startMem).toArray 34)).alloc (.cells #[.slice (some ⟨w.heap.size, 0, none⟩) 1 1, .int .i64 0] 28)) := by
  have s1 : (w.alloc (.cells (mcells startMem).toArray 34)).heap.size = w.heap.size + 1 := by simp
  have b1 := below_alloc w (.cells (mcells startMem).toArray 34)
  have b2 := below_alloc (w.alloc (.cells (mcells startMem).toArray 34)) (.cells #[.slice (some ⟨w.heap.size, 0, none⟩) 1 1, .int .i64 0] 28)
  refine ⟨⟨?_, by omega, ?_⟩, below_trans b1 b2⟩
  · have := heap_new (w.alloc (.cells (mcells startMem).toArray 34)) (.cells #[.slice (some ⟨w.heap.size, 0, none⟩) 1 1, .int .i64 0] 28)
    rw [s1] at this
    exact this
  · refine ⟨?_, Or.inr ⟨w.heap.size, 1, (mcells startMem).toArray, rfl, Nat.le_refl _, ?_, Nat.le_refl _, by unfold maxLen; omega, ?_, ?_⟩⟩
    · rw [flatM_len]
    · rw [b2.block _ (by rw [s1]; omega)]
      exact heap_new w _
    · rw [List.size_toArray, mcells_len]
    · show List.take (1 * 62) (mcells startMem) = mcells startMem ++ []
      rw [List.append_nil, List.take_of_length_le (by rw [mcells_len]; omega)]

/-- What grown leaves. -/
def Grew (w : World) (e : Ending) (w' : World) : Prop := ∃ gb sv L d, e = .returned (.tuple #[.pointer (some ⟨gb, 0, none⟩), .bool true]) ∧ Gr w.heap.size gb w' sv L d ∧ GInv L d ∧ 0 < L.length ∧ L.length ≤ 31 ∧ Below w.heap.size w w'

set_option maxRecDepth 100000 in
set_option maxHeartbeats 4000000 in
theorem grown_any (v : Value) (l : List Int) (w : World) (T : Tab w) (h : Sl w.heap.size w v l) :
    Calls Tryd.prog 9 #[v] w fun e w' => Grew w e w' := by
  obtain ⟨hl, ⟨p, cap, rfl, hh⟩, hi⟩ := h
  have FI := fun w1 => fine_yes (tx (.leaf true) (.leaf 0)) w1 (one_PT 0 (by omega)).size (chk_of_ok (one_PT 0 (by omega)).read)
  have E2 := event_T (one_PT 0 (by omega)) (by rw [share_true]; omega) (event_whole 0 (by omega))
  have D : ((tx (.leaf true) (.leaf (0 + 1))).toList == [49, 59, 48]) = false := by
    have D0 : ((tx (.leaf true) (.leaf (0 + 1))).toList == (tx (.leaf true) (.leaf 0)).toList) = false := tx_diff fun e => by
      have := (tx_inj (one_PT (0 + 1) (by omega)) (one_PT 0 (by omega)) e).2
      injection this with this; injection this with this; omega
    rw [← one_zero, show ({ data := #[49, 59, 48] } : ByteArray) = strOf [49, 59, 48] from rfl, strOf_list] at D0
    exact D0
  rw [← one_zero] at E2 FI
  generalize tx (.leaf true) (.leaf (0 + 1)) = X at *
  obtain ⟨G0, B0⟩ := Gr.start w
  rw [start_cells] at G0 B0
  replace FI := hide FI
  replace E2 := hide E2
  replace T := hide T
  replace D := hide D
  replace G0 := hide G0
  replace B0 := hide B0
  replace hh := hide hh
  replace hi := hide hi
  go_enter Tryd.func9, Tryd.ntmps9
  go_wp2_with fail
  generalize World.alloc _ (Obj.cells #[.slice (some ⟨w.heap.size, 0, none⟩) 1 1, .int .i64 0] 28) = W0 at *
  refine (unhide FI _).mono ?_
  rintro o w1 ⟨rfl, b1⟩
  replace B0 := hide (below_trans (unhide B0) b1)
  replace G0 := hide ((unhide G0).keep b1)
  clear b1 FI
  go_wp2_with fail
  refine (unhide E2 _ ((unhide T).below (unhide B0))).mono ?_
  rintro o w2 ⟨rfl, b2⟩
  replace B0 := hide (below_trans (unhide B0) b2)
  replace G0 := hide ((unhide G0).keep b2)
  clear b2 E2
  replace D := unhide D
  go_wp2_with fail
  clear D
  go_loopg [8, 9] 101 (fun q ok x wr => ∃ n : Nat, n + 3 * q = 303 ∧ ok = .bool true ∧ x = .int .i64 (n : Nat) ∧ ∃ sv L d, Gr w.heap.size (w.heap.size + 1) wr sv L d ∧ GInv L d ∧ 0 < L.length ∧ L.length ≤ 31 ∧ Below w.heap.size w wr)
  case atStart => exact ⟨0, by omega, rfl, rfl, _, _, _, unhide G0, GInv.start, Nat.zero_lt_one, by show 1 ≤ 31; omega, unhide B0⟩
  case round =>
    obtain ⟨n, hn, rfl, rfl, sv, L, d, G, I, hp, hL, hb⟩ := hrel
    clear G0 B0
    have HN := hide hn
    have hnb : n ≤ 303 := by omega
    clear hn
    by_cases h1 : n + 2 < l.length
    · have h1a : (n : Int) + 2 < (l.length : Int) := by omega
      by_cases h2 : n < 300
      · have h2a : (n : Int) < 300 := by omega
        obtain ⟨bl, off, hbl, rfl, hc⟩ := unhide hh (by omega)
        have r0 := (hb.cell (p := ⟨bl, off + n, none⟩) hbl).trans (hc n (by omega))
        have r1 := (hb.cell (p := ⟨bl, off + (n + 1), none⟩) hbl).trans (hc (n + 1) (by omega))
        have r2 := (hb.cell (p := ⟨bl, off + (n + 2), none⟩) hbl).trans (hc (n + 2) (by omega))
        have PL := fun (k : Nat) => play_any w.heap.size (w.heap.size + 1) (wr.drewN k) sv L d (l.getD n 0) (l.getD (n + 1) 0) (l.getD (n + 2) 0) (unhide hi n) (unhide hi (n + 1)) (unhide hi (n + 2)) hp hL I (G.keep (below_drewN _ _)) hb.size (((unhide T).below hb).below (below_drewN _ _))
        replace PL := hide PL
        clear hc
        generalize l.getD n 0 = x0 at *
        generalize l.getD (n + 1) 0 = x1 at *
        generalize l.getD (n + 2) 0 = x2 at *
        have n0 : (0 : Int) ≤ (n : Int) := by omega
        have n1 : (0 : Int) ≤ (n : Int) + 1 := by omega
        have n2 : (0 : Int) ≤ (n : Int) + 2 := by omega
        have n3 : (n : Int) < (l.length : Int) := by omega
        have n4 : (n : Int) + 1 < (l.length : Int) := by omega
        replace hb := hide hb
        replace G := hide G
        replace I := hide I
        have a1 : IntKind.i64.wrap ((n : Int) + 1) = (n : Int) + 1 := by rw [IntKind.wrap_i64]; omega
        have a2 : IntKind.i64.wrap ((n : Int) + 2) = (n : Int) + 2 := by rw [IntKind.wrap_i64]; omega
        have a3 : ((n : Int) + 2).toNat = n + 2 := by omega
        have PL0 : Calls Tryd.prog 24 #[.pointer (some ⟨w.heap.size + 1, 0, none⟩), .int .i64 x0, .int .i64 x1, .int .i64 x2] wr.drew fun e w' => Played w.heap.size (w.heap.size + 1) wr.drew e w' := unhide PL 1
        replace PL0 := hide PL0
        clear PL
        go_wp2_with fail
        go_region_held3 (fun w' => w'.cell? ⟨bl, off + n, none⟩ = some (.int .i64 x0) ∧ w'.cell? ⟨bl, off + (n + 1), none⟩ = some (.int .i64 x1) ∧ w'.cell? ⟨bl, off + (n + 2), none⟩ = some (.int .i64 x2))
          (refine ⟨?_, ?_, ?_⟩ <;> (repeat first | assumption | refine cell_drew_keep ?_))
          (first
            | (go_at_call 24; refine (unhide PL0).mono ?_; rintro o w3 ⟨rfl, b3, hrest⟩; have r0b := (b3.cell (p := ⟨bl, off + n, none⟩) hbl).trans (show wr.drew.cell? _ = _ from r0); have r1b := (b3.cell (p := ⟨bl, off + (n + 1), none⟩) hbl).trans (show wr.drew.cell? _ = _ from r1); have r2b := (b3.cell (p := ⟨bl, off + (n + 2), none⟩) hbl).trans (show wr.drew.cell? _ = _ from r2); replace hrest := hide hrest))
        all_goals
          clear r0 r1 r2 r0b r1b r2b
          replace b3 := hide b3
          go_wp2_with fail
          go_roundg (gk - 1)
          case measure => have := unhide HN; omega
          case rel =>
            obtain ⟨sv', L', d', G', I', p1, p2⟩ := unhide hrest
            exact ⟨n + 3, by have := unhide HN; omega, rfl, by go_num, sv', L', d', G', I', p1, p2, ((unhide hb).trans ((below_drew wr).mono (unhide hb).size)).trans (unhide b3)⟩
      · have h2a : ¬ (n : Int) < 300 := by omega
        replace hb := hide hb
        replace G := hide G
        replace I := hide I
        go_wp2_with fail
        go_ret2
        exact ⟨_, sv, L, d, rfl, unhide G, unhide I, hp, hL, unhide hb⟩
    · have h1a : ¬ (n : Int) + 2 < (l.length : Int) := by omega
      replace hb := hide hb
      replace G := hide G
      replace I := hide I
      go_wp2_with fail
      go_ret2
      exact ⟨_, sv, L, d, rfl, unhide G, unhide I, hp, hL, unhide hb⟩

end Go.Proofs.YtoebmfhgaalcdaaDoor
