/-
  Our own. text.Write: the plain text of any stamp.
-/
import Derived.Test.YtoebmfhgaalcdaaGreatDoorWalkLow
import Derived.Test.YtoebmfhgaalcdaaGreatDoorShelf
import Derived.Lib.AppendIntMem
import Derived.WalkSmall
import Derived.Test.YtoebmfhgaalcdaaGreatDoorKeepAll
namespace Go.Proofs.YtoebmfhgaalcdaaGreatDoor
open Go.RowKit

/-- The library's table of tens lies where the program's text has laid it. -/
structure Tab (w : World) : Prop where
  is : Lib.TabIs Tryz.prog w "internal/strconv.uint64pow10" .u64 Lib.pow10Tab
  lt : ∃ g, Tryz.prog.globalNamed "internal/strconv.uint64pow10" = some g ∧ g < w.heap.size

theorem Tab.below {w w' : World} (h : Tab w) (hb : Below w.heap.size w w') : Tab w' := by
  obtain ⟨g, hg, hl⟩ := h.lt
  exact ⟨var?_below hb hg hl h.is, g, hg, Nat.lt_of_lt_of_le hl hb.size⟩

theorem decDigits_digs (n : Nat) : Lib.decDigits n = digs n := by
  induction n using Nat.strongRecOn with
  | _ n ih =>
    by_cases h : n < 10
    · rw [Lib.decDigits, dif_pos h, digs_one n h]
    · rw [Lib.decDigits, dif_neg h, digs_more n h, ih (n / 10) (by omega)]

theorem formatInt_any (n : Nat) (hn : n ≤ 4611686018427387904) (w : World) (T : Tab w) :
    Calls Tryz.prog 102 #[.int .i64 (n : Int), .int .i64 10] w fun e w' => e = .returned (.string (strOf (digs n))) ∧ Below w.heap.size w w' := by
  refine (Tryz.strconv_FormatInt_10 (n : Int) (by omega) (by omega) w T.is).mono ?_
  rintro e w' ⟨rfl, k, os, rfl⟩
  refine ⟨?_, Lib.below_grow _ w (Nat.le_refl _) k os⟩
  rw [Lib.itoa_nonneg, decDigits_digs]; rfl

set_option maxHeartbeats 800000 in
theorem writeID_any (t : Tr Bool) : deepT t ≤ 8 → ∀ (w : World) (v : Value), TB w v t →
    Calls Tryz.prog 51 #[v] w fun e w' => e = .returned (.string (strOf (idText t))) ∧ ∃ k, w' = w.drewN k := by
  induction t using Tr.ind with
  | leaf a =>
    intro _ w v h
    have A := hide (isLeafB_of h)
    obtain ⟨k, rfl, hk⟩ := h
    obtain ⟨k0, k1, _⟩ := cells3 hk
    clear hk
    cases a
    all_goals
      go_enter Tryz.func51, Tryz.ntmps51
      go_wp2_with (go_at_call 48; refine (unhide A).mono ?_; rintro e w' ⟨rfl, rfl⟩)
      go_ret
      exact ⟨rfl, 0, rfl⟩
  | pair l r ihl ihr =>
    intro hd w v h
    have hd0 : max (deepT l) (deepT r) + 1 ≤ 8 := hd
    have A := hide (isLeafB_of h)
    have q1 : (strOf (idText l)).size ≤ 1021 := by have := idText_len l 8 (by omega); rw [strOf_size]; omega
    have q2 : (strOf (idText r)).size ≤ 1021 := by have := idText_len r 8 (by omega); rw [strOf_size]; omega
    have E := id_join l r
    replace ihl := ihl (by omega)
    replace ihr := ihr (by omega)
    clear hd hd0
    obtain ⟨k, vl, vr, rfl, hk, hl, hr⟩ := h
    obtain ⟨k0, k1, k2⟩ := cells3 hk
    obtain ⟨m, rfl⟩ := hl.root
    obtain ⟨j, rfl⟩ := hr.root
    clear hk
    have HL : Hid (TB w (.pointer (some ⟨m, 0, none⟩)) l) := hl
    have HR : Hid (TB w (.pointer (some ⟨j, 0, none⟩)) r) := hr
    have IL := hide ihl
    have IR := hide ihr
    clear hl hr ihl ihr
    replace E := hide E
    generalize strOf (idText l) = X at *
    generalize strOf (idText r) = Y at *
    generalize strOf (idText (.pair l r)) = Z at *
    go_enter Tryz.func51, Tryz.ntmps51
    go_wp2_with (go_at_call 48; refine (unhide A).mono ?_; rintro e w' ⟨rfl, rfl⟩)
    go_quiet (first
      | (go_at_call_of 51 (Value.pointer (some (Addr.mk m 0 none))); exact Calls.quiet_of (IL.out _ _ (HL.out.drewN _)))
      | (go_at_call_of 51 (Value.pointer (some (Addr.mk j 0 none))); exact Calls.quiet_of (IR.out _ _ (HR.out.drewN _))))
    go_wp2_with fail
    go_ret
    exact ⟨unhide E, nq, rfl⟩

/-- Two strings, put together. -/
theorem cat_ok (a b : ByteArray) (h : a.size + b.size ≤ 9223372036854775807) : ∀ w : World, (Op.stringOp .add a b).run Tryz.prog w = .ok (.string (a ++ b)) w := fun w => run_string_add_sum w a b h

set_option maxHeartbeats 1600000 in
theorem writeEV_any (t : Tr Nat) : deepT t ≤ 8 → highest t ≤ 1099511627776 → ∀ (base : Nat), base ≤ lowest t → ∀ (w : World) (v : Value), Tab w → TI w v t →
    Calls Tryz.prog 52 #[v, .int .i64 (base : Int)] w fun e w' => e = .returned (.string (strOf (evText (toEv t base)))) ∧ Below w.heap.size w w' := by
  induction t using Tr.ind with
  | leaf a =>
    intro _ hh base hb w v T h
    have hh : a ≤ 1099511627776 := hh
    have hb : base ≤ a := hb
    have A := hide (fun n => isLeafI_of (TA.below h (below_drewN w n)))
    have A3 := hide (fun n w1 (hb : Below (w.drewN n).heap.size (w.drewN n) w1) => isLeafI_of (TA.below (TA.below h (below_drewN w n)) hb))
    have Lo : Calls Tryz.prog 101 #[v] w fun e w' => e = .returned (.int .i64 (a : Int)) ∧ ∃ n, w' = w.drewN n := low_any (.leaf a) w v h
    replace Lo := hide Lo
    replace T := hide T
    show Calls _ _ _ _ fun e w' => e = .returned (.string (strOf (digs (a - base)))) ∧ _
    have F := hide (fun w1 T1 => formatInt_any (a - base) (by omega) w1 T1)
    have ew : (a : Int) - (base : Int) = ((a - base : Nat) : Int) := by omega
    have ew2 : IntKind.i64.wrap ((a : Int) - (base : Int)) = ((a - base : Nat) : Int) := by rw [IntKind.wrap_i64]; omega
    obtain ⟨k, rfl⟩ := TA.root h
    clear h
    generalize a - base = d at *
    go_enter Tryz.func52, Tryz.ntmps52
    go_wp2_with fail
    refine (unhide Lo).mono ?_
    rintro e w1 ⟨rfl, n, rfl⟩
    go_wp2_with fail
    refine (unhide F _ ((unhide T).below (below_drewN _ _))).mono ?_
    rintro e w2 ⟨rfl, b2⟩
    replace b2 := hide b2
    go_wp2_with fail
    refine (unhide A3 n w2 (unhide b2)).mono ?_
    rintro e w3 ⟨rfl, rfl⟩
    go_wp2_with fail
    go_ret
    exact ⟨rfl, below_trans (below_drewN _ _) (unhide b2)⟩
  | pair l r ihl ihr =>
    intro hd hh base hb w v T h
    have hd0 : max (deepT l) (deepT r) + 1 ≤ 8 := hd
    have hh0 : max (highest l) (highest r) ≤ 1099511627776 := hh
    have hb0 : base ≤ min (lowest l) (lowest r) := hb
    have lh := low_high l
    have A3 := hide (fun n w1 (hb : Below (w.drewN n).heap.size (w.drewN n) w1) => isLeafI_of (TA.below (TA.below h (below_drewN w n)) hb))
    have Lo : Calls Tryz.prog 101 #[v] w fun e w' => e = .returned (.int .i64 ((min (lowest l) (lowest r) : Nat) : Int)) ∧ ∃ n, w' = w.drewN n := low_any (.pair l r) w v h
    have IL := ihl (by omega) (by omega) (min (lowest l) (lowest r)) (Nat.min_le_left _ _)
    have IR := ihr (by omega) (by omega) (min (lowest l) (lowest r)) (Nat.min_le_right _ _)
    have F := hide (fun w1 T1 => formatInt_any (min (lowest l) (lowest r) - base) (by omega) w1 T1)
    have ew : ((min (lowest l) (lowest r) : Nat) : Int) - (base : Int) = ((min (lowest l) (lowest r) - base : Nat) : Int) := by omega
    have ew2 : IntKind.i64.wrap (((min (lowest l) (lowest r) : Nat) : Int) - (base : Int)) = ((min (lowest l) (lowest r) - base : Nat) : Int) := by rw [IntKind.wrap_i64]; omega
    have q0 : (strOf (digs (min (lowest l) (lowest r) - base))).size ≤ 13 := by rw [strOf_size]; exact digs_len 12 _ (by omega)
    have q1 : (strOf (evText (toEv l (min (lowest l) (lowest r))))).size ≤ 8000 := by have := evText_len l 8 (min (lowest l) (lowest r)) (by omega) (by omega); rw [strOf_size]; omega
    have q2 : (strOf (evText (toEv r (min (lowest l) (lowest r))))).size ≤ 8000 := by have := evText_len r 8 (min (lowest l) (lowest r)) (by omega) (by omega); rw [strOf_size]; omega
    have E := ev_join (min (lowest l) (lowest r) - base) (toEv l (min (lowest l) (lowest r))) (toEv r (min (lowest l) (lowest r)))
    have b3 : min (lowest l) (lowest r) ≤ 1099511627776 := by omega
    show Calls _ _ _ _ fun e w' => e = .returned (.string (strOf (evText (.br (min (lowest l) (lowest r) - base) (toEv l (min (lowest l) (lowest r))) (toEv r (min (lowest l) (lowest r))))))) ∧ _
    clear hd hh hb hd0 hh0 lh ihl ihr
    obtain ⟨k, vl, vr, rfl, hk, hl, hr⟩ := h
    obtain ⟨k0, k1, k2⟩ := cells3 hk
    obtain ⟨m, rfl⟩ := hl.root
    obtain ⟨j, rfl⟩ := hr.root
    clear hk
    have HL : Hid (TI w (.pointer (some ⟨m, 0, none⟩)) l) := hl
    have HR : Hid (TI w (.pointer (some ⟨j, 0, none⟩)) r) := hr
    replace IL := hide IL
    replace IR := hide IR
    replace Lo := hide Lo
    replace T := hide T
    replace E := hide E
    clear hl hr
    generalize strOf (evText (.br (min (lowest l) (lowest r) - base) (toEv l (min (lowest l) (lowest r))) (toEv r (min (lowest l) (lowest r))))) = Z at *
    generalize strOf (digs (min (lowest l) (lowest r) - base)) = D at *
    generalize strOf (evText (toEv l (min (lowest l) (lowest r)))) = X at *
    generalize strOf (evText (toEv r (min (lowest l) (lowest r)))) = Y at *
    generalize min (lowest l) (lowest r) - base = d at *
    generalize min (lowest l) (lowest r) = lo at *
    have o1 : ({ data := #[40] } : ByteArray).size = 1 := rfl
    have o2 : ({ data := #[44] } : ByteArray).size = 1 := rfl
    have o3 : ({ data := #[41] } : ByteArray).size = 1 := rfl
    have C1 := hide (cat_ok { data := #[40] } D (by omega))
    have C2 := hide (cat_ok ({ data := #[40] } ++ D) { data := #[44] } (by rw [ByteArray.size_append]; omega))
    have C3 := hide (cat_ok ({ data := #[40] } ++ D ++ { data := #[44] }) X (by rw [ByteArray.size_append, ByteArray.size_append]; omega))
    have C4 := hide (cat_ok ({ data := #[40] } ++ D ++ { data := #[44] } ++ X) { data := #[44] } (by rw [ByteArray.size_append, ByteArray.size_append, ByteArray.size_append]; omega))
    have C5 := hide (cat_ok ({ data := #[40] } ++ D ++ { data := #[44] } ++ X ++ { data := #[44] }) Y (by rw [ByteArray.size_append, ByteArray.size_append, ByteArray.size_append, ByteArray.size_append]; omega))
    have C6 := hide (cat_ok ({ data := #[40] } ++ D ++ { data := #[44] } ++ X ++ { data := #[44] } ++ Y) { data := #[41] } (by rw [ByteArray.size_append, ByteArray.size_append, ByteArray.size_append, ByteArray.size_append, ByteArray.size_append]; omega))
    clear o1 o2 o3 q0 q1 q2
    go_enter Tryz.func52, Tryz.ntmps52
    go_wp2_with fail
    refine (unhide Lo).mono ?_
    rintro e w1 ⟨rfl, n, rfl⟩
    go_wp2_with fail
    refine (unhide F _ ((unhide T).below (below_drewN _ _))).mono ?_
    rintro e w2 ⟨rfl, b2⟩
    have d1 := cell_keep b2 (show (w.drewN n).cell? ⟨k, 1, none⟩ = _ from k1)
    have d2 := cell_keep b2 (show (w.drewN n).cell? ⟨k, 2, none⟩ = _ from k2)
    have T2 := hide (((unhide T).below (below_drewN _ n)).below b2)
    have HL2 := hide (TA.below (TA.below (unhide HL) (below_drewN _ n)) b2)
    have HR2 := hide (TA.below (TA.below (unhide HR) (below_drewN _ n)) b2)
    have BB := hide (below_trans (below_drewN w n) b2)
    replace b2 := hide b2
    go_wp2_with fail
    refine (unhide A3 n w2 (unhide b2)).mono ?_
    rintro e w3 ⟨rfl, rfl⟩
    clear A3 b2 T HL HR Lo F k0 k1 k2
    replace C1 := unhide C1
    replace C2 := unhide C2
    replace C3 := unhide C3
    replace C4 := unhide C4
    replace C5 := unhide C5
    replace C6 := unhide C6
    go_wp2_with fail
    go_region_held3 (fun w' => w'.cell? ⟨k, 1, none⟩ = some (.pointer (some ⟨m, 0, none⟩)) ∧ w'.cell? ⟨k, 2, none⟩ = some (.pointer (some ⟨j, 0, none⟩)))
      (refine ⟨?_, ?_⟩ <;> (repeat first | assumption | refine cell_drew_keep ?_))
      (first
        | (go_at_call_of 52 (Value.pointer (some (Addr.mk m 0 none))); refine (unhide IL _ _ ((unhide T2).below (below_drew _)) (TA.below (unhide HL2) (below_drew _))).mono ?_; rintro e w4 ⟨rfl, b4⟩; have c1 := cell_keep b4 d1; have c2 := cell_keep b4 d2)
        | (go_at_call_of 52 (Value.pointer (some (Addr.mk j 0 none))); refine (unhide IR _ _ (((unhide T2).below (below_drew _)).below b4) (TA.below (TA.below (unhide HR2) (below_drew _)) b4)).mono ?_; rintro e w5 ⟨rfl, b5⟩; have c3 := cell_keep b5 c1; have c4 := cell_keep b5 c2))
    all_goals
      go_wp2_with fail
      go_ret
      exact ⟨unhide E, below_trans (unhide BB) (below_trans (below_trans (below_drew _) b4) b5)⟩

theorem whole_join (t : Tr Bool) (e : Ev) : Ending.returned (.string (strOf (idText t) ++ { data := #[59] } ++ strOf (evText e))) = Ending.returned (.string (strOf (whole t e))) := by
  have e1 : ({ data := #[59] } : ByteArray) = strOf [59] := rfl
  rw [e1, strOf_append, strOf_append]
  simp [whole]

set_option maxHeartbeats 1600000 in
theorem write_any (id : Tr Bool) (ev : Tr Nat) (P : PT id ev) (w : World) (vi ve : Value) (T : Tab w) (hi : TB w vi id) (he : TI w ve ev) :
    Calls Tryz.prog 26 #[.agg #[vi, ve]] w fun e w' => e = .returned (.string (strOf (wtext id ev))) ∧ Below w.heap.size w w' := by
  have q1 : (strOf (idText id)).size ≤ 1021 := by have := idText_len id 8 P.di; rw [strOf_size]; omega
  have q2 : (strOf (evText (toEv ev 0))).size ≤ 8000 := by have := evText_len ev 8 0 P.de P.hi; rw [strOf_size]; omega
  have E := whole_join id (toEv ev 0)
  have WI : ∀ (w : World) (v : Value), TB w v id → Calls Tryz.prog 51 #[v] w fun e w' => e = .returned (.string (strOf (idText id))) ∧ Below w.heap.size w w' := by
    intro w v h
    refine (writeID_any id P.di w v h).mono ?_
    rintro e w' ⟨rfl, n, rfl⟩
    exact ⟨rfl, below_drewN _ _⟩
  have WE : ∀ (w : World) (v : Value), Tab w → TI w v ev → Calls Tryz.prog 52 #[v, .int .i64 0] w fun e w' => e = .returned (.string (strOf (evText (toEv ev 0)))) ∧ Below w.heap.size w w' := writeEV_any ev P.de P.hi 0 (Nat.zero_le _)
  have b0 := below_alloc w (.cells #[vi, ve] 61)
  have c0 : (w.alloc (.cells #[vi, ve] 61)).cell? ⟨w.heap.size, 0, none⟩ = some vi := by simp only [World.cell?, heap_new]; rfl
  have c1 : (w.alloc (.cells #[vi, ve] 61)).cell? ⟨w.heap.size, 1, none⟩ = some ve := by simp only [World.cell?, heap_new]; rfl
  have T0 := hide (T.below b0)
  have HI := hide (TA.below hi b0)
  have HE := hide (TA.below he b0)
  obtain ⟨m, rfl⟩ := TA.root hi
  obtain ⟨j, rfl⟩ := TA.root he
  show Calls _ _ _ _ fun e w' => e = .returned (.string (strOf (whole id (toEv ev 0)))) ∧ _
  clear hi he T P
  replace WI := hide WI
  replace WE := hide WE
  replace E := hide E
  have SZ := hide b0.size
  replace b0 := hide b0
  generalize strOf (whole id (toEv ev 0)) = Z at *
  generalize strOf (idText id) = X at *
  generalize strOf (evText (toEv ev 0)) = Y at *
  have o1 : ({ data := #[59] } : ByteArray).size = 1 := rfl
  have C1 := hide (cat_ok X { data := #[59] } (by omega))
  have C2 := hide (cat_ok (X ++ { data := #[59] }) Y (by rw [ByteArray.size_append]; omega))
  clear o1 q1 q2
  go_enter Tryz.func26, Tryz.ntmps26
  go_wp2_with fail
  replace C1 := unhide C1
  replace C2 := unhide C2
  generalize w.alloc (.cells #[.pointer (some ⟨m, 0, none⟩), .pointer (some ⟨j, 0, none⟩)] 61) = W at *
  generalize hN : w.heap.size = N at *
  replace hN := hide hN
  go_region_held3 (fun w' => w'.cell? ⟨N, 0, none⟩ = some (.pointer (some ⟨m, 0, none⟩)) ∧ w'.cell? ⟨N, 1, none⟩ = some (.pointer (some ⟨j, 0, none⟩)))
    (refine ⟨?_, ?_⟩ <;> (repeat first | assumption | refine cell_drew_keep ?_))
    (first
      | (go_at_call 51; refine (unhide WI _ _ (TA.below (unhide HI) (below_drew _))).mono ?_; rintro e w4 ⟨rfl, b4⟩; have d1 := cell_keep b4 c0; have d2 := cell_keep b4 c1)
      | (go_at_call 52; refine (unhide WE _ _ (((unhide T0).below (below_drew _)).below b4) (TA.below (TA.below (unhide HE) (below_drew _)) b4)).mono ?_; rintro e w5 ⟨rfl, b5⟩; have d3 := cell_keep b5 d1; have d4 := cell_keep b5 d2))
  all_goals
    go_wp2_with fail
    go_ret
    exact ⟨unhide E, by rw [unhide hN]; exact (unhide b0).trans ((below_trans (below_trans (below_drew _) b4) b5).mono (unhide SZ))⟩

end Go.Proofs.YtoebmfhgaalcdaaGreatDoor
