/-
  Our own. The document's stamp as a text: sprigsref.text, least, idText, evText, Text, Share, any.
-/
import Derived.Test.YtoebmfhgaalcdaaGreatDoorCellsP
import Derived.Test.YtoebmfhgaalcdaaGreatDoorWalkWrite
import Derived.Test.YtoebmfhgaalcdaaGreatDoorStamps
namespace Go.Proofs.YtoebmfhgaalcdaaGreatDoor
open Go.RowKit

theorem rem_low (n : Nat) (h : n < 10) : IntKind.u8.wrap (48 + (n : Int)) = 48 + (n : Int) := by rw [IntKind.wrap_u8]; omega

set_option maxRecDepth 100000 in
set_option maxHeartbeats 800000 in
theorem rtext_low (n : Nat) (w : World) (h : n < 10) :
    Calls Tryz.prog 130 #[.int .i64 n] w fun e w' => e = .returned (.string (strOf (digs n))) ∧ Below w.heap.size w w' := by
  have e : digs n = [UInt8.ofNat (48 + n)] := digs_one n h
  have e2 : (48 + (n : Int)).toNat = 48 + n := by omega
  have E : Hid (strOf (digs n) = ⟨#[UInt8.ofNat (48 + (n : Int)).toNat]⟩) := by
    show _ = _
    rw [e, e2]; rfl
  clear e e2
  generalize strOf (digs n) = D at *
  have hcv := fun W hW => str_one w.heap.size (48 + (n : Int)) W hW
  go_enter Tryz.func130, Tryz.ntmps130
  go_wp2_with fail
  go_ret
  rw [E.out]
  exact ⟨rfl, (Below.refl _ _).alloc (Nat.le_refl _) _⟩

set_option maxRecDepth 100000 in
set_option maxHeartbeats 1600000 in
theorem rtext_high (n : Nat) (w : World) (h : ¬ n < 10) (hn : n ≤ 4611686018427387904)
    (ih : Hid (∀ w : World, Calls Tryz.prog 130 #[.int .i64 (n / 10 : Nat)] w fun e w' => e = .returned (.string (strOf (digs (n / 10)))) ∧ Below w.heap.size w w')) :
    Calls Tryz.prog 130 #[.int .i64 n] w fun e w' => e = .returned (.string (strOf (digs n))) ∧ Below w.heap.size w w' := by
  have E : Hid (strOf (digs n) = strOf (digs (n / 10)) ++ strOf (digs (n % 10))) := by
    show _ = _
    rw [digs_more n h, digs_one (n % 10) (by omega), strOf_append]
  have LO := hide (fun w1 => rtext_low (n % 10) w1 (by omega))
  have q1 : Hid ((n : Int) / 10 = ((n / 10 : Nat) : Int)) := hide (by omega)
  have q2 : Hid ((n : Int) % 10 = ((n % 10 : Nat) : Int)) := hide (by omega)
  have s1 : (strOf (digs (n / 10))).size ≤ 19 := by rw [strOf_size]; exact digs_len 18 _ (by omega)
  have s2 : (strOf (digs (n % 10))).size ≤ 19 := by rw [strOf_size]; exact digs_len 18 _ (by omega)
  generalize strOf (digs n) = D at *
  generalize strOf (digs (n / 10)) = D1 at *
  generalize strOf (digs (n % 10)) = D2 at *
  have CAT := cat_ok D1 D2 (by omega)
  go_enter Tryz.func130, Tryz.ntmps130
  go_wp2_with fail
  rw [unhide q1]
  refine (ih.out _).mono ?_
  rintro e w1 ⟨rfl, b1⟩
  replace b1 := hide b1
  go_wp2_with fail
  rw [unhide q2]
  refine (unhide LO _).mono ?_
  rintro e w2 ⟨rfl, b2⟩
  replace b2 := hide (below_trans (unhide b1) b2)
  go_wp2_with fail
  go_ret
  rw [E.out]
  exact ⟨rfl, unhide b2⟩

theorem rtext_any (n : Nat) : n ≤ 4611686018427387904 → ∀ w : World,
    Calls Tryz.prog 130 #[.int .i64 n] w fun e w' => e = .returned (.string (strOf (digs n))) ∧ Below w.heap.size w w' := by
  induction n using Nat.strongRecOn with
  | _ n ih =>
    intro hn w
    by_cases h : n < 10
    · exact rtext_low n w h
    · exact rtext_high n w h hn (hide (ih (n / 10) (by omega) (by omega)))

set_option maxRecDepth 100000 in
set_option maxHeartbeats 1000000 in
theorem least_any (b : Nat) (from_ n : Nat) (H : Nat → Bool) (C : Nat → Nat) (w : World) (h : St b H C w) (hn : from_ + n ≤ 256) (hp : 0 < n) :
    Calls Tryz.prog 148 #[.pointer (some ⟨b, 0, none⟩), .int .i64 from_, .int .i64 n] w fun e w' =>
      e = .returned (.int .i64 (minTo (fun i => C (from_ + i)) n : Nat)) ∧ w' = w := by
  have c0 := h.counts from_ (by omega)
  have q0 : (from_ : Int) < 256 := by omega
  have HH := hide h
  have M0 : Hid (C from_ = minTo (fun i => C (from_ + i)) 0) := hide rfl
  clear h
  go_enter Tryz.func148, Tryz.ntmps148
  go_wp2_with fail
  go_loop [7, 8] (fun v x => ∃ m : Nat, m ≤ n ∧ x = .int .i64 ((from_ + m : Nat) : Int) ∧ v = .int .i64 ((minTo (fun i => C (from_ + i)) m : Nat) : Int)) (fun _ x => from_ + n - (intOf x).toNat)
  case atStart => exact ⟨0, by omega, rfl, by rw [← unhide M0]⟩
  case round =>
    obtain ⟨m, hm, rfl, rfl⟩ := hrel
    by_cases hlt : m < n
    · have hc := (unhide HH).counts (from_ + m) (by omega)
      have l1 : ((from_ + m : Nat) : Int) < (from_ : Int) + (n : Int) := by omega
      have l2 : ((from_ + m : Nat) : Int) < 256 := by omega
      have S2 : Hid (minTo (fun i => C (from_ + i)) (m + 1) = min (minTo (fun i => C (from_ + i)) m) (C (from_ + m))) := hide rfl
      generalize minTo (fun i => C (from_ + i)) m = v at *
      generalize C (from_ + m) = cv at *
      by_cases hgt : cv < v
      · have g2 : (cv : Int) < (v : Int) := by omega
        go_wp2_with fail
        go_round
        case rel =>
          refine ⟨m + 1, by omega, by go_num, ?_⟩
          rw [unhide S2, show min v cv = cv by omega]
        case measure => simp [intOf]; omega
      · have g2 : ¬ (cv : Int) < (v : Int) := by omega
        go_wp2_with fail
        go_round
        case rel =>
          refine ⟨m + 1, by omega, by go_num, ?_⟩
          rw [unhide S2, show min v cv = v by omega]
        case measure => simp [intOf]; omega
    · have hjn : m = n := by omega
      subst hjn
      have l1 : ¬ ((from_ + m : Nat) : Int) < (from_ : Int) + (m : Int) := by omega
      generalize hv : minTo (fun i => C (from_ + i)) m = v at *
      have HV := hide hv
      clear hm hlt hv
      go_wp2_with fail
      go_ret
      rw [unhide HV]
      exact ⟨rfl, rfl⟩

end Go.Proofs.YtoebmfhgaalcdaaGreatDoor

namespace Go.Proofs.YtoebmfhgaalcdaaGreatDoor
open Go.RowKit

theorem cnt_succ (f : Nat → Bool) (a n : Nat) : cnt f a (n + 1) = cnt f a n + (if f (a + n) = true then 1 else 0) := rfl

set_option maxRecDepth 100000 in
set_option maxHeartbeats 2000000 in
theorem ridText_walk (b from_ n : Nat) (H : Nat → Bool) (C : Nat → Nat) (w : World) (h : St b H C w) (hn : from_ + n ≤ 256) (T : ByteArray)
    (h0 : cnt H from_ n = 0 → T = { data := #[48] }) (h1 : cnt H from_ n = n → T = { data := #[49] })
    (h2 : cnt H from_ n ≠ 0 → cnt H from_ n ≠ n → ∃ (k : Nat) (A B : ByteArray), n = 2 * k ∧ A.size ≤ 1021 ∧ B.size ≤ 1021 ∧
      (Calls Tryz.prog 88 #[.pointer (some ⟨b, 0, none⟩), .int .i64 from_, .int .i64 k] w fun e w' => e = .returned (.string A) ∧ w' = w) ∧
      (Calls Tryz.prog 88 #[.pointer (some ⟨b, 0, none⟩), .int .i64 (from_ + k : Nat), .int .i64 k] w fun e w' => e = .returned (.string B) ∧ w' = w) ∧
      Ending.returned (.string (({ data := #[40] } : ByteArray) ++ A ++ { data := #[44] } ++ B ++ { data := #[41] })) = Ending.returned (.string T)) :
    Calls Tryz.prog 88 #[.pointer (some ⟨b, 0, none⟩), .int .i64 from_, .int .i64 n] w fun e w' => e = .returned (.string T) ∧ w' = w := by
  have HH := hide h
  replace h0 := hide h0
  replace h1 := hide h1
  replace h2 := hide h2
  have CL := hide (cnt_le H from_)
  clear h
  go_enter Tryz.func88, Tryz.ntmps88
  go_wp2_with fail
  go_loop [7, 8] (fun v x => ∃ m : Nat, m ≤ n ∧ x = .int .i64 ((from_ + m : Nat) : Int) ∧ v = .int .i64 ((cnt H from_ m : Nat) : Int)) (fun _ x => from_ + n - (intOf x).toNat)
  case atStart => exact ⟨0, by omega, rfl, rfl⟩
  case round =>
    obtain ⟨m, hm, rfl, rfl⟩ := hrel
    have cl := unhide CL m
    by_cases hlt : m < n
    · have hc := (unhide HH).holds (from_ + m) (by omega)
      have l1 : ((from_ + m : Nat) : Int) < (from_ : Int) + (n : Int) := by omega
      have l2 : ((from_ + m : Nat) : Int) < 256 := by omega
      have S2 := hide (cnt_succ H from_ m)
      generalize cnt H from_ m = v at *
      generalize H (from_ + m) = hv at *
      cases hv
      · go_wp2_with fail
        go_round
        case rel => exact ⟨m + 1, by omega, by go_num, by rw [unhide S2]; rfl⟩
        case measure => simp [intOf]; omega
      · go_wp2_with fail
        go_round
        case rel => exact ⟨m + 1, by omega, by go_num, by rw [unhide S2]; rfl⟩
        case measure => simp [intOf]; omega
    · have hjn : m = n := by omega
      subst hjn
      have l1 : ¬ ((from_ + m : Nat) : Int) < (from_ : Int) + (m : Int) := by omega
      generalize cnt H from_ m = c at *
      by_cases c0 : c = 0
      · subst c0
        have e := hide (unhide h0 rfl)
        clear h0 h1 h2
        go_wp2_with fail
        go_ret
        exact ⟨by rw [unhide e]; rfl, rfl⟩
      · have d0 : ((c : Int) == 0) = false := beq_eq_false_iff_ne.2 (by omega)
        by_cases c1 : c = m
        · subst c1
          have e := hide (unhide h1 rfl)
          have d1 : ((c : Int) == (c : Int)) = true := by simp
          clear h0 h1 h2
          go_wp2_with fail
          go_ret
          exact ⟨by rw [unhide e]; rfl, rfl⟩
        · have d1 : ((c : Int) == (m : Int)) = false := beq_eq_false_iff_ne.2 (by omega)
          obtain ⟨k, A, B, hk, sA, sB, RA, RB, E⟩ := unhide h2 c0 c1
          have q1 : Hid ((m : Int) / 2 = (k : Int)) := hide (by omega)
          have q2 : Hid ((from_ : Int) + (k : Int) = ((from_ + k : Nat) : Int)) := hide (by omega)
          replace RA := hide RA
          replace RB := hide RB
          replace E := hide E
          replace hk := hide hk
          have o1 : ({ data := #[40] } : ByteArray).size = 1 := rfl
          have o2 : ({ data := #[44] } : ByteArray).size = 1 := rfl
          have o3 : ({ data := #[41] } : ByteArray).size = 1 := rfl
          have C1 := cat_ok { data := #[40] } A (by omega)
          have C2 := cat_ok ({ data := #[40] } ++ A) { data := #[44] } (by rw [ByteArray.size_append]; omega)
          have C3 := cat_ok ({ data := #[40] } ++ A ++ { data := #[44] }) B (by rw [ByteArray.size_append, ByteArray.size_append]; omega)
          have C4 := cat_ok ({ data := #[40] } ++ A ++ { data := #[44] } ++ B) { data := #[41] } (by rw [ByteArray.size_append, ByteArray.size_append, ByteArray.size_append]; omega)
          clear h0 h1 h2 o1 o2 o3
          go_wp2_with fail
          rw [unhide q1]
          refine (unhide RA).mono ?_
          rintro e w1 ⟨rfl, rfl⟩
          go_wp2_with fail
          rw [unhide q1, unhide q2]
          refine (unhide RB).mono ?_
          rintro e w2 ⟨rfl, rfl⟩
          go_wp2_with fail
          go_ret
          exact ⟨unhide E, rfl⟩

theorem idText_len9 (f : Nat → Bool) (h i : Nat) (hh : h ≤ 8) : (strOf (idText (ofCells f h i))).size ≤ 1021 := by
  have := idText_len (ofCells f h i) 8 (Nat.le_trans (ofCells_deep f h i) hh)
  rw [strOf_size]; omega

theorem ridText_any (b : Nat) (H : Nat → Bool) (C : Nat → Nat) : ∀ h, h ≤ 8 → ∀ (i : Nat) (w : World), St b H C w → i + 2 ^ h ≤ 256 →
    Calls Tryz.prog 88 #[.pointer (some ⟨b, 0, none⟩), .int .i64 i, .int .i64 (2 ^ h : Nat)] w fun e w' => e = .returned (.string (strOf (idText (ofCells H h i)))) ∧ w' = w
  | 0, _, i, w, hst, hi => by
    refine ridText_walk b i (2 ^ 0) H C w hst hi _ (fun e => ?_) (fun e => ?_) (fun e0 e1 => ?_)
    · rw [ofCells_none H 0 i e]; rfl
    · rw [ofCells_all H 0 i e]; rfl
    · exfalso
      have := cnt_le H i (2 ^ 0)
      have : (2 : Nat) ^ 0 = 1 := rfl
      omega
  | h + 1, hh, i, w, hst, hi => by
    have e2 : 2 ^ (h + 1) = 2 ^ h + 2 ^ h := by rw [Nat.pow_succ]; omega
    have e3 := Nat.two_pow_pos h
    refine ridText_walk b i (2 ^ (h + 1)) H C w hst hi _ (fun e => ?_) (fun e => ?_) (fun e0 e1 => ?_)
    · rw [ofCells_none H (h + 1) i e]; rfl
    · rw [ofCells_all H (h + 1) i e]; rfl
    · refine ⟨2 ^ h, _, _, by omega, idText_len9 H h i (by omega), idText_len9 H h (i + 2 ^ h) (by omega), ridText_any b H C h (by omega) i w hst (by omega), ridText_any b H C h (by omega) (i + 2 ^ h) w hst (by omega), ?_⟩
      rw [ofCells_some H h i e0 e1]
      exact id_join _ _

end Go.Proofs.YtoebmfhgaalcdaaGreatDoor

namespace Go.Proofs.YtoebmfhgaalcdaaGreatDoor
open Go.RowKit

theorem St.below {b : Nat} {H : Nat → Bool} {C : Nat → Nat} {w w' : World} (h : St b H C w) (hb : Below w.heap.size w w') : St b H C w' := h.keep (hb.block b h.lt)

set_option maxRecDepth 100000 in
set_option maxHeartbeats 2000000 in
theorem revText_walk (b from_ n less lo hi : Nat) (H : Nat → Bool) (C : Nat → Nat) (w : World) (h : St b H C w) (hn : from_ + n ≤ 256) (hp : 0 < n) (T : ByteArray)
    (elo : minTo (fun i => C (from_ + i)) n = lo) (ehi : maxTo (fun i => C (from_ + i)) n = hi) (hl : less ≤ lo) (hm : lo ≤ 1099511627776)
    (h0 : lo = hi → T = strOf (digs (lo - less)))
    (h2 : lo ≠ hi → ∃ (k : Nat) (A B : ByteArray), n = 2 * k ∧ A.size ≤ 8000 ∧ B.size ≤ 8000 ∧
      (∀ w1, St b H C w1 → Calls Tryz.prog 141 #[.pointer (some ⟨b, 0, none⟩), .int .i64 from_, .int .i64 k, .int .i64 lo] w1 fun e w' => e = .returned (.string A) ∧ Below w1.heap.size w1 w') ∧
      (∀ w1, St b H C w1 → Calls Tryz.prog 141 #[.pointer (some ⟨b, 0, none⟩), .int .i64 (from_ + k : Nat), .int .i64 k, .int .i64 lo] w1 fun e w' => e = .returned (.string B) ∧ Below w1.heap.size w1 w') ∧
      Ending.returned (.string (({ data := #[40] } : ByteArray) ++ strOf (digs (lo - less)) ++ { data := #[44] } ++ A ++ { data := #[44] } ++ B ++ { data := #[41] })) = Ending.returned (.string T)) :
    Calls Tryz.prog 141 #[.pointer (some ⟨b, 0, none⟩), .int .i64 from_, .int .i64 n, .int .i64 less] w fun e w' => e = .returned (.string T) ∧ Below w.heap.size w w' := by
  have LE := least_any b from_ n H C w h hn hp
  have MO := most_any b from_ n H C w h hn hp
  rw [elo] at LE
  rw [ehi] at MO
  clear elo ehi
  replace LE := hide LE
  replace MO := hide MO
  have HH := hide h
  have q0 : Hid ((lo : Int) - (less : Int) = ((lo - less : Nat) : Int)) := hide (by omega)
  have TX := hide (rtext_any (lo - less) (by omega))
  have s0 : (strOf (digs (lo - less))).size ≤ 13 := by rw [strOf_size]; exact digs_len 12 _ (by omega)
  clear h
  generalize strOf (digs (lo - less)) = D at *
  generalize lo - less = dd at *
  by_cases e : lo = hi
  · have ET := hide (h0 e)
    have e1 : ((lo : Int) == (hi : Int)) = true := beq_iff_eq.2 (by omega)
    replace e := hide e
    clear h0 h2
    go_enter Tryz.func141, Tryz.ntmps141
    go_wp2_with fail
    refine (unhide LE).mono ?_
    rintro o w1 ⟨rfl, rfl⟩
    go_wp2_with fail
    refine (unhide MO).mono ?_
    rintro o w1 ⟨rfl, rfl⟩
    go_wp2_with fail
    rw [unhide q0]
    refine (unhide TX _).mono ?_
    rintro o w2 ⟨rfl, b2⟩
    replace b2 := hide b2
    go_wp2_with fail
    go_ret
    exact ⟨by rw [unhide ET]; rfl, unhide b2⟩
  · obtain ⟨k, A, B, hk, sA, sB, RA, RB, E⟩ := h2 e
    have e1 : ((lo : Int) == (hi : Int)) = false := beq_eq_false_iff_ne.2 (by omega)
    have q1 : Hid ((n : Int) / 2 = (k : Int)) := hide (by omega)
    have q2 : Hid ((from_ : Int) + (k : Int) = ((from_ + k : Nat) : Int)) := hide (by omega)
    replace e := hide e
    replace RA := hide RA
    replace RB := hide RB
    replace E := hide E
    replace hk := hide hk
    have o1 : ({ data := #[40] } : ByteArray).size = 1 := rfl
    have o2 : ({ data := #[44] } : ByteArray).size = 1 := rfl
    have o3 : ({ data := #[41] } : ByteArray).size = 1 := rfl
    have C1 := cat_ok { data := #[40] } D (by omega)
    have C2 := cat_ok ({ data := #[40] } ++ D) { data := #[44] } (by rw [ByteArray.size_append]; omega)
    have C3 := cat_ok ({ data := #[40] } ++ D ++ { data := #[44] }) A (by rw [ByteArray.size_append, ByteArray.size_append]; omega)
    have C4 := cat_ok ({ data := #[40] } ++ D ++ { data := #[44] } ++ A) { data := #[44] } (by rw [ByteArray.size_append, ByteArray.size_append, ByteArray.size_append]; omega)
    have C5 := cat_ok ({ data := #[40] } ++ D ++ { data := #[44] } ++ A ++ { data := #[44] }) B (by rw [ByteArray.size_append, ByteArray.size_append, ByteArray.size_append, ByteArray.size_append]; omega)
    have C6 := cat_ok ({ data := #[40] } ++ D ++ { data := #[44] } ++ A ++ { data := #[44] } ++ B) { data := #[41] } (by rw [ByteArray.size_append, ByteArray.size_append, ByteArray.size_append, ByteArray.size_append, ByteArray.size_append]; omega)
    clear h0 h2 o1 o2 o3
    go_enter Tryz.func141, Tryz.ntmps141
    go_wp2_with fail
    refine (unhide LE).mono ?_
    rintro o w1 ⟨rfl, rfl⟩
    go_wp2_with fail
    refine (unhide MO).mono ?_
    rintro o w1 ⟨rfl, rfl⟩
    go_wp2_with fail
    rw [unhide q1]
    refine (unhide RA _ (unhide HH)).mono ?_
    rintro o w2 ⟨rfl, b2⟩
    have H2 := hide ((unhide HH).below b2)
    replace b2 := hide b2
    go_wp2_with fail
    rw [unhide q1, unhide q2]
    refine (unhide RB _ (unhide H2)).mono ?_
    rintro o w3 ⟨rfl, b3⟩
    replace b3 := hide (below_trans (unhide b2) b3)
    go_wp2_with fail
    rw [unhide q0]
    refine (unhide TX _).mono ?_
    rintro o w4 ⟨rfl, b4⟩
    replace b4 := hide (below_trans (unhide b3) b4)
    go_wp2_with fail
    go_ret
    exact ⟨unhide E, unhide b4⟩

theorem evText_len9 (f : Nat → Nat) (h i lo : Nat) (hh : h ≤ 8) (hc : ∀ k, f k ≤ 1099511627776) : (strOf (evText (toEv (ofCells f h i) lo))).size ≤ 8000 := by
  have hi : highest (ofCells f h i) ≤ 1099511627776 := by
    rw [← high_cells]
    obtain ⟨j, _, e⟩ := maxTo_at (fun k => f (i + k)) (2 ^ h) (Nat.two_pow_pos h)
    rw [e]; exact hc _
  have := evText_len (ofCells f h i) 8 lo (Nat.le_trans (ofCells_deep f h i) hh) hi
  rw [strOf_size]; omega

theorem revText_any (b : Nat) (H : Nat → Bool) (C : Nat → Nat) (hc : ∀ k, C k ≤ 1099511627776) : ∀ h, h ≤ 8 → ∀ (i less : Nat) (w : World), St b H C w → i + 2 ^ h ≤ 256 → less ≤ lowest (ofCells C h i) →
    Calls Tryz.prog 141 #[.pointer (some ⟨b, 0, none⟩), .int .i64 i, .int .i64 (2 ^ h : Nat), .int .i64 less] w fun e w' => e = .returned (.string (strOf (evText (toEv (ofCells C h i) less)))) ∧ Below w.heap.size w w'
  | 0, _, i, less, w, hst, hi, hl => by
    refine revText_walk b i (2 ^ 0) less _ _ H C w hst hi (by decide) _ (low_cells C 0 i) (high_cells C 0 i) hl ?_ (fun e => ?_) (fun e => ?_)
    · exact hc _
    · rfl
    · exact absurd rfl e
  | h + 1, hh, i, less, w, hst, hi, hl => by
    have e2 : 2 ^ (h + 1) = 2 ^ h + 2 ^ h := by rw [Nat.pow_succ]; omega
    have e3 := Nat.two_pow_pos h
    have hlo : lowest (ofCells C (h + 1) i) ≤ 1099511627776 := by
      rw [← low_cells]
      obtain ⟨j, _, e⟩ := minTo_at (fun k => C (i + k)) (2 ^ (h + 1)) (Nat.two_pow_pos _)
      rw [e]; exact hc _
    refine revText_walk b i (2 ^ (h + 1)) less _ _ H C w hst hi (Nat.two_pow_pos _) _ (low_cells C (h + 1) i) (high_cells C (h + 1) i) hl hlo (fun e => ?_) (fun e => ?_)
    · rw [ofCells_one C (h + 1) i (lowest (ofCells C (h + 1) i)) (low_cells C (h + 1) i) (by rw [high_cells]; exact e.symm)]; rfl
    · have P := ofCells_two C h i (by rw [low_cells, high_cells]; exact e)
      have m1 : lowest (ofCells C (h + 1) i) = min (lowest (ofCells C h i)) (lowest (ofCells C h (i + 2 ^ h))) := by rw [P]; rfl
      refine ⟨2 ^ h, _, _, by omega, evText_len9 C h i (lowest (ofCells C (h + 1) i)) (by omega) hc, evText_len9 C h (i + 2 ^ h) (lowest (ofCells C (h + 1) i)) (by omega) hc, fun w1 h1 => revText_any b H C hc h (by omega) i _ w1 h1 (by omega) (by omega), fun w1 h1 => revText_any b H C hc h (by omega) (i + 2 ^ h) _ w1 h1 (by omega) (by omega), ?_⟩
      rw [m1, P]
      exact ev_join _ _ _

set_option maxRecDepth 100000 in
set_option maxHeartbeats 1000000 in
theorem rText_any (b : Nat) (H : Nat → Bool) (C : Nat → Nat) (hc : ∀ k, C k ≤ 1099511627776) (w : World) (h : St b H C w) :
    Calls Tryz.prog 127 #[.pointer (some ⟨b, 0, none⟩)] w fun e w' => e = .returned (.string (tx (ofCells H 8 0) (ofCells C 8 0))) ∧ Below w.heap.size w w' := by
  have RI : Calls Tryz.prog 88 #[.pointer (some ⟨b, 0, none⟩), .int .i64 0, .int .i64 256] w fun e w' => e = .returned (.string (strOf (idText (ofCells H 8 0)))) ∧ w' = w := ridText_any b H C 8 (by omega) 0 w h (by decide)
  have RE : Calls Tryz.prog 141 #[.pointer (some ⟨b, 0, none⟩), .int .i64 0, .int .i64 256, .int .i64 0] w fun e w' => e = .returned (.string (strOf (evText (toEv (ofCells C 8 0) 0)))) ∧ Below w.heap.size w w' := revText_any b H C hc 8 (by omega) 0 0 w h (by decide) (Nat.zero_le _)
  have s1 := idText_len9 H 8 0 (by omega)
  have s2 := evText_len9 C 8 0 0 (by omega) hc
  have E := whole_join (ofCells H 8 0) (toEv (ofCells C 8 0) 0)
  show Calls _ _ _ _ fun e w' => e = .returned (.string (strOf (whole (ofCells H 8 0) (toEv (ofCells C 8 0) 0)))) ∧ _
  clear h
  replace RI := hide RI
  replace RE := hide RE
  replace E := hide E
  generalize strOf (whole (ofCells H 8 0) (toEv (ofCells C 8 0) 0)) = Z at *
  generalize strOf (idText (ofCells H 8 0)) = X at *
  generalize strOf (evText (toEv (ofCells C 8 0) 0)) = Y at *
  have o1 : ({ data := #[59] } : ByteArray).size = 1 := rfl
  have C1 := cat_ok X { data := #[59] } (by omega)
  have C2 := cat_ok (X ++ { data := #[59] }) Y (by rw [ByteArray.size_append]; omega)
  clear o1
  go_enter Tryz.func127, Tryz.ntmps127
  go_wp2_with fail
  refine (unhide RI).mono ?_
  rintro o w1 ⟨rfl, rfl⟩
  go_wp2_with fail
  refine (unhide RE).mono ?_
  rintro o w2 ⟨rfl, b2⟩
  replace b2 := hide b2
  go_wp2_with fail
  go_ret
  exact ⟨unhide E, unhide b2⟩

set_option maxRecDepth 100000 in
set_option maxHeartbeats 1000000 in
theorem rShare_any (b : Nat) (H : Nat → Bool) (C : Nat → Nat) (w : World) (h : St b H C w) :
    Calls Tryz.prog 87 #[.pointer (some ⟨b, 0, none⟩)] w fun e w' => e = .returned (.int .i64 (cnt H 0 256 : Nat)) ∧ w' = w := by
  have HH := hide h
  have CL := hide (cnt_le H 0)
  clear h
  generalize hN : cnt H 0 256 = N at *
  replace hN := hide hN
  go_enter Tryz.func87, Tryz.ntmps87
  go_wp2_with fail
  go_loop [3, 4] (fun v x => ∃ m : Nat, m ≤ 256 ∧ x = .int .i64 (m : Nat) ∧ v = .int .i64 ((cnt H 0 m : Nat) : Int)) (fun _ x => 256 - (intOf x).toNat)
  case atStart => exact ⟨0, by omega, rfl, rfl⟩
  case round =>
    obtain ⟨m, hm, rfl, rfl⟩ := hrel
    have cl := unhide CL m
    by_cases hlt : m < 256
    · have hc := (unhide HH).holds m (by omega)
      have l1 : (m : Int) < 256 := by omega
      have l2 : (0 : Int) ≤ (m : Int) := by omega
      have S2 := hide (cnt_succ H 0 m)
      rw [Nat.zero_add] at S2
      generalize cnt H 0 m = v at *
      generalize H m = hv at *
      cases hv
      · go_wp2_with fail
        go_round
        case rel => exact ⟨m + 1, by omega, by go_num, by rw [unhide S2]; rfl⟩
        case measure => simp [intOf]; omega
      · go_wp2_with fail
        go_round
        case rel => exact ⟨m + 1, by omega, by go_num, by rw [unhide S2]; rfl⟩
        case measure => simp [intOf]; omega
    · have hjn : m = 256 := by omega
      subst hjn
      have e := unhide hN
      generalize cnt H 0 256 = c at *
      subst e
      go_wp2_with fail
      go_ret
      exact ⟨rfl, rfl⟩

/-- Is one of n cells from a on held? -/
def anyC (f : Nat → Bool) (a n : Nat) : Bool := decide (cnt f a n ≠ 0)

set_option maxRecDepth 100000 in
set_option maxHeartbeats 1000000 in
theorem rany_any (b from_ n : Nat) (H : Nat → Bool) (C : Nat → Nat) (w : World) (h : St b H C w) (hn : from_ + n ≤ 256) :
    Calls Tryz.prog 126 #[.pointer (some ⟨b, 0, none⟩), .int .i64 from_, .int .i64 n] w fun e w' => e = .returned (.bool (anyC H from_ n)) ∧ w' = w := by
  have HH := hide h
  have Z := cnt_zero H from_ n
  clear h
  have A0 : (∀ k, k < n → H (from_ + k) = false) → anyC H from_ n = false := fun h => by unfold anyC; rw [Z.2 h]; rfl
  have A1 : ∀ k, k < n → H (from_ + k) = true → anyC H from_ n = true := fun k hk h => by
    unfold anyC
    rw [decide_eq_true_eq]
    intro e
    rw [Z.1 e k hk] at h; cases h
  replace A0 := hide A0
  replace A1 := hide A1
  clear Z
  generalize anyC H from_ n = A at *
  go_enter Tryz.func126, Tryz.ntmps126
  go_wp2_with fail
  go_loop [7] (fun x => ∃ m : Nat, m ≤ n ∧ x = .int .i64 ((from_ + m : Nat) : Int) ∧ ∀ k, k < m → H (from_ + k) = false) (fun x => from_ + n - (intOf x).toNat)
  case atStart => exact ⟨0, by omega, rfl, fun k hk => by omega⟩
  case round =>
    obtain ⟨m, hm, rfl, hq⟩ := hrel
    replace hq := hide hq
    by_cases hlt : m < n
    · have hc := (unhide HH).holds (from_ + m) (by omega)
      have l1 : ((from_ + m : Nat) : Int) < (from_ : Int) + (n : Int) := by omega
      have l2 : ((from_ + m : Nat) : Int) < 256 := by omega
      generalize hv : H (from_ + m) = v at *
      replace hv := hide hv
      cases v
      · go_wp2_with fail
        go_round
        case rel => exact ⟨m + 1, by omega, by go_num, fun k hk => by
          by_cases e : k = m
          · subst e; exact unhide hv
          · exact unhide hq k (by omega)⟩
        case measure => simp [intOf]; omega
      · have e := hide (unhide A1 m hlt (unhide hv))
        go_wp2_with fail
        go_ret
        exact ⟨by rw [unhide e]; rfl, rfl⟩
    · have hjn : m = n := by omega
      subst hjn
      have l1 : ¬ ((from_ + m : Nat) : Int) < (from_ : Int) + (m : Int) := by omega
      have e := hide (unhide A0 (unhide hq))
      go_wp2_with fail
      go_ret
      exact ⟨by rw [unhide e]; rfl, rfl⟩

end Go.Proofs.YtoebmfhgaalcdaaGreatDoor
