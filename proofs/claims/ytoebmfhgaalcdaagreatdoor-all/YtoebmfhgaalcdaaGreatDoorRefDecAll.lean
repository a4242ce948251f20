/-
  Our own. sprigsref.Decode: what a call does, of any code. (Laid by wip/mk/dec.py.)
-/
import Derived.Test.YtoebmfhgaalcdaaGreatDoorRefReadAll
import Derived.Test.YtoebmfhgaalcdaaGreatDoorRefCalls
import Derived.Test.YtoebmfhgaalcdaaGreatDoorCallsBad
import Derived.Test.YtoebmfhgaalcdaaGreatDoorPackAll
namespace Go.Proofs.YtoebmfhgaalcdaaGreatDoor
open Go.RowKit

/-- What a call of sprigsref.Decode leaves. -/
def RDecEnd (w : World) (o : Rd1) (e : Ending) (w' : World) : Prop :=
  match o with
  | ⟨.inl (id, ev)⟩ => e = .returned (.tuple #[.string (strOf (wtext id ev)), .int .i64 0, .int .i64 0]) ∧ Below w.heap.size w w'
  | ⟨.inr (c, p)⟩ => e = .returned (.tuple #[.string { data := #[] }, .int .i64 (c : Nat), .int .i64 (p : Nat)]) ∧ Below w.heap.size w w'

theorem bfail_later2 (b : Nat) (s : ByteArray) (n j : Nat) (t : ByteArray) (w : World) (h : Bt b s n (j : Nat) t w) :
    Calls Tryz.prog 95 #[.pointer (some ⟨b, 0, none⟩), .int .i64 ((n : Int) / 8)] w fun e w' => e = .returned (.tuple #[]) ∧ w' = w := by
  have := bfail_later b s n (n / 8) j t w h
  rwa [show ((n / 8 : Nat) : Int) = (n : Int) / 8 by omega] at this
theorem bfail_first2 (b : Nat) (s : ByteArray) (n : Nat) (t : ByteArray) (w : World) (h : Bt b s n (-1) t w) :
    Calls Tryz.prog 95 #[.pointer (some ⟨b, 0, none⟩), .int .i64 ((n : Int) / 8)] w fun e w' => e = .returned (.tuple #[]) ∧ Bt b s n ((n / 8 : Nat) : Int) t w' ∧ Apart b w w' := by
  have := bfail_first b s n (n / 8) t w h
  rwa [show ((n / 8 : Nat) : Int) = (n : Int) / 8 by omega] at this

/-- Where the filling stands. -/
def PadSt (b : Nat) (s T : ByteArray) (k2 m : Nat) (w : World) : Prop :=
  (∃ n, n ≤ 8 * s.size ∧ m = (8 - n % 8) % 8 ∧ Bt b s n (-1) T w ∧ padR s ((8 - k2 % 8) % 8) k2 = padR s ((8 - n % 8) % 8) n) ∨
  (∃ n j : Nat, n ≤ 8 * s.size ∧ m = 0 ∧ Bt b s n (j : Nat) T w ∧ padR s ((8 - k2 % 8) % 8) k2 = .bad j)

set_option maxHeartbeats 400000 in
theorem rdec_long (s : ByteArray) (w : World) (hs : 20000 < s.size) (hm : s.size ≤ maxLen) :
    Calls Tryz.prog 43 #[.string s] w fun e w' => RDecEnd w (readC s) e w' := by
  rw [readC_long hs]
  unfold maxLen at hm
  go_enter Tryz.func43, Tryz.ntmps43
  go_wp2_with fail
  go_ret3
  exact ⟨rfl, Below.refl _ _⟩

theorem rdec_text (T3 : ByteArray) (id : Tr Bool) (e : Ev) (h : T3 = { data := #[] } ++ strOf (idText id) ++ { data := #[59] } ++ strOf (evText e)) : T3 = strOf (idText id ++ 59 :: evText e) := by
  rw [h, show ({ data := #[] } : ByteArray) = strOf [] from rfl, show ({ data := #[59] } : ByteArray) = strOf [59] from rfl]
  simp only [strOf_append]
  congr 1
  simp

set_option maxRecDepth 100000 in
set_option maxHeartbeats 8000000 in
theorem rdec_short (s : ByteArray) (w : World) (hs : s.size ≤ 20000) :
    Calls Tryz.prog 43 #[.string s] w fun e w' => RDecEnd w (readC s) e w' := by
  have e1 : IntKind.i64.wrap (8 * (s.size : Int)) = 8 * (s.size : Int) := by rw [IntKind.wrap_i64]; omega
  have H1 : Bt w.heap.size s 0 (-1) { data := #[] } (w.alloc (.cells #[.string s, .int .i64 0, .int .i64 (-1), .string { data := #[] }] 132)) := heap_new w _
  have B1 := below_alloc w (.cells #[.string s, .int .i64 0, .int .i64 (-1), .string { data := #[] }] 132)
  have BL : ∀ w', Apart w.heap.size (w.alloc (.cells #[.string s, .int .i64 0, .int .i64 (-1), .string { data := #[] }] 132)) w' → Below w.heap.size w w' := fun w' h => B1.trans (h.below B1.size)
  have ID : Calls Tryz.prog 92 #[.pointer (some ⟨w.heap.size, 0, none⟩), .int .i64 0] (w.alloc (.cells #[.string s, .int .i64 0, .int .i64 (-1), .string { data := #[] }] 132)) fun e w' => BIdEnd w.heap.size s { data := #[] } (w.alloc (.cells #[.string s, .int .i64 0, .int .i64 (-1), .string { data := #[] }] 132)) 8 (idC s 8 0 false) e w' :=
    bid_any w.heap.size s hs 8 0 rfl 0 false { data := #[] } _ H1 (Nat.zero_le _) (by decide)
  replace ID := hide ID
  have BL := hide BL
  clear H1 B1
  go_enter Tryz.func43, Tryz.ntmps43
  go_wp2_with fail
  generalize w.alloc (.cells #[.string s, .int .i64 0, .int .i64 (-1), .string { data := #[] }] 132) = W1 at *
  obtain ⟨N, hN⟩ : ∃ N, w.heap.size = N := ⟨_, rfl⟩
  rw [hN] at ID BL ⊢
  replace hN := hide hN
  replace BL : ∀ w', Apart N W1 w' → Below w.heap.size w w' := by rw [unhide hN]; exact unhide BL
  cases f : idC s 8 0 false using Rc.cs with
  | bad j =>
    have HF := hide (readC_bad0 hs f)
    replace ID := unhide ID
    rw [f] at ID
    have ID := hide ID
    clear f
    refine (unhide ID).mono ?_
    rintro e w3 ⟨rfl, a3, n, t1, hn, z1, h3⟩
    obtain ⟨c0, c1, c2, c3, cf⟩ := h3.cells
    have z1 : t1.size + 3 ≤ 0 + 4 * 256 := z1
    obtain ⟨T3, hT3⟩ : ∃ U, t1 ++ { data := #[59] } = U := ⟨_, rfl⟩
    have CA := cat_ok t1 { data := #[59] } (by show t1.size + 1 ≤ _; omega)
    rw [hT3] at CA
    have hb := hide (h3.setText T3)
    have AA := hide (a3.setCell (p := ⟨N, 3, none⟩) rfl (.string T3))
    have j0 : ¬ (j : Int) < 0 := by omega
    replace hn := hide hn
    clear h3 a3 z1 hT3 ID
    replace BL := hide BL
    go_wp2_with fail
    generalize w3.setCell ⟨N, 3, none⟩ (.string T3) = W4 at *
    replace hn := unhide hn
    replace hb := unhide hb
    replace BL := unhide BL
    clear c0 c1 c2 c3 cf CA j0
    obtain ⟨c0, c1, c2, c3, cf⟩ := hb.cells
    have j0 : ¬ (j : Int) < 0 := by omega
    have j1 : (0 : Int) ≤ (j : Int) := by omega
    have F := hide (bfail_later2 N s n j T3 _ hb)
    have nb : n ≤ 160000 := by omega
    clear hb hn
    go_loopg [6] 0 (fun m _v wr => m = 0 ∧ wr = W4)
    case atStart => exact ⟨rfl, rfl⟩
    case round =>
      obtain ⟨_, rfl⟩ := hrel
      by_cases m8 : 0 < n % 8
      · have m8i : (0 : Int) < (n : Int) % 8 := by omega
        by_cases hl : n < 8 * s.size
        · have li : (n : Int) < 8 * (s.size : Int) := by omega
          clear m8 hl
          go_wp2_with fail
          refine (unhide F).mono ?_
          rintro e w9 ⟨rfl, rfl⟩
          go_wp2_with fail
          go_quiet (fail)
          go_wp2_with fail
          go_ret3
          rw [unhide HF]
          exact ⟨rfl, BL _ ((unhide AA).trans (Apart.drewN _ _ _))⟩
        · have li : ¬ (n : Int) < 8 * (s.size : Int) := by omega
          clear m8 hl
          go_wp2_with fail
          go_quiet (fail)
          go_wp2_with fail
          go_ret3
          rw [unhide HF]
          exact ⟨rfl, BL _ ((unhide AA).trans (Apart.drewN _ _ _))⟩
      · have m8i : ¬ (0 : Int) < (n : Int) % 8 := by omega
        by_cases hl : n < 8 * s.size
        · have li : (n : Int) < 8 * (s.size : Int) := by omega
          clear m8 hl
          go_wp2_with fail
          refine (unhide F).mono ?_
          rintro e w9 ⟨rfl, rfl⟩
          go_wp2_with fail
          go_quiet (fail)
          go_wp2_with fail
          go_ret3
          rw [unhide HF]
          exact ⟨rfl, BL _ ((unhide AA).trans (Apart.drewN _ _ _))⟩
        · have li : ¬ (n : Int) < 8 * (s.size : Int) := by omega
          clear m8 hl
          go_wp2_with fail
          go_quiet (fail)
          go_wp2_with fail
          go_ret3
          rw [unhide HF]
          exact ⟨rfl, BL _ ((unhide AA).trans (Apart.drewN _ _ _))⟩
  | ok id k1 r1 =>
    have FI := hide f
    replace ID := unhide ID
    rw [f] at ID
    have ID := hide ID
    clear f
    refine (unhide ID).mono ?_
    rintro e w3 ⟨rfl, a3, n1, t1, hn1, z1, rfl, ht1, h3⟩
    obtain ⟨c0, c1, c2, c3, cf⟩ := h3.cells
    have z1 : t1.size + 3 ≤ 0 + 4 * 256 := z1
    obtain ⟨T2, hT2⟩ : ∃ U, t1 ++ { data := #[59] } = U := ⟨_, rfl⟩
    have S2 : T2.size = t1.size + 1 := by rw [← hT2, ByteArray.size_append]; rfl
    have CA := cat_ok t1 { data := #[59] } (by show t1.size + 1 ≤ _; omega)
    rw [hT2] at CA
    have hb := hide (h3.setText T2)
    have AA := hide (a3.setCell (p := ⟨N, 3, none⟩) rfl (.string T2))
    have Z2 : Hid (T2.size + 2 ≤ 1024) := hide (by omega)
    have E2 : Hid (T2 = { data := #[] } ++ strOf (idText id) ++ { data := #[59] }) := hide (by rw [← hT2, ht1])
    replace hn1 := hide hn1
    clear h3 a3 z1 hT2 ID S2 ht1
    replace BL := hide BL
    go_wp2_with fail
    generalize w3.setCell ⟨N, 3, none⟩ (.string T2) = W4 at *
    clear c0 c1 c2 c3 cf CA
    have EV : Calls Tryz.prog 93 #[.pointer (some ⟨N, 0, none⟩), .int .i64 0] W4 fun e w' => BEvEnd N s T2 W4 8 0 r1 (evC s 8 0 n1 r1) e w' :=
      bev_any N s hs 8 0 rfl 0 n1 r1 T2 W4 (unhide hb) (unhide hn1) (by have := unhide Z2; omega)
    clear hb
    cases f : evC s 8 0 n1 r1 using Rc.cs with
    | bad j =>
      have HF := hide (readC_bad1 hs (unhide FI) f)
      rw [f] at EV
      have EV := hide EV
      clear f
      refine (unhide EV).mono ?_
      rintro e w5 ⟨rfl, a5, n, T3, hn, z5, hb⟩
      replace AA := hide ((unhide AA).trans a5)
      clear z5 a5 EV
      replace BL := unhide BL
      go_wp2_with fail
      obtain ⟨c0, c1, c2, c3, cf⟩ := hb.cells
      have j0 : ¬ (j : Int) < 0 := by omega
      have j1 : (0 : Int) ≤ (j : Int) := by omega
      have F := hide (bfail_later2 N s n j T3 _ hb)
      have nb : n ≤ 160000 := by omega
      clear hb hn
      go_loopg [6] 0 (fun m _v wr => m = 0 ∧ wr = w5)
      case atStart => exact ⟨rfl, rfl⟩
      case round =>
        obtain ⟨_, rfl⟩ := hrel
        by_cases m8 : 0 < n % 8
        · have m8i : (0 : Int) < (n : Int) % 8 := by omega
          by_cases hl : n < 8 * s.size
          · have li : (n : Int) < 8 * (s.size : Int) := by omega
            clear m8 hl
            go_wp2_with fail
            refine (unhide F).mono ?_
            rintro e w9 ⟨rfl, rfl⟩
            go_wp2_with fail
            go_quiet (fail)
            go_wp2_with fail
            go_ret3
            rw [unhide HF]
            exact ⟨rfl, BL _ ((unhide AA).trans (Apart.drewN _ _ _))⟩
          · have li : ¬ (n : Int) < 8 * (s.size : Int) := by omega
            clear m8 hl
            go_wp2_with fail
            go_quiet (fail)
            go_wp2_with fail
            go_ret3
            rw [unhide HF]
            exact ⟨rfl, BL _ ((unhide AA).trans (Apart.drewN _ _ _))⟩
        · have m8i : ¬ (0 : Int) < (n : Int) % 8 := by omega
          by_cases hl : n < 8 * s.size
          · have li : (n : Int) < 8 * (s.size : Int) := by omega
            clear m8 hl
            go_wp2_with fail
            refine (unhide F).mono ?_
            rintro e w9 ⟨rfl, rfl⟩
            go_wp2_with fail
            go_quiet (fail)
            go_wp2_with fail
            go_ret3
            rw [unhide HF]
            exact ⟨rfl, BL _ ((unhide AA).trans (Apart.drewN _ _ _))⟩
          · have li : ¬ (n : Int) < 8 * (s.size : Int) := by omega
            clear m8 hl
            go_wp2_with fail
            go_quiet (fail)
            go_wp2_with fail
            go_ret3
            rw [unhide HF]
            exact ⟨rfl, BL _ ((unhide AA).trans (Apart.drewN _ _ _))⟩
    | ok o k2 r2 =>
      obtain ⟨t, m⟩ := o
      have FE := hide f
      rw [f] at EV
      have EV := hide EV
      clear f
      refine (unhide EV).mono ?_
      rintro e w5 ⟨rfl, a5, k2, T3, hk2, z5, rfl, hb, ev, rfl, rfl, de, fe, rfl, ht3⟩
      have z5 : T3.size + 17 ≤ T2.size + 30 * 256 := z5
      have di := (idC_ok s 8 0 false id n1 r1 (unhide FI)).2.2.1
      have rr := idC_rough s 8 0 false id n1 r1 (unhide FI)
      rw [Bool.false_or] at rr
      have TX := rdec_text T3 id ev (by rw [ht3, unhide E2])
      have RW := readR_raw id ev di de fe
      rw [← TX, ← rr] at RW
      have T3s : T3.size ≤ maxLen := by unfold maxLen; have := unhide Z2; omega
      have RB : Hid (∀ (c p : Nat), readR T3 = .bad c p → ∀ w, Calls Tryz.prog 38 #[.string T3] w fun o w' => o = .returned (.tuple #[.pointer none, .int .i64 (c : Nat), .int .i64 (p : Nat)]) ∧ Below w.heap.size w w') := hide (fun c p g w => rread_bad T3s g w)
      have RO : Hid (readR T3 = .ok id (evTree 0 ev) → T3 = strOf (wtext id (evTree 0 ev)) ∧ ∀ w, Calls Tryz.prog 38 #[.string T3] w fun o w' => ∃ b, o = .returned (.tuple #[.pointer (some ⟨b, 0, none⟩), .int .i64 0, .int .i64 0]) ∧ Below w.heap.size w w') := hide (fun g => ⟨(readR_inv g).2, fun w => (rread_ok T3s g w).mono (by rintro o w' ⟨b, rfl, _, _, h⟩; exact ⟨b, rfl, h⟩)⟩)
      replace RW := hide RW
      replace AA := hide ((unhide AA).trans a5)
      replace hb := hide hb
      replace hk2 := hide hk2
      clear z5 a5 EV TX ht3 T3s di de fe rr
      generalize evTree 0 ev = t at *
      generalize front ev = m at *
      go_wp2_with fail
      go_loopg [6] ((8 - k2 % 8) % 8) (fun m _v wr => Apart N W1 wr ∧ PadSt N s T3 k2 m wr)
      case atStart => exact ⟨unhide AA, Or.inl ⟨k2, unhide hk2, rfl, unhide hb, rfl⟩⟩
      case round =>
        clear AA hb
        obtain ⟨AA, ⟨n, hn, hm, hb, hp⟩ | ⟨n, j, hn, hm, hb, hp⟩⟩ := hrel
        · obtain ⟨c0, c1, c2, c3, cf⟩ := hb.cells
          replace AA := hide AA
          have nb : n ≤ 160000 := by omega
          by_cases m8 : 0 < n % 8
          · have m8i : (0 : Int) < (n : Int) % 8 := by omega
            have hn8 : n < 8 * s.size := by omega
            have R := bnext_ok N s n T3 _ hb hs hn8
            have ef : (8 - n % 8) % 8 = (8 - (n + 1) % 8) % 8 + 1 := by omega
            have HM : Hid (gk = (8 - (n + 1) % 8) % 8 + 1) := hide (by rw [hm, ef])
            have N1 : Hid (n + 1 ≤ 8 * s.size) := hide hn8
            cases hB : bitAt s n with
            | true =>
              have HP : Hid (padR s ((8 - k2 % 8) % 8) k2 = .bad (n / 8)) := hide (by rw [hp, ef, padR, if_pos hB])
              rw [hB] at R
              have R := hide R
              have L := hide (fun w h => blast_any N s n (-1) T3 w h (by omega))
              have F := hide (fun w h => bfail_first N s (n + 1) (n / 8) T3 w h)
              generalize n / 8 = q at *
              clear hb hB hp m8 hn8 hn hm ef
              go_wp2_with fail
              refine (unhide R).mono ?_
              rintro e w6 ⟨rfl, h6, a6⟩
              replace L := hide (unhide L _ h6)
              replace F := hide (unhide F _ h6)
              clear h6 c0 c1 c2 c3 cf
              replace a6 := hide a6
              go_wp2_with fail
              refine (unhide L).mono ?_
              rintro e w7 ⟨rfl, rfl⟩
              go_wp2_with fail
              refine (unhide F).mono ?_
              rintro e w8 ⟨rfl, h8, a8⟩
              replace h8 := hide h8
              replace a8 := hide a8
              go_wp2_with fail
              go_roundg 0
              case measure => rw [unhide HM]; omega
              case rel => exact ⟨((unhide AA).trans (unhide a6)).trans (unhide a8), Or.inr ⟨n + 1, q, unhide N1, rfl, unhide h8, unhide HP⟩⟩
            | false =>
              have HP : Hid (padR s ((8 - k2 % 8) % 8) k2 = padR s ((8 - (n + 1) % 8) % 8) (n + 1)) := hide (by rw [hp, ef, padR, if_neg (by rw [hB]; exact Bool.false_ne_true)])
              rw [hB] at R
              have R := hide R
              clear hb hB hp m8 hn8 hn hm ef
              go_wp2_with fail
              refine (unhide R).mono ?_
              rintro e w6 ⟨rfl, h6, a6⟩
              replace h6 := hide h6
              replace a6 := hide a6
              clear c0 c1 c2 c3 cf
              go_wp2_with fail
              go_roundg ((8 - (n + 1) % 8) % 8)
              case measure => rw [unhide HM]; omega
              case rel => exact ⟨(unhide AA).trans (unhide a6), Or.inl ⟨n + 1, unhide N1, rfl, unhide h6, unhide HP⟩⟩
          · have m8i : ¬ (0 : Int) < (n : Int) % 8 := by omega
            have PO : padR s ((8 - k2 % 8) % 8) k2 = .ok 0 n := by rw [hp, show (8 - n % 8) % 8 = 0 by omega, padR]
            by_cases hl : n < 8 * s.size
            · have li : (n : Int) < 8 * (s.size : Int) := by omega
              have HF := hide (readC_bad2 hs (unhide FI) (unhide FE) (endR_bad2 PO (by omega)))
              have F := hide (bfail_first2 N s n T3 _ hb)
              generalize n / 8 = j at *
              clear hb hp PO m8 hl hn hm
              go_wp2_with fail
              refine (unhide F).mono ?_
              rintro e w6 ⟨rfl, h6, a6⟩
              clear c0 c1 c2 c3 cf
              obtain ⟨c0, c1, c2, c3, cf⟩ := h6.cells
              have j1 : (0 : Int) ≤ (j : Int) := by omega
              replace AA := hide ((unhide AA).trans a6)
              clear h6 a6
              go_wp2_with fail
              go_quiet (fail)
              replace BL := unhide BL
              go_wp2_with fail
              go_ret3
              rw [unhide HF]
              exact ⟨rfl, BL _ ((unhide AA).trans (Apart.drewN _ _ _))⟩
            · have li : ¬ (n : Int) < 8 * (s.size : Int) := by omega
              have EO := endR_good PO (by omega)
              have E3 := hide (readC_bad3 hs (unhide FI) (unhide FE) EO)
              have E4 := hide (readC_bad4 hs (unhide FI) (unhide FE) EO)
              have E5 := hide (readC_good hs (unhide FI) (unhide FE) EO)
              clear hb hp PO m8 hl hn hm EO
              by_cases hh : 1099511627776 < highest t
              · obtain ⟨p, g⟩ := (unhide RW).1 hh
                have HF := hide (unhide E3 hh)
                have R := hide (unhide RB 7 p g)
                clear g hh RB RO E3 E4 E5 RW
                go_wp2_with fail
                refine (unhide R _).mono ?_
                rintro e w6 ⟨rfl, b6⟩
                replace AA := hide ((unhide AA).trans (Apart.of_below b6 N))
                clear b6
                go_wp2_with fail
                go_ret3
                rw [unhide HF]
                exact ⟨rfl, unhide BL _ (unhide AA)⟩
              · by_cases hq : (r1 || roughE 0 ev) = true
                · obtain ⟨p, g⟩ := (unhide RW).2.1 hh hq
                  have HF := hide (unhide E4 hh hq)
                  have R := hide (unhide RB 3 p g)
                  clear g hh hq RB RO E3 E4 E5 RW
                  go_wp2_with fail
                  refine (unhide R _).mono ?_
                  rintro e w6 ⟨rfl, b6⟩
                  replace AA := hide ((unhide AA).trans (Apart.of_below b6 N))
                  clear b6
                  go_wp2_with fail
                  go_ret3
                  rw [unhide HF]
                  exact ⟨rfl, unhide BL _ (unhide AA)⟩
                · have g := (unhide RW).2.2 hh (by simpa using hq)
                  have HF := hide (unhide E5 hh hq)
                  obtain ⟨eT, R⟩ := unhide RO g
                  replace eT := hide eT
                  replace R := hide R
                  clear g hh hq RB RO E3 E4 E5 RW
                  go_wp2_with fail
                  refine (unhide R _).mono ?_
                  rintro e w6 ⟨bb, rfl, b6⟩
                  have d3 := cell_keep b6 c3
                  replace AA := hide ((unhide AA).trans (Apart.of_below b6 N))
                  clear b6
                  go_wp2_with fail
                  go_ret3
                  rw [unhide HF]
                  refine ⟨?_, unhide BL _ (unhide AA)⟩
                  rw [← unhide eT]; rfl
        · have HF := hide (readC_bad2 hs (unhide FI) (unhide FE) (endR_bad1 hp))
          replace AA := hide AA
          replace BL := unhide BL
          clear hp hm
          obtain ⟨c0, c1, c2, c3, cf⟩ := hb.cells
          have j0 : ¬ (j : Int) < 0 := by omega
          have j1 : (0 : Int) ≤ (j : Int) := by omega
          have F := hide (bfail_later2 N s n j T3 _ hb)
          have nb : n ≤ 160000 := by omega
          clear hb hn
          by_cases m8 : 0 < n % 8
          · have m8i : (0 : Int) < (n : Int) % 8 := by omega
            by_cases hl : n < 8 * s.size
            · have li : (n : Int) < 8 * (s.size : Int) := by omega
              clear m8 hl
              go_wp2_with fail
              refine (unhide F).mono ?_
              rintro e w9 ⟨rfl, rfl⟩
              go_wp2_with fail
              go_quiet (fail)
              go_wp2_with fail
              go_ret3
              rw [unhide HF]
              exact ⟨rfl, BL _ ((unhide AA).trans (Apart.drewN _ _ _))⟩
            · have li : ¬ (n : Int) < 8 * (s.size : Int) := by omega
              clear m8 hl
              go_wp2_with fail
              go_quiet (fail)
              go_wp2_with fail
              go_ret3
              rw [unhide HF]
              exact ⟨rfl, BL _ ((unhide AA).trans (Apart.drewN _ _ _))⟩
          · have m8i : ¬ (0 : Int) < (n : Int) % 8 := by omega
            by_cases hl : n < 8 * s.size
            · have li : (n : Int) < 8 * (s.size : Int) := by omega
              clear m8 hl
              go_wp2_with fail
              refine (unhide F).mono ?_
              rintro e w9 ⟨rfl, rfl⟩
              go_wp2_with fail
              go_quiet (fail)
              go_wp2_with fail
              go_ret3
              rw [unhide HF]
              exact ⟨rfl, BL _ ((unhide AA).trans (Apart.drewN _ _ _))⟩
            · have li : ¬ (n : Int) < 8 * (s.size : Int) := by omega
              clear m8 hl
              go_wp2_with fail
              go_quiet (fail)
              go_wp2_with fail
              go_ret3
              rw [unhide HF]
              exact ⟨rfl, BL _ ((unhide AA).trans (Apart.drewN _ _ _))⟩

theorem rdec_any (s : ByteArray) (hm : s.size ≤ maxLen) (w : World) :
    Calls Tryz.prog 43 #[.string s] w fun e w' => RDecEnd w (readC s) e w' := by
  by_cases hs : 20000 < s.size
  · exact rdec_long s w hs hm
  · exact rdec_short s w (by omega)

end Go.Proofs.YtoebmfhgaalcdaaGreatDoor

namespace Go.Proofs.YtoebmfhgaalcdaaGreatDoor
open Go.RowKit

theorem decode_both (s : ByteArray) (hm : s.size ≤ maxLen) : ∃ (A : ByteArray) (cd pl : Int),
    (∀ w, Tab w → Calls Tryz.prog 18 #[.string s] w fun o w' => o = .returned (.tuple #[.string A, .int .i64 cd, .int .i64 pl]) ∧ Below w.heap.size w w') ∧
    (∀ w, Calls Tryz.prog 43 #[.string s] w fun o w' => o = .returned (.tuple #[.string A, .int .i64 cd, .int .i64 pl]) ∧ Below w.heap.size w w') := by
  cases f : readC s using Rd1.cs with
  | bad e p =>
    refine ⟨_, _, _, fun w _ => decode_bad hm f w, fun w => ?_⟩
    have R := rdec_any s hm w
    rw [f] at R
    exact R
  | ok id ev =>
    refine ⟨_, _, _, fun w T => decode_ok hm f w T, fun w => ?_⟩
    have R := rdec_any s hm w
    rw [f] at R
    exact R

end Go.Proofs.YtoebmfhgaalcdaaGreatDoor
