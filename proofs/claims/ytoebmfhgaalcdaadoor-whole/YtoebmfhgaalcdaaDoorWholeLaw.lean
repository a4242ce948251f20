/-
  Our own. sprigskeep.Whole: true, whatever the input.
-/
import Derived.Test.YtoebmfhgaalcdaaDoorCausalLaw
namespace Go.Proofs.YtoebmfhgaalcdaaDoor
open Go.RowKit

/-- The first i members, joined; their shares together. -/
structure Acc (L : List Mem) (i : Nat) (id : Tr Bool) (ev : Tr Nat) (s : Nat) : Prop where
  pt : PT id ev
  cells : ∀ p, id.val p = true ↔ ∃ (q : Nat) (m : Mem), q < i ∧ L[q]? = some m ∧ m.id.val p = true
  know : ∀ (q : Nat) (m : Mem), q < i → L[q]? = some m → ∀ p, m.ev.val p ≤ ev.val p
  sum : s = ((L.take i).map (fun m => shareP m.id 256)).sum

theorem Acc.start (L : List Mem) : Acc L 0 (.leaf false) (.leaf 0) 0 := by
  refine ⟨⟨trivial, Nat.zero_le _, trivial, Nat.zero_le _, Nat.zero_le _⟩, fun p => ?_, fun q m h => by omega, by simp⟩
  constructor
  · intro h; cases h
  · rintro ⟨q, m, h, _⟩; omega
theorem Acc.free {L : List Mem} {i d : Nat} {id : Tr Bool} {ev : Tr Nat} {s : Nat} (A : Acc L i id ev s) (I : GInv L d) {m : Mem} (hm : L[i]? = some m) : clash id m.id = false := by
  rw [clash_no]
  intro p hp
  obtain ⟨q, m', hq, hm', hv⟩ := (A.cells p).1 hp
  exact I.excl q i m' m hm' hm (by omega) p hv
theorem Acc.step {L : List Mem} {i d : Nat} {id : Tr Bool} {ev : Tr Nat} {s : Nat} (A : Acc L i id ev s) (I : GInv L d) {m : Mem} (hm : L[i]? = some m) : Acc L (i + 1) (orB id m.id) (maxT ev m.ev) (s + shareP m.id 256) := by
  refine ⟨A.pt.join (I.pt i m hm), fun p => ?_, fun q m' hq hm' p => ?_, ?_⟩
  · rw [orB_val, Bool.or_eq_true, A.cells p]
    constructor
    · rintro (⟨q, m', h1, h2, h3⟩ | h)
      · exact ⟨q, m', by omega, h2, h3⟩
      · exact ⟨i, m, by omega, hm, h⟩
    · rintro ⟨q, m', h1, h2, h3⟩
      by_cases e : q = i
      · subst e; rw [hm] at h2; injection h2 with h2; subst h2; exact Or.inr h3
      · exact Or.inl ⟨q, m', by omega, h2, h3⟩
  · rw [maxT_val]
    by_cases e : q = i
    · subst e; rw [hm] at hm'; injection hm' with hm'; subst hm'; omega
    · have := A.know q m' (by omega) hm' p; omega
  · have hl := get_lt hm
    have e : L.take (i + 1) = L.take i ++ [m] := by
      rw [List.take_succ_eq_append_getElem hl]
      rw [List.getElem?_eq_getElem hl] at hm
      injection hm with hm
      rw [hm]
    rw [e, List.map_append, List.sum_append, ← A.sum]
    simp
theorem Acc.whole {L : List Mem} {d : Nat} {id : Tr Bool} {ev : Tr Nat} {s : Nat} (A : Acc L L.length id ev s) (I : GInv L d) : id = .leaf true ∧ s = 256 := by
  refine ⟨leaf_of_val true A.pt.pi fun p => ?_, ?_⟩
  · obtain ⟨q, m, hm, hv⟩ := I.total p
    exact (A.cells p).2 ⟨q, m, get_lt hm, hm, hv⟩
  · rw [A.sum, List.take_of_length_le (Nat.le_refl _)]; exact I.sum
theorem Acc.le {L : List Mem} {i d : Nat} {id : Tr Bool} {ev : Tr Nat} {s : Nat} (A : Acc L i id ev s) (I : GInv L d) : s ≤ 256 := by
  have h1 := A.sum
  have h2 := I.sum
  have e : L = L.take i ++ L.drop i := (List.take_append_drop i L).symm
  have : (L.map (fun m => shareP m.id 256)).sum = ((L.take i).map (fun m => shareP m.id 256)).sum + ((L.drop i).map (fun m => shareP m.id 256)).sum := by
    rw [← List.sum_append, ← List.map_append, ← e]
  omega
theorem some_cell {id : Tr Bool} (hp : plainT id) (h : id ≠ .leaf false) : ∃ p, id.val p = true := by
  refine Classical.byContradiction fun hn => h (leaf_of_val false hp fun p => ?_)
  cases e : id.val p with
  | false => rfl
  | true => exact absurd ⟨p, e⟩ hn
theorem clash_self {id m : Tr Bool} (hp : plainT m) (h : m ≠ .leaf false) : clash m (orB id m) = true := by
  obtain ⟨p, hv⟩ := some_cell hp h
  rw [clash_iff]
  exact ⟨p, hv, by rw [orB_val, hv, Bool.or_true]⟩

theorem whole_head (ev : Tr Nat) : 3 ≤ (tx (.leaf true) ev).size ∧ nx (tx (.leaf true) ev) 0 = 49 ∧ nx (tx (.leaf true) ev) 1 = 59 := by
  have e : wtext (.leaf true) ev = 49 :: 59 :: evText (toEv ev 0) := rfl
  refine ⟨?_, ?_, ?_⟩
  · rw [tx, strOf_size, e]
    have := evText_pos (toEv ev 0)
    simp; omega
  · rw [tx, nx_strOf, e]; rfl
  · rw [tx, nx_strOf, e]; rfl

theorem none_zero : ({ data := #[48, 59, 48] } : ByteArray) = tx (.leaf false) (.leaf 0) := by kernel_rfl

set_option maxRecDepth 100000 in
set_option maxHeartbeats 8000000 in
theorem whole_any (v : Value) (l : List Int) (w : World) (T : Tab w) (h : Sl w.heap.size w v l) :
    Calls Tryd.prog 4 #[v] w fun e w' => e = .returned (.bool true) ∧ Below w.heap.size w w' := by
  have GR := hide (grown_any v l w T h)
  obtain ⟨hl, ⟨p, cap0, rfl, _⟩, _⟩ := h
  replace T := hide T
  go_enter Tryd.func4, Tryd.ntmps4
  go_wp2_with fail
  refine (unhide GR).mono ?_
  rintro o w1 ⟨gb, sv, L, d, rfl, G, I, hp, hL, b1⟩
  obtain ⟨g, cap, rfl, hBg, hgl, hgg, hlc, hcm, _, _, _⟩ := G.form hp
  have GC : Hid (∀ w', Gr w.heap.size gb w' (.slice (some ⟨g, 0, none⟩) L.length cap) L d → ∀ (i : Nat) (m : Mem), L[i]? = some m → w'.cell? ⟨g, i * 62, none⟩ = some (.string (tx m.id m.ev)) ∧ w'.cell? ⟨g, i * 62 + 61, none⟩ = some (.bool m.peek)) := hide fun w' G' i m hm => by
    have a := (G'.at hm 0 _ (mcells_at m).1).1
    have b := (G'.at hm 61 _ (mcells_at m).2.1).1
    rw [Nat.add_zero] at a
    exact ⟨a, b⟩
  replace I := hide I
  replace G := hide G
  replace b1 := hide b1
  clear GR hcm hlc hgl
  go_wp2_with fail
  go_loopg [5, 6, 7] L.length (fun q su al x wr => ∃ (i : Nat) (id : Tr Bool) (ev : Tr Nat) (s : Nat), i + q = L.length ∧ su = .int .i64 (s : Nat) ∧ al = .string (tx id ev) ∧ x = .int .i64 (i : Nat) ∧ Acc L i id ev s ∧ Gr w.heap.size gb wr (.slice (some ⟨g, 0, none⟩) L.length cap) L d ∧ Below w.heap.size w wr)
  case atStart => exact ⟨0, _, _, 0, by omega, rfl, by rw [none_zero], rfl, Acc.start L, unhide G, unhide b1⟩
  case round =>
    obtain ⟨i, id, ev, s, hi, rfl, rfl, rfl, A, G2, hb2⟩ := hrel
    clear G b1
    have HI := hide hi
    have hil0 : i ≤ L.length := by omega
    clear hi
    have c0 := G2.cells.1
    by_cases hlt : i < L.length
    · have i0 : (0 : Int) ≤ (i : Int) := by omega
      have i1 : (i : Int) < (L.length : Int) := by omega
      obtain ⟨m, hm⟩ : ∃ m, L[i]? = some m := ⟨_, List.getElem?_eq_getElem hlt⟩
      have Pm := (unhide I).pt i m hm
      have SH := share_T Pm
      have JN := join_T A.pt Pm (A.free (unhide I) hm)
      have A2 := A.step (unhide I) hm
      have s2 := A2.le (unhide I)
      have hpk := (unhide I).share hm
      have JC : m.id ≠ .leaf false → ∀ w', Calls Tryd.prog 13 #[.string (tx m.id m.ev), .string (tx (orB id m.id) (maxT ev m.ev))] w' fun o w'' => o = .returned (.tuple #[.string { data := #[] }, .int .i64 5]) ∧ Below w'.heap.size w' w'' := fun hne w' => clash_T Pm A2.pt (clash_self Pm.pi hne) w'
      have NE : shareP m.id 256 ≠ 0 → m.id ≠ .leaf false := fun h e => h (by rw [e]; rfl)
      obtain ⟨cs, cp⟩ := unhide GC wr G2 i m hm
      replace G2 := hide G2
      replace hb2 := hide hb2
      replace SH := hide SH
      replace JN := hide JN
      replace A := hide A
      replace A2 := hide A2
      have JC2 : Hid (shareP m.id 256 ≠ 0 → ∀ w', Calls Tryd.prog 13 #[.string (tx m.id m.ev), .string (tx (orB id m.id) (maxT ev m.ev))] w' fun o w'' => o = .returned (.tuple #[.string { data := #[] }, .int .i64 5]) ∧ Below w'.heap.size w' w'') := hide fun h => JC (NE h)
      clear JC NE Pm
      generalize hSx : tx m.id m.ev = Sx at *
      generalize hX : tx (orB id m.id) (maxT ev m.ev) = X at *
      generalize hY : tx id ev = Y at *
      generalize hz : shareP m.id 256 = z at *
      generalize hq : m.peek = pk at *
      replace hX := hide hX
      clear hSx hY hz hq
      go_wp2_with fail
      refine (unhide SH _).mono ?_
      rintro o w3 ⟨rfl, b3⟩
      have c0b := cell_keep b3 c0
      have csb := cell_keep b3 cs
      have cpb := cell_keep b3 cp
      replace G2 := hide ((unhide G2).keep b3)
      replace hb2 := hide (below_trans (unhide hb2) b3)
      clear c0 cs cp b3
      go_wp2_with fail
      refine (unhide JN _ ((unhide T).below (unhide hb2))).mono ?_
      rintro o w4 ⟨rfl, b4⟩
      have c0 := cell_keep b4 c0b
      have cs := cell_keep b4 csb
      have cp := cell_keep b4 cpb
      replace G2 := hide ((unhide G2).keep b4)
      replace hb2 := hide (below_trans (unhide hb2) b4)
      clear c0b csb cpb b4
      cases pk
      · have hz0 : z ≠ 0 := fun e => by have := hpk.1 e; cases this
        have JC := hide (unhide JC2 hz0)
        have z0 : ((z : Int) == 0) = false := beq_eq_false_iff_ne.2 (by omega)
        have z1 : (0 : Int) < (z : Int) := by omega
        clear hpk JC2
        go_wp2_with fail
        refine (unhide JC _).mono ?_
        rintro o w5 ⟨rfl, b5⟩
        replace G2 := hide ((unhide G2).keep b5)
        replace hb2 := hide (below_trans (unhide hb2) b5)
        clear b5 c0 cs cp
        go_wp2_with fail
        go_roundg (L.length - (i + 1))
        case measure => have := unhide HI; omega
        case rel => exact ⟨i + 1, _, _, _, by omega, by go_num, by rw [unhide hX], by go_num, unhide A2, unhide G2, unhide hb2⟩
      · have hz0 : z = 0 := hpk.2 rfl
        subst hz0
        clear hpk JC2
        go_wp2_with fail
        go_roundg (L.length - (i + 1))
        case measure => have := unhide HI; omega
        case rel => exact ⟨i + 1, _, _, _, by omega, by go_num, by rw [unhide hX], by go_num, unhide A2, unhide G2, unhide hb2⟩
    · have i1 : ¬ (i : Int) < (L.length : Int) := by omega
      have hiL : i = L.length := by omega
      subst hiL
      obtain ⟨rfl, rfl⟩ := A.whole (unhide I)
      have SH := share_T A.pt
      rw [share_true] at SH
      replace SH := hide SH
      have KN := hide A.know
      have PA := hide A.pt
      obtain ⟨z1, z2, z3⟩ := whole_head ev
      clear A
      replace G2 := hide G2
      replace hb2 := hide hb2
      have LE : ∀ (j : Nat) (m : Mem), L[j]? = some m → ∀ w', Calls Tryd.prog 10 #[.string (tx m.id m.ev), .string (tx (.leaf true) ev)] w' fun o w'' => o = .returned (.tuple #[.bool true, .int .i64 0]) ∧ Below w'.heap.size w' w'' := fun j m hm w' => by
        have := leq_T ((unhide I).pt j m hm) (unhide PA) w'
        rw [(atMost_iff m.ev ev).2 (unhide KN j m (get_lt hm) hm)] at this
        exact this
      replace LE := hide LE
      generalize hS : tx (.leaf true) ev = S at *
      clear hS
      have y0 : (S[0]'(by omega)).toNat = 49 := by rw [← nx_in]; exact z2
      have y1 : (S[1]'(by omega)).toNat = 59 := by rw [← nx_in]; exact z3
      have z4 : ¬ (S.size : Int) < 3 := by omega
      have z5 : (1 : Int) < (S.size : Int) := by omega
      have z6 : (0 : Int) < (S.size : Int) := by omega
      clear z2 z3
      go_wp2_with fail
      refine (unhide SH _).mono ?_
      rintro o w3 ⟨rfl, b3⟩
      replace G2 := hide ((unhide G2).keep b3)
      replace hb2 := hide (below_trans (unhide hb2) b3)
      clear c0 b3
      go_wp2_with fail
      go_loopg [16] L.length (fun q x wr => ∃ j : Nat, j + q = L.length ∧ x = .int .i64 (j : Nat) ∧ Gr w.heap.size gb wr (.slice (some ⟨g, 0, none⟩) L.length cap) L d ∧ Below w.heap.size w wr)
      case atStart => exact ⟨0, by omega, rfl, unhide G2, unhide hb2⟩
      case round =>
        obtain ⟨j, hj, rfl, G4, hb4⟩ := hrel
        clear G2 hb2
        have HJ := hide hj
        have hjl0 : j ≤ L.length := by omega
        clear hj
        have c0 := G4.cells.1
        by_cases hlj : j < L.length
        · have j0 : (0 : Int) ≤ (j : Int) := by omega
          have j1 : (j : Int) < (L.length : Int) := by omega
          obtain ⟨m, hm⟩ : ∃ m, L[j]? = some m := ⟨_, List.getElem?_eq_getElem hlj⟩
          obtain ⟨cs, _⟩ := unhide GC wr G4 j m hm
          have LQ := hide (unhide LE j m hm)
          generalize tx m.id m.ev = Sx at *
          replace G4 := hide G4
          replace hb4 := hide hb4
          go_wp2_with fail
          refine (unhide LQ _).mono ?_
          rintro o w5 ⟨rfl, b5⟩
          replace G4 := hide ((unhide G4).keep b5)
          replace hb4 := hide (below_trans (unhide hb4) b5)
          clear b5 c0 cs
          go_wp2_with fail
          go_roundg (L.length - (j + 1))
          case measure => have := unhide HJ; omega
          case rel => exact ⟨j + 1, by omega, by go_num, unhide G4, unhide hb4⟩
        · have j1 : ¬ (j : Int) < (L.length : Int) := by omega
          replace G4 := hide G4
          replace hb4 := hide hb4
          go_wp2_with fail
          go_ret
          exact ⟨rfl, unhide hb4⟩

end Go.Proofs.YtoebmfhgaalcdaaDoor
