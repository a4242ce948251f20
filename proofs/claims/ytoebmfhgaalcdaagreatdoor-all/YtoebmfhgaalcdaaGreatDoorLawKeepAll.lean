/-
  Our own. (*sprigslaw.World).keep and of: the stamps that came out.
-/
import Derived.Test.YtoebmfhgaalcdaaGreatDoorRefJoin
import Derived.Deep.AppendLies
import Derived.Test.YtoebmfhgaalcdaaGreatDoorRefForkAll
import Derived.Test.YtoebmfhgaalcdaaGreatDoorRefBad
import Derived.Test.YtoebmfhgaalcdaaGreatDoorStamps
namespace Go.Proofs.YtoebmfhgaalcdaaGreatDoor
open Go.RowKit

/-- The world of a script: the strings that are kept. -/
structure Kw (B wb : Nat) (w : World) (sv : Value) (L : List ByteArray) : Prop where
  box : w.heap[wb]? = some (.cells #[sv] 49)
  base : B ≤ wb
  row : w.ownsRow B 9 1 sv L.length (L.map Value.string)
  few : L.length ≤ 40
  small : ∀ s ∈ L, s.size ≤ 20000

theorem Kw.keep {B wb : Nat} {w w' : World} {sv : Value} {L : List ByteArray} (h : Kw B wb w sv L) (hb : Below w.heap.size w w') : Kw B wb w' sv L := by
  refine ⟨(hb.block wb (lt_of_heap h.box)).trans h.box, h.base, ?_, h.few, h.small⟩
  obtain ⟨h1, h2⟩ := h.row
  refine ⟨h1, ?_⟩
  rcases h2 with h2 | ⟨g, cap, cur, e1, e2, e3, e4, e5, e6, e7⟩
  · exact Or.inl h2
  · exact Or.inr ⟨g, cap, cur, e1, e2, (hb.block g (lt_of_heap e3)).trans e3, e4, e5, e6, e7⟩
theorem cellsW {w : World} {k : Nat} {a : Value} {ty : Nat} (h : w.heap[k]? = some (.cells #[a] ty)) : w.cell? ⟨k, 0, none⟩ = some a ∧ (∀ o, w.frozen? ⟨k, o, none⟩ = false) := by
  refine ⟨?_, ?_⟩
  · simp [World.cell?, h]
  · intro o; simp [World.frozen?, h]
theorem Kw.form {B wb : Nat} {w : World} {sv : Value} {L : List ByteArray} (h : Kw B wb w sv L) : (sv = .slice none 0 0 ∧ L = []) ∨ ∃ g cap, sv = .slice (some ⟨g, 0, none⟩) L.length cap ∧ g ≠ wb ∧ (∀ j s, L[j]? = some s → w.cell? ⟨g, j, none⟩ = some (.string s)) := by
  obtain ⟨h1, h2⟩ := h.row
  rcases h2 with ⟨e, hl⟩ | ⟨g, cap, cur, e1, e2, e3, e4, e5, e6, e7⟩
  · exact Or.inl ⟨e, List.length_eq_zero_iff.1 hl⟩
  · refine Or.inr ⟨g, cap, e1, ?_, fun j s hj => ?_⟩
    · rintro rfl
      have hb := h.box
      rw [e3] at hb
      injection hb with hb
      injection hb with _ h9
      exact absurd h9 (by decide)
    · have hl : j < L.length := by
        rcases Nat.lt_or_ge j L.length with g | g
        · exact g
        · rw [List.getElem?_eq_none g] at hj; cases hj
      have : cur[j]? = some (.string s) := by
        have h9 : (L.map Value.string)[j]? = some (.string s) := by rw [List.getElem?_map, hj]; rfl
        rw [← e7, List.getElem?_take_of_lt (by omega)] at h9
        simpa using h9
      simp only [World.cell?, e3]
      simpa using this

theorem Tryz.infoStr : (Tryz.prog.info? 9).map (fun i => (i.zero, i.size, i.bytes)) = some (some (.string { data := #[] }), 1, 16) := by kernel_rfl

/-- A row with one string more, stored back. -/
theorem Kw.appended {B wb : Nat} {w : World} {sv : Value} {L : List ByteArray} (K : Kw B wb w sv L) (hB : B ≤ w.heap.size) (s : ByteArray) (hs : s.size ≤ 20000) (hf : L.length < 40) {g' cap' : Nat} {w4 : World}
    (hown : w4.ownsRow B 9 1 (.slice (some ⟨g', 0, none⟩) (L.length + 1) cap') (L.length + 1) (L.map Value.string ++ [Value.string s])) (hgrow : w.grownBy w4 sv.ownBlock) :
    Kw B wb (w4.setCell ⟨wb, 0, none⟩ (.slice (some ⟨g', 0, none⟩) (L.length + 1) cap')) (.slice (some ⟨g', 0, none⟩) (L.length + 1) cap') (L ++ [s]) ∧ Below B w (w4.setCell ⟨wb, 0, none⟩ (.slice (some ⟨g', 0, none⟩) (L.length + 1) cap')) ∧
    w4.cell? ⟨wb, 0, none⟩ = some sv ∧ (∀ o, w4.frozen? ⟨wb, o, none⟩ = false) := by
  have hne : some wb ≠ sv.ownBlock := by
    rcases K.form with ⟨rfl, _⟩ | ⟨g, cap, rfl, h, _⟩
    · intro e; cases e
    · show some wb ≠ some g
      intro e; injection e with e; exact h e.symm
  have hlt := lt_of_heap K.box
  have eb : w4.heap[wb]? = w.heap[wb]? := hgrow.block wb hlt hne
  have hB4 : Below B w w4 := by
    refine ⟨hgrow.os, hgrow.tape, hgrow.output, hgrow.size, fun k hk => hgrow.block k (by omega) fun e => ?_⟩
    have := (World.ownsRow.lt K.row) k e.symm
    omega
  have c4 := cellsW (eb.trans K.box)
  refine ⟨⟨?_, K.base, ?_, by rw [List.length_append]; show L.length + 1 ≤ 40; omega, ?_⟩, hB4.trans (below_set1 w4 K.base _ 0), c4.1, c4.2⟩
  · have := eb.trans K.box
    simp [World.setCell, Array.getElem?_modify, this]
  · rw [List.map_append, List.length_append]
    obtain ⟨k1, k2⟩ := hown
    refine ⟨k1, ?_⟩
    rcases k2 with ⟨h, _⟩ | ⟨g9, cap9, cur, e1, e2, e3, e4, e5, e6, e7⟩
    · cases h
    · refine Or.inr ⟨g9, cap9, cur, e1, e2, ?_, e4, e5, e6, e7⟩
      have hg9 : g9 ≠ wb := by
        rintro rfl
        have hb := eb.trans K.box
        rw [e3] at hb
        injection hb with hb
        injection hb with _ h9
        exact absurd h9 (by decide)
      rw [Below.heap_setCell _ _ _ g9 hg9]; exact e3
  · intro x hx
    rw [List.mem_append, List.mem_singleton] at hx
    rcases hx with hx | rfl
    · exact K.small x hx
    · exact hs

/-- What keep leaves. -/
def Kept (B wb : Nat) (w w' : World) : Prop := Below B w w' ∧ ∃ sv' L', Kw B wb w' sv' L'
theorem toList_eq (c : ByteArray) : c.toList = c.data.toList := by
  have e : strOf c.data.toList = c := by cases c; simp [strOf]
  have := strOf_list c.data.toList
  rwa [e] at this

set_option maxRecDepth 100000 in
set_option maxHeartbeats 2000000 in
theorem keep_any (B wb : Nat) (w : World) (sv : Value) (L : List ByteArray) (s : ByteArray) (hs : s.size ≤ 20000) (K : Kw B wb w sv L) (hB : B ≤ w.heap.size) :
    Calls Tryz.prog 41 #[.pointer (some ⟨wb, 0, none⟩), .string s] w fun e w' => e = .returned (.tuple #[]) ∧ Kept B wb w w' := by
  have c0 := (cellsW K.box).1
  by_cases he : s.size = 0
  · have hd : (s.toList == []) = true := by
      rw [toList_eq, beq_iff_eq, ← List.length_eq_zero_iff]; simpa using he
    replace K := hide K
    replace he := hide he
    go_enter Tryz.func41, Tryz.ntmps41
    go_wp2_with fail
    go_end0
    exact ⟨rfl, Below.refl _ _, sv, L, unhide K⟩
  · have hd : (s.toList == []) = false := by
      rw [beq_eq_false_iff_ne]
      intro e
      have := congrArg List.length e
      rw [toList_eq] at this
      exact he (by simpa using this)
    obtain ⟨i0, hi, hz0, hz1, hz2⟩ := info_parts Tryz.infoStr
    replace he := hide he
    have FM := K.form
    by_cases hf : L.length < 40
    · have KA := K.keep (below_alloc w (.cells #[.string s] 9))
      have RW := hide KA.row
      have sz1 : (w.alloc (.cells #[.string s] 9)).heap.size = w.heap.size + 1 := by simp
      have szB : Hid (B ≤ (w.alloc (.cells #[.string s] 9)).heap.size) := hide (by omega)
      have AP := hide (fun g' cap' w4 hown hgrow => KA.appended (g' := g') (cap' := cap') (w4 := w4) (unhide szB) s hs hf hown hgrow)
      clear sz1
      have NW := hide (World.news_of_block (heap_new w (.cells #[.string s] 9)))
      have BW := hide ((below_alloc w (.cells #[.string s] 9)).mono hB)
      clear KA K
      rcases FM with ⟨rfl, rfl⟩ | ⟨g, cap, rfl, _, _⟩
      · go_enter Tryz.func41, Tryz.ntmps41
        go_wp2_with (at_builtin; refine wpList_append_lies _ rfl _ _ 28 rfl B 9 i0 (.string { data := #[] }) 1 16 Tryz.underlying28 hi hz0 hz1 hz2 rfl (by decide) (.slice none 0 0) 0 [] rfl (unhide RW) ⟨w.heap.size, 0, none⟩ 1 1 [.string s] rfl rfl (unhide NW) (by intro u hu; simp at hu; subst hu; rfl) (by omega) (by unfold maxLen; omega) (by omega) (unhide szB) _ rfl ?_; intro g9 cap9 w9 hown9 hgrow9 hat9 hlt9; clear hat9 hlt9; obtain ⟨K9, B9, C9, F9⟩ := unhide AP g9 cap9 w9 hown9 hgrow9; replace K9 := hide K9; replace B9 := hide B9; replace hown9 := hide hown9; replace hgrow9 := hide hgrow9)
        go_end0
        exact ⟨rfl, (unhide BW).trans (unhide B9), _, _, unhide K9⟩
      · have hf2 : (L.length : Int) < 40 := by omega
        go_enter Tryz.func41, Tryz.ntmps41
        go_wp2_with (at_builtin; refine wpList_append_lies _ rfl _ _ 28 rfl B 9 i0 (.string { data := #[] }) 1 16 Tryz.underlying28 hi hz0 hz1 hz2 rfl (by decide) (.slice (some ⟨g, 0, none⟩) L.length cap) L.length (L.map Value.string) rfl (unhide RW) ⟨w.heap.size, 0, none⟩ 1 1 [.string s] rfl rfl (unhide NW) (by intro u hu; simp at hu; subst hu; rfl) (by omega) (by unfold maxLen; omega) (by omega) (unhide szB) _ rfl ?_; intro g9 cap9 w9 hown9 hgrow9 hat9 hlt9; clear hat9 hlt9; obtain ⟨K9, B9, C9, F9⟩ := unhide AP g9 cap9 w9 hown9 hgrow9; replace K9 := hide K9; replace B9 := hide B9; replace hown9 := hide hown9; replace hgrow9 := hide hgrow9)
        go_end0
        exact ⟨rfl, (unhide BW).trans (unhide B9), _, _, unhide K9⟩
    · rcases FM with ⟨rfl, rfl⟩ | ⟨g, cap, rfl, _, _⟩
      · exact absurd (show 0 < 40 by omega) hf
      · have hf2 : ¬ (L.length : Int) < 40 := by omega
        replace K := hide K
        go_enter Tryz.func41, Tryz.ntmps41
        go_wp2_with fail
        go_end0
        exact ⟨rfl, Below.refl _ _, _, L, unhide K⟩

/-- The text that is meant. -/
def ofP (L : List ByteArray) (a : Int) (s : ByteArray) : ByteArray := if 0 < a ∧ 0 < L.length then L.getD (a % (L.length : Int)).toNat s else s
theorem ofP_size (L : List ByteArray) (hL : ∀ s ∈ L, s.size ≤ 20000) (a : Int) (s : ByteArray) (hs : s.size ≤ maxLen) : (ofP L a s).size ≤ maxLen := by
  unfold ofP
  split
  · rw [List.getD_eq_getElem?_getD]
    cases h : L[(a % (L.length : Int)).toNat]? with
    | none => exact hs
    | some x =>
      have := hL x (List.mem_of_getElem? h)
      show x.size ≤ maxLen
      unfold maxLen; omega
  · exact hs

set_option maxRecDepth 100000 in
set_option maxHeartbeats 2000000 in
theorem of_any (B wb : Nat) (w : World) (sv : Value) (L : List ByteArray) (a : Int) (s : ByteArray) (ha : a ≤ 9223372036854775807) (K : Kw B wb w sv L) :
    Calls Tryz.prog 37 #[.pointer (some ⟨wb, 0, none⟩), .int .i64 a, .string s] w fun e w' => e = .returned (.string (ofP L a s)) ∧ Below w.heap.size w w' := by
  have c0 := (cellsW K.box).1
  rcases K.form with ⟨rfl, rfl⟩ | ⟨g, cap, rfl, hg, hc⟩
  · have e : ofP [] a s = s := by unfold ofP; rw [if_neg (fun h => absurd h.2 (by simp))]
    rw [e]
    clear K e
    by_cases h0 : 0 < a
    · go_enter Tryz.func37, Tryz.ntmps37
      go_wp2_with fail
      go_ret
      exact ⟨rfl, Below.refl _ _⟩
    · go_enter Tryz.func37, Tryz.ntmps37
      go_wp2_with fail
      go_ret
      exact ⟨rfl, Below.refl _ _⟩
  · have hfew := K.few
    by_cases h0 : 0 < a
    · by_cases hp : 0 < L.length
      · have m1 := Int.emod_nonneg a (show (L.length : Int) ≠ 0 by omega)
        have m2 := Int.emod_lt_of_pos a (show (0 : Int) < (L.length : Int) by omega)
        have hk : (a % (L.length : Int)).toNat < L.length := by omega
        have e : ofP L a s = L[(a % (L.length : Int)).toNat] := by
          unfold ofP
          rw [if_pos ⟨h0, hp⟩, List.getD_eq_getElem?_getD, List.getElem?_eq_getElem hk]; rfl
        have cx := hc (a % (L.length : Int)).toNat _ (List.getElem?_eq_getElem hk)
        rw [e]
        generalize L[(a % (L.length : Int)).toNat] = X at *
        have p1 : (0 : Int) < (L.length : Int) := by omega
        have a0 : (0 : Int) ≤ a := by omega
        clear K hc e hk
        go_enter Tryz.func37, Tryz.ntmps37
        go_wp2_with fail
        go_quiet (fail)
        go_wp2_with fail
        go_ret
        exact ⟨rfl, below_drewN _ _⟩
      · have e : ofP L a s = s := by unfold ofP; rw [if_neg (fun h => hp h.2)]
        rw [e]
        have p1 : ¬ (0 : Int) < (L.length : Int) := by omega
        clear K e hc
        go_enter Tryz.func37, Tryz.ntmps37
        go_wp2_with fail
        go_ret
        exact ⟨rfl, Below.refl _ _⟩
    · have e : ofP L a s = s := by unfold ofP; rw [if_neg (fun h => h0 h.1)]
      rw [e]
      clear K e hc
      go_enter Tryz.func37, Tryz.ntmps37
      go_wp2_with fail
      go_ret
      exact ⟨rfl, Below.refl _ _⟩

end Go.Proofs.YtoebmfhgaalcdaaGreatDoor

namespace Go.Proofs.YtoebmfhgaalcdaaGreatDoor
open Go.RowKit

theorem tx_small {id : Tr Bool} {ev : Tr Nat} (P : PT id ev) : (tx id ev).size ≤ 20000 := by have := P.size20; omega
theorem empty_small : ({ data := #[] } : ByteArray).size ≤ 20000 := Nat.zero_le _

theorem fork_both (s : ByteArray) (hm : s.size ≤ maxLen) : ∃ (A B : ByteArray) (cd : Int), A.size ≤ 20000 ∧ B.size ≤ 20000 ∧
    (∀ w, Tab w → Calls Tryz.prog 11 #[.string s] w fun o w' => o = .returned (.tuple #[.string A, .string B, .int .i64 cd]) ∧ Below w.heap.size w w') ∧
    (∀ w, Calls Tryz.prog 82 #[.string s] w fun o w' => o = .returned (.tuple #[.string A, .string B, .int .i64 cd]) ∧ Below w.heap.size w w') := by
  cases f : readR s using Rd1.cs with
  | bad e p => exact ⟨_, _, _, empty_small, empty_small, fun w _ => fork_bad hm f w, fun w => rFork_bad hm f w⟩
  | ok id ev =>
    have P := (readR_inv f).1
    by_cases h : shareP id 256 ≤ 1
    · exact ⟨_, _, _, empty_small, empty_small, fun w _ => fork_few hm f h w, fun w => rFork_few hm f h w⟩
    · have h2 : 2 ≤ shareP id 256 := by omega
      obtain ⟨Pa, Pb, _⟩ := P.cut h2
      exact ⟨_, _, _, tx_small Pa, tx_small Pb, fun w T => fork_ok hm f h2 Pa Pb w T, fun w => rFork_ok hm f h2 w⟩

theorem peek_both (s : ByteArray) (hm : s.size ≤ maxLen) : ∃ (A : ByteArray) (cd : Int), A.size ≤ 20000 ∧
    (∀ w, Tab w → Calls Tryz.prog 12 #[.string s] w fun o w' => o = .returned (.tuple #[.string A, .int .i64 cd]) ∧ Below w.heap.size w w') ∧
    (∀ w, Calls Tryz.prog 83 #[.string s] w fun o w' => o = .returned (.tuple #[.string A, .int .i64 cd]) ∧ Below w.heap.size w w') := by
  cases f : readR s using Rd1.cs with
  | bad e p => exact ⟨_, _, empty_small, fun w _ => peek_bad hm f w, fun w => rPeek_bad hm f w⟩
  | ok id ev =>
    have P := (readR_inv f).1
    exact ⟨_, _, tx_small P.none, fun w T => peek_ok hm f P.none w T, fun w => rPeek_ok hm f w⟩

theorem join_both (s t : ByteArray) (hm : s.size ≤ maxLen) (ht : t.size ≤ maxLen) : ∃ (A : ByteArray) (cd : Int), A.size ≤ 20000 ∧
    (∀ w, Tab w → Calls Tryz.prog 13 #[.string s, .string t] w fun o w' => o = .returned (.tuple #[.string A, .int .i64 cd]) ∧ Below w.heap.size w w') ∧
    (∀ w, Calls Tryz.prog 84 #[.string s, .string t] w fun o w' => o = .returned (.tuple #[.string A, .int .i64 cd]) ∧ Below w.heap.size w w') := by
  cases f : readR s using Rd1.cs with
  | bad e p => exact ⟨_, _, empty_small, fun w _ => join_bad1 hm f w, fun w => rJoin_bad1 hm f w⟩
  | ok i1 e1 =>
    cases g : readR t using Rd1.cs with
    | bad e p => exact ⟨_, _, empty_small, fun w _ => join_bad2 hm f ht g w, fun w => rJoin_bad2 hm f ht g w⟩
    | ok i2 e2 =>
      have PJ := (readR_inv f).1.join (readR_inv g).1
      have R := fun w => rJoin_ok hm ht f g w
      by_cases hc : clash i1 i2 = true
      · rw [if_pos hc, if_pos hc] at R
        exact ⟨_, _, empty_small, fun w _ => join_clash hm ht f g hc w, R⟩
      · rw [if_neg hc, if_neg hc] at R
        have hc2 : clash i1 i2 = false := by simpa using hc
        exact ⟨_, _, tx_small PJ, fun w T => join_ok hm ht f g hc2 PJ w T, R⟩

theorem share_both (s : ByteArray) (hm : s.size ≤ maxLen) : ∃ n cd : Int,
    (∀ w, Calls Tryz.prog 14 #[.string s] w fun o w' => o = .returned (.tuple #[.int .i64 n, .int .i64 cd]) ∧ Below w.heap.size w w') ∧
    (∀ w, Calls Tryz.prog 85 #[.string s] w fun o w' => o = .returned (.tuple #[.int .i64 n, .int .i64 cd]) ∧ Below w.heap.size w w') := by
  cases f : readR s using Rd1.cs with
  | bad e p => exact ⟨_, _, fun w => share_bad hm f w, fun w => rShares_bad hm f w⟩
  | ok id ev => exact ⟨_, _, fun w => share_ok hm f w, fun w => rShares_ok hm f w⟩

theorem leq_both (s t : ByteArray) (hm : s.size ≤ maxLen) (ht : t.size ≤ maxLen) : ∃ (A : Bool) (cd : Int),
    (∀ w, Calls Tryz.prog 16 #[.string s, .string t] w fun o w' => o = .returned (.tuple #[.bool A, .int .i64 cd]) ∧ Below w.heap.size w w') ∧
    (∀ w, Calls Tryz.prog 86 #[.string s, .string t] w fun o w' => o = .returned (.tuple #[.bool A, .int .i64 cd]) ∧ Below w.heap.size w w') := by
  cases f : readR s using Rd1.cs with
  | bad e p => exact ⟨_, _, fun w => leq_bad1 hm f w, fun w => rLeq_bad1 hm f w⟩
  | ok i1 e1 =>
    cases g : readR t using Rd1.cs with
    | bad e p => exact ⟨_, _, fun w => leq_bad2 hm f ht g w, fun w => rLeq_bad2 hm f ht g w⟩
    | ok i2 e2 => exact ⟨_, _, fun w => leq_ok hm ht f g w, fun w => rLeq_ok hm ht f g w⟩

theorem check_both (s : ByteArray) (hm : s.size ≤ maxLen) : ∃ cd pl : Int,
    (∀ w, Calls Tryz.prog 10 #[.string s] w fun o w' => o = .returned (.tuple #[.int .i64 cd, .int .i64 pl]) ∧ Below w.heap.size w w') ∧
    (∀ w, Calls Tryz.prog 38 #[.string s] w fun o w' => ∃ v, o = .returned (.tuple #[v, .int .i64 cd, .int .i64 pl]) ∧ Below w.heap.size w w') := by
  have C := fun w => check_any s w hm
  cases f : readR s using Rd1.cs with
  | bad e p =>
    rw [chk_of_bad f] at C
    exact ⟨_, _, C, fun w => (rread_bad hm f w).mono fun o w' ⟨h1, h2⟩ => ⟨_, h1, h2⟩⟩
  | ok id ev =>
    rw [chk_of_ok f] at C
    exact ⟨_, _, C, fun w => (rread_ok hm f w).mono fun o w' ⟨b, h1, _, _, h2⟩ => ⟨_, h1, h2⟩⟩

end Go.Proofs.YtoebmfhgaalcdaaGreatDoor

namespace Go.Proofs.YtoebmfhgaalcdaaGreatDoor
open Go.RowKit

/-- A script under way. -/
def Going (w0 : World) (wb : Nat) (w : World) : Prop := Below w0.heap.size w0 w ∧ ∃ sv L, Kw w0.heap.size wb w sv L
theorem Going.keep {w0 w w' : World} {wb : Nat} (h : Going w0 wb w) (hb : Below w.heap.size w w') : Going w0 wb w' := by
  obtain ⟨h1, sv, L, K⟩ := h
  exact ⟨h1.trans (hb.mono h1.size), sv, L, K.keep hb⟩
theorem Going.tab {w0 w : World} {wb : Nat} (h : Going w0 wb w) (T : Tab w0) : Tab w := T.below h.1
theorem keep_go (w0 w : World) (wb : Nat) (G : Going w0 wb w) (s : ByteArray) (hs : s.size ≤ 20000) : Calls Tryz.prog 41 #[.pointer (some ⟨wb, 0, none⟩), .string s] w fun e w' => e = .returned (.tuple #[]) ∧ Going w0 wb w' := by
  obtain ⟨h1, sv, L, K⟩ := G
  refine (keep_any w0.heap.size wb w sv L s hs K h1.size).mono ?_
  rintro e w' ⟨rfl, b, sv', L', K'⟩
  exact ⟨rfl, h1.trans b, sv', L', K'⟩
theorem of_go (w0 w : World) (wb : Nat) (G : Going w0 wb w) (a : Int) (s : ByteArray) (ha : a ≤ 9223372036854775807) (hs : s.size ≤ maxLen) : ∃ r : ByteArray, r.size ≤ maxLen ∧ Calls Tryz.prog 37 #[.pointer (some ⟨wb, 0, none⟩), .int .i64 a, .string s] w fun e w' => e = .returned (.string r) ∧ Going w0 wb w' ∧ Below w.heap.size w w' := by
  obtain ⟨h1, sv, L, K⟩ := G
  refine ⟨ofP L a s, ofP_size L K.small a s hs, (of_any w0.heap.size wb w sv L a s ha K).mono ?_⟩
  rintro e w' ⟨rfl, b⟩
  exact ⟨rfl, ⟨h1.trans (b.mono h1.size), sv, L, K.keep b⟩, b⟩

set_option maxRecDepth 100000 in
set_option maxHeartbeats 2000000 in
theorem pieces_fork (w0 w : World) (T0 : Tab w0) (wb : Nat) (G : Going w0 wb w) (s t : ByteArray) (hs : s.size ≤ maxLen) (_ht : t.size ≤ maxLen) : Calls Tryz.prog 39 #[.pointer (some ⟨wb, 0, none⟩), .int .i64 2, .string s, .string t] w fun e w' => e = .returned (.bool true) ∧ Going w0 wb w' := by
  obtain ⟨A, B, cd, hA, hB, C1, C2⟩ := fork_both s hs
  replace C1 := hide C1
  replace C2 := hide C2
  replace T0 := hide T0
  replace G := hide G
  go_enter Tryz.func39, Tryz.ntmps39
  go_wp2_with fail
  refine (unhide C1 _ ((unhide G).tab (unhide T0))).mono ?_
  rintro o w1 ⟨rfl, b1⟩
  replace G := hide ((unhide G).keep b1)
  clear b1
  go_wp2_with fail
  refine (unhide C2 _).mono ?_
  rintro o w2 ⟨rfl, b2⟩
  replace G := hide ((unhide G).keep b2)
  clear b2
  go_wp2_with fail
  refine (keep_go w0 _ wb (unhide G) A hA).mono ?_
  rintro o w3 ⟨rfl, g3⟩
  replace G := hide g3
  clear g3
  go_wp2_with fail
  refine (keep_go w0 _ wb (unhide G) B hB).mono ?_
  rintro o w4 ⟨rfl, g4⟩
  replace G := hide g4
  clear g4
  go_wp2_with fail
  go_ret
  exact ⟨rfl, unhide G⟩

set_option maxRecDepth 100000 in
set_option maxHeartbeats 2000000 in
theorem pieces_peek (w0 w : World) (T0 : Tab w0) (wb : Nat) (G : Going w0 wb w) (s t : ByteArray) (hs : s.size ≤ maxLen) (_ht : t.size ≤ maxLen) : Calls Tryz.prog 39 #[.pointer (some ⟨wb, 0, none⟩), .int .i64 3, .string s, .string t] w fun e w' => e = .returned (.bool true) ∧ Going w0 wb w' := by
  obtain ⟨A, cd, hA, C1, C2⟩ := peek_both s hs
  replace C1 := hide C1
  replace C2 := hide C2
  replace T0 := hide T0
  replace G := hide G
  go_enter Tryz.func39, Tryz.ntmps39
  go_wp2_with fail
  refine (unhide C1 _ ((unhide G).tab (unhide T0))).mono ?_
  rintro o w1 ⟨rfl, b1⟩
  replace G := hide ((unhide G).keep b1)
  clear b1
  go_wp2_with fail
  refine (unhide C2 _).mono ?_
  rintro o w2 ⟨rfl, b2⟩
  replace G := hide ((unhide G).keep b2)
  clear b2
  go_wp2_with fail
  refine (keep_go w0 _ wb (unhide G) A hA).mono ?_
  rintro o w3 ⟨rfl, g3⟩
  replace G := hide g3
  clear g3
  go_wp2_with fail
  go_ret
  exact ⟨rfl, unhide G⟩

set_option maxRecDepth 100000 in
set_option maxHeartbeats 2000000 in
theorem pieces_join (w0 w : World) (T0 : Tab w0) (wb : Nat) (G : Going w0 wb w) (s t : ByteArray) (hs : s.size ≤ maxLen) (ht : t.size ≤ maxLen) : Calls Tryz.prog 39 #[.pointer (some ⟨wb, 0, none⟩), .int .i64 4, .string s, .string t] w fun e w' => e = .returned (.bool true) ∧ Going w0 wb w' := by
  obtain ⟨A, cd, hA, C1, C2⟩ := join_both s t hs ht
  replace C1 := hide C1
  replace C2 := hide C2
  replace T0 := hide T0
  replace G := hide G
  go_enter Tryz.func39, Tryz.ntmps39
  go_wp2_with fail
  refine (unhide C1 _ ((unhide G).tab (unhide T0))).mono ?_
  rintro o w1 ⟨rfl, b1⟩
  replace G := hide ((unhide G).keep b1)
  clear b1
  go_wp2_with fail
  refine (unhide C2 _).mono ?_
  rintro o w2 ⟨rfl, b2⟩
  replace G := hide ((unhide G).keep b2)
  clear b2
  go_wp2_with fail
  refine (keep_go w0 _ wb (unhide G) A hA).mono ?_
  rintro o w3 ⟨rfl, g3⟩
  replace G := hide g3
  clear g3
  go_wp2_with fail
  go_ret
  exact ⟨rfl, unhide G⟩

set_option maxRecDepth 100000 in
set_option maxHeartbeats 2000000 in
theorem pieces_share (w0 w : World) (_T0 : Tab w0) (wb : Nat) (G : Going w0 wb w) (s t : ByteArray) (hs : s.size ≤ maxLen) (_ht : t.size ≤ maxLen) : Calls Tryz.prog 39 #[.pointer (some ⟨wb, 0, none⟩), .int .i64 5, .string s, .string t] w fun e w' => e = .returned (.bool true) ∧ Going w0 wb w' := by
  obtain ⟨A, cd, C1, C2⟩ := share_both s hs
  replace C1 := hide C1
  replace C2 := hide C2
  replace G := hide G
  go_enter Tryz.func39, Tryz.ntmps39
  go_wp2_with fail
  refine (unhide C1 _).mono ?_
  rintro o w1 ⟨rfl, b1⟩
  replace G := hide ((unhide G).keep b1)
  clear b1
  go_wp2_with fail
  refine (unhide C2 _).mono ?_
  rintro o w2 ⟨rfl, b2⟩
  replace G := hide ((unhide G).keep b2)
  clear b2
  go_wp2_with fail
  go_ret
  exact ⟨rfl, unhide G⟩

set_option maxRecDepth 100000 in
set_option maxHeartbeats 2000000 in
theorem pieces_leq (w0 w : World) (_T0 : Tab w0) (wb : Nat) (G : Going w0 wb w) (s t : ByteArray) (hs : s.size ≤ maxLen) (ht : t.size ≤ maxLen) : Calls Tryz.prog 39 #[.pointer (some ⟨wb, 0, none⟩), .int .i64 7, .string s, .string t] w fun e w' => e = .returned (.bool true) ∧ Going w0 wb w' := by
  obtain ⟨A, cd, C1, C2⟩ := leq_both s t hs ht
  replace C1 := hide C1
  replace C2 := hide C2
  replace G := hide G
  go_enter Tryz.func39, Tryz.ntmps39
  go_wp2_with fail
  refine (unhide C1 _).mono ?_
  rintro o w1 ⟨rfl, b1⟩
  replace G := hide ((unhide G).keep b1)
  clear b1
  go_wp2_with fail
  refine (unhide C2 _).mono ?_
  rintro o w2 ⟨rfl, b2⟩
  replace G := hide ((unhide G).keep b2)
  clear b2
  go_wp2_with fail
  go_ret
  exact ⟨rfl, unhide G⟩
end Go.Proofs.YtoebmfhgaalcdaaGreatDoor
