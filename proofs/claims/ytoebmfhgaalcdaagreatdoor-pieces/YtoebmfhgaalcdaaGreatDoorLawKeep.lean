/-
  Our own. (*sprigslaw.World).keep and of: the stamps that came out.
-/
import Derived.Test.YtoebmfhgaalcdaaGreatDoorRefJoin
import Derived.Deep.AppendLies
namespace Go.Proofs.YtoebmfhgaalcdaaGreatDoor
open Go.RowKit

/-- The world of a script: the strings that are kept. -/
structure Kw (B wb : Nat) (w : World) (sv : Value) (L : List ByteArray) : Prop where
  box : w.heap[wb]? = some (.cells #[sv] 49)
  base : B ≤ wb
  row : w.ownsRow B 9 1 sv L.length (L.map Value.string)
  few : L.length ≤ 40
  small : ∀ s ∈ L, s.size ≤ 20000

theorem Kw.keep {B wb : Nat} {w w' : World} {sv : Value} {L : List ByteArray} (h : Kw B wb w sv L) (hb : Below w.heap.size w w') : Kw B wb w' sv L := by
  refine ⟨(hb.block wb (lt_of_heap h.box)).trans h.box, h.base, ?_, h.few, h.small⟩
  obtain ⟨h1, h2⟩ := h.row
  refine ⟨h1, ?_⟩
  rcases h2 with h2 | ⟨g, cap, cur, e1, e2, e3, e4, e5, e6, e7⟩
  · exact Or.inl h2
  · exact Or.inr ⟨g, cap, cur, e1, e2, (hb.block g (lt_of_heap e3)).trans e3, e4, e5, e6, e7⟩
theorem cellsW {w : World} {k : Nat} {a : Value} {ty : Nat} (h : w.heap[k]? = some (.cells #[a] ty)) : w.cell? ⟨k, 0, none⟩ = some a ∧ (∀ o, w.frozen? ⟨k, o, none⟩ = false) := by
  refine ⟨?_, ?_⟩
  · simp [World.cell?, h]
  · intro o; simp [World.frozen?, h]
theorem Kw.form {B wb : Nat} {w : World} {sv : Value} {L : List ByteArray} (h : Kw B wb w sv L) : (sv = .slice none 0 0 ∧ L = []) ∨ ∃ g cap, sv = .slice (some ⟨g, 0, none⟩) L.length cap ∧ g ≠ wb ∧ (∀ j s, L[j]? = some s → w.cell? ⟨g, j, none⟩ = some (.string s)) := by
  obtain ⟨h1, h2⟩ := h.row
  rcases h2 with ⟨e, hl⟩ | ⟨g, cap, cur, e1, e2, e3, e4, e5, e6, e7⟩
  · exact Or.inl ⟨e, List.length_eq_zero_iff.1 hl⟩
  · refine Or.inr ⟨g, cap, e1, ?_, fun j s hj => ?_⟩
    · rintro rfl
      have hb := h.box
      rw [e3] at hb
      injection hb with hb
      injection hb with _ h9
      exact absurd h9 (by decide)
    · have hl : j < L.length := by
        rcases Nat.lt_or_ge j L.length with g | g
        · exact g
        · rw [List.getElem?_eq_none g] at hj; cases hj
      have : cur[j]? = some (.string s) := by
        have h9 : (L.map Value.string)[j]? = some (.string s) := by rw [List.getElem?_map, hj]; rfl
        rw [← e7, List.getElem?_take_of_lt (by omega)] at h9
        simpa using h9
      simp only [World.cell?, e3]
      simpa using this

theorem Tryz.infoStr : (Tryz.prog.info? 9).map (fun i => (i.zero, i.size, i.bytes)) = some (some (.string { data := #[] }), 1, 16) := by kernel_rfl

/-- A row with one string more, stored back. -/
theorem Kw.appended {B wb : Nat} {w : World} {sv : Value} {L : List ByteArray} (K : Kw B wb w sv L) (hB : B ≤ w.heap.size) (s : ByteArray) (hs : s.size ≤ 20000) (hf : L.length < 40) {g' cap' : Nat} {w4 : World}
    (hown : w4.ownsRow B 9 1 (.slice (some ⟨g', 0, none⟩) (L.length + 1) cap') (L.length + 1) (L.map Value.string ++ [Value.string s])) (hgrow : w.grownBy w4 sv.ownBlock) :
    Kw B wb (w4.setCell ⟨wb, 0, none⟩ (.slice (some ⟨g', 0, none⟩) (L.length + 1) cap')) (.slice (some ⟨g', 0, none⟩) (L.length + 1) cap') (L ++ [s]) ∧ Below B w (w4.setCell ⟨wb, 0, none⟩ (.slice (some ⟨g', 0, none⟩) (L.length + 1) cap')) ∧
    w4.cell? ⟨wb, 0, none⟩ = some sv ∧ (∀ o, w4.frozen? ⟨wb, o, none⟩ = false) := by
  have hne : some wb ≠ sv.ownBlock := by
    rcases K.form with ⟨rfl, _⟩ | ⟨g, cap, rfl, h, _⟩
    · intro e; cases e
    · show some wb ≠ some g
      intro e; injection e with e; exact h e.symm
  have hlt := lt_of_heap K.box
  have eb : w4.heap[wb]? = w.heap[wb]? := hgrow.block wb hlt hne
  have hB4 : Below B w w4 := by
    refine ⟨hgrow.os, hgrow.tape, hgrow.output, hgrow.size, fun k hk => hgrow.block k (by omega) fun e => ?_⟩
    have := (World.ownsRow.lt K.row) k e.symm
    omega
  have c4 := cellsW (eb.trans K.box)
  refine ⟨⟨?_, K.base, ?_, by rw [List.length_append]; show L.length + 1 ≤ 40; omega, ?_⟩, hB4.trans (below_set1 w4 K.base _ 0), c4.1, c4.2⟩
  · have := eb.trans K.box
    simp [World.setCell, Array.getElem?_modify, this]
  · rw [List.map_append, List.length_append]
    obtain ⟨k1, k2⟩ := hown
    refine ⟨k1, ?_⟩
    rcases k2 with ⟨h, _⟩ | ⟨g9, cap9, cur, e1, e2, e3, e4, e5, e6, e7⟩
    · cases h
    · refine Or.inr ⟨g9, cap9, cur, e1, e2, ?_, e4, e5, e6, e7⟩
      have hg9 : g9 ≠ wb := by
        rintro rfl
        have hb := eb.trans K.box
        rw [e3] at hb
        injection hb with hb
        injection hb with _ h9
        exact absurd h9 (by decide)
      rw [Below.heap_setCell _ _ _ g9 hg9]; exact e3
  · intro x hx
    rw [List.mem_append, List.mem_singleton] at hx
    rcases hx with hx | rfl
    · exact K.small x hx
    · exact hs

/-- What keep leaves. -/
def Kept (B wb : Nat) (w w' : World) : Prop := Below B w w' ∧ ∃ sv' L', Kw B wb w' sv' L'
theorem toList_eq (c : ByteArray) : c.toList = c.data.toList := by
  have e : strOf c.data.toList = c := by cases c; simp [strOf]
  have := strOf_list c.data.toList
  rwa [e] at this

set_option maxRecDepth 100000 in
set_option maxHeartbeats 2000000 in
theorem keep_any (B wb : Nat) (w : World) (sv : Value) (L : List ByteArray) (s : ByteArray) (hs : s.size ≤ 20000) (K : Kw B wb w sv L) (hB : B ≤ w.heap.size) :
    Calls Tryz.prog 41 #[.pointer (some ⟨wb, 0, none⟩), .string s] w fun e w' => e = .returned (.tuple #[]) ∧ Kept B wb w w' := by
  have c0 := (cellsW K.box).1
  by_cases he : s.size = 0
  · have hd : (s.toList == []) = true := by
      rw [toList_eq, beq_iff_eq, ← List.length_eq_zero_iff]; simpa using he
    replace K := hide K
    replace he := hide he
    go_enter Tryz.func41, Tryz.ntmps41
    go_wp2_with fail
    go_end0
    exact ⟨rfl, Below.refl _ _, sv, L, unhide K⟩
  · have hd : (s.toList == []) = false := by
      rw [beq_eq_false_iff_ne]
      intro e
      have := congrArg List.length e
      rw [toList_eq] at this
      exact he (by simpa using this)
    obtain ⟨i0, hi, hz0, hz1, hz2⟩ := info_parts Tryz.infoStr
    replace he := hide he
    have FM := K.form
    by_cases hf : L.length < 40
    · have KA := K.keep (below_alloc w (.cells #[.string s] 9))
      have RW := hide KA.row
      have sz1 : (w.alloc (.cells #[.string s] 9)).heap.size = w.heap.size + 1 := by simp
      have szB : Hid (B ≤ (w.alloc (.cells #[.string s] 9)).heap.size) := hide (by omega)
      have AP := hide (fun g' cap' w4 hown hgrow => KA.appended (g' := g') (cap' := cap') (w4 := w4) (unhide szB) s hs hf hown hgrow)
      clear sz1
      have NW := hide (World.news_of_block (heap_new w (.cells #[.string s] 9)))
      have BW := hide ((below_alloc w (.cells #[.string s] 9)).mono hB)
      clear KA K
      rcases FM with ⟨rfl, rfl⟩ | ⟨g, cap, rfl, _, _⟩
      · go_enter Tryz.func41, Tryz.ntmps41
        go_wp2_with (at_builtin; refine wpList_append_lies _ rfl _ _ 28 rfl B 9 i0 (.string { data := #[] }) 1 16 Tryz.underlying28 hi hz0 hz1 hz2 rfl (by decide) (.slice none 0 0) 0 [] rfl (unhide RW) ⟨w.heap.size, 0, none⟩ 1 1 [.string s] rfl rfl (unhide NW) (by intro u hu; simp at hu; subst hu; rfl) (by omega) (by unfold maxLen; omega) (by omega) (unhide szB) _ rfl ?_; intro g9 cap9 w9 hown9 hgrow9 hat9 hlt9; clear hat9 hlt9; obtain ⟨K9, B9, C9, F9⟩ := unhide AP g9 cap9 w9 hown9 hgrow9; replace K9 := hide K9; replace B9 := hide B9; replace hown9 := hide hown9; replace hgrow9 := hide hgrow9)
        go_end0
        exact ⟨rfl, (unhide BW).trans (unhide B9), _, _, unhide K9⟩
      · have hf2 : (L.length : Int) < 40 := by omega
        go_enter Tryz.func41, Tryz.ntmps41
        go_wp2_with (at_builtin; refine wpList_append_lies _ rfl _ _ 28 rfl B 9 i0 (.string { data := #[] }) 1 16 Tryz.underlying28 hi hz0 hz1 hz2 rfl (by decide) (.slice (some ⟨g, 0, none⟩) L.length cap) L.length (L.map Value.string) rfl (unhide RW) ⟨w.heap.size, 0, none⟩ 1 1 [.string s] rfl rfl (unhide NW) (by intro u hu; simp at hu; subst hu; rfl) (by omega) (by unfold maxLen; omega) (by omega) (unhide szB) _ rfl ?_; intro g9 cap9 w9 hown9 hgrow9 hat9 hlt9; clear hat9 hlt9; obtain ⟨K9, B9, C9, F9⟩ := unhide AP g9 cap9 w9 hown9 hgrow9; replace K9 := hide K9; replace B9 := hide B9; replace hown9 := hide hown9; replace hgrow9 := hide hgrow9)
        go_end0
        exact ⟨rfl, (unhide BW).trans (unhide B9), _, _, unhide K9⟩
    · rcases FM with ⟨rfl, rfl⟩ | ⟨g, cap, rfl, _, _⟩
      · exact absurd (show 0 < 40 by omega) hf
      · have hf2 : ¬ (L.length : Int) < 40 := by omega
        replace K := hide K
        go_enter Tryz.func41, Tryz.ntmps41
        go_wp2_with fail
        go_end0
        exact ⟨rfl, Below.refl _ _, _, L, unhide K⟩

/-- The text that is meant. -/
def ofP (L : List ByteArray) (a : Int) (s : ByteArray) : ByteArray := if 0 < a ∧ 0 < L.length then L.getD (a % (L.length : Int)).toNat s else s
theorem ofP_size (L : List ByteArray) (hL : ∀ s ∈ L, s.size ≤ 20000) (a : Int) (s : ByteArray) (hs : s.size ≤ maxLen) : (ofP L a s).size ≤ maxLen := by
  unfold ofP
  split
  · rw [List.getD_eq_getElem?_getD]
    cases h : L[(a % (L.length : Int)).toNat]? with
    | none => exact hs
    | some x =>
      have := hL x (List.mem_of_getElem? h)
      show x.size ≤ maxLen
      unfold maxLen; omega
  · exact hs

set_option maxRecDepth 100000 in
set_option maxHeartbeats 2000000 in
theorem of_any (B wb : Nat) (w : World) (sv : Value) (L : List ByteArray) (a : Int) (s : ByteArray) (ha : a ≤ 9223372036854775807) (K : Kw B wb w sv L) :
    Calls Tryz.prog 37 #[.pointer (some ⟨wb, 0, none⟩), .int .i64 a, .string s] w fun e w' => e = .returned (.string (ofP L a s)) ∧ Below w.heap.size w w' := by
  have c0 := (cellsW K.box).1
  rcases K.form with ⟨rfl, rfl⟩ | ⟨g, cap, rfl, hg, hc⟩
  · have e : ofP [] a s = s := by unfold ofP; rw [if_neg (fun h => absurd h.2 (by simp))]
    rw [e]
    clear K e
    by_cases h0 : 0 < a
    · go_enter Tryz.func37, Tryz.ntmps37
      go_wp2_with fail
      go_ret
      exact ⟨rfl, Below.refl _ _⟩
    · go_enter Tryz.func37, Tryz.ntmps37
      go_wp2_with fail
      go_ret
      exact ⟨rfl, Below.refl _ _⟩
  · have hfew := K.few
    by_cases h0 : 0 < a
    · by_cases hp : 0 < L.length
      · have m1 := Int.emod_nonneg a (show (L.length : Int) ≠ 0 by omega)
        have m2 := Int.emod_lt_of_pos a (show (0 : Int) < (L.length : Int) by omega)
        have hk : (a % (L.length : Int)).toNat < L.length := by omega
        have e : ofP L a s = L[(a % (L.length : Int)).toNat] := by
          unfold ofP
          rw [if_pos ⟨h0, hp⟩, List.getD_eq_getElem?_getD, List.getElem?_eq_getElem hk]; rfl
        have cx := hc (a % (L.length : Int)).toNat _ (List.getElem?_eq_getElem hk)
        rw [e]
        generalize L[(a % (L.length : Int)).toNat] = X at *
        have p1 : (0 : Int) < (L.length : Int) := by omega
        have a0 : (0 : Int) ≤ a := by omega
        clear K hc e hk
        go_enter Tryz.func37, Tryz.ntmps37
        go_wp2_with fail
        go_quiet (fail)
        go_wp2_with fail
        go_ret
        exact ⟨rfl, below_drewN _ _⟩
      · have e : ofP L a s = s := by unfold ofP; rw [if_neg (fun h => hp h.2)]
        rw [e]
        have p1 : ¬ (0 : Int) < (L.length : Int) := by omega
        clear K e hc
        go_enter Tryz.func37, Tryz.ntmps37
        go_wp2_with fail
        go_ret
        exact ⟨rfl, Below.refl _ _⟩
    · have e : ofP L a s = s := by unfold ofP; rw [if_neg (fun h => h0 h.1)]
      rw [e]
      clear K e hc
      go_enter Tryz.func37, Tryz.ntmps37
      go_wp2_with fail
      go_ret
      exact ⟨rfl, Below.refl _ _⟩

end Go.Proofs.YtoebmfhgaalcdaaGreatDoor
