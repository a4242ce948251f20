/-
  Our own. Members in memory: cells that turn; a whole member stored back; a row put together anew.
-/
import Derived.Test.YtoebmfhgaalcdaaDoorGroupR
import Derived.Deep.LoopGhost
namespace Go.Proofs.YtoebmfhgaalcdaaDoor
open Go.RowKit

theorem Gr.far {B gb : Nat} {w w' : World} {sv : Value} {L : List Mem} {d : Nat} (h : Gr B gb w sv L d) (e1 : w'.heap[gb]? = w.heap[gb]?) (e2 : ∀ g n cap, sv = .slice (some ⟨g, 0, none⟩) n cap → w'.heap[g]? = w.heap[g]?) : Gr B gb w' sv L d := by
  refine ⟨e1.trans h.box, h.base, ?_⟩
  obtain ⟨h1, h2⟩ := h.row
  refine ⟨h1, ?_⟩
  rcases h2 with h2 | ⟨g, cap, cur, f1, f2, f3, f4, f5, f6, f7⟩
  · exact Or.inl h2
  · exact Or.inr ⟨g, cap, cur, f1, f2, (e2 g _ cap f1).trans f3, f4, f5, f6, f7⟩

theorem range_set {w : World} {M : Nat} {cs cs' : List Value} {j : Nat} {v : Value} (h : w.rangeAt M 0 cs) (hj : j < cs.length) (e : cs' = cs.set j v) : (w.setCell ⟨M, j, none⟩ v).rangeAt M 0 cs' := by
  subst e
  intro k u hk
  rw [Nat.zero_add]
  rw [List.getElem?_set] at hk
  by_cases g : j = k
  · subst g
    rw [if_pos rfl, if_pos hj] at hk
    injection hk with hk
    subst hk
    have h0 := h j cs[j] (List.getElem?_eq_getElem hj)
    rw [Nat.zero_add] at h0
    exact World.cell?_setCell_same _ _ _ (by rw [h0])
  · rw [if_neg g] at hk
    have h0 := h k u hk
    rw [Nat.zero_add] at h0
    rw [World.cell?_setCell_other _ _ _ _ (by intro e; injection e with e1 e2; omega)]
    exact h0

theorem Took.set {B gb M g n cap : Nat} {w0 w : World} {L : List Mem} {d : Nat} {m m' : Mem} (h : Took B gb M w0 w (.slice (some ⟨g, 0, none⟩) n cap) L d m) (hg : g < M) (j : Nat) (hj : j < 62) (v : Value) (e : mcells m' = (mcells m).set j v) :
    Took B gb M w0 (w.setCell ⟨M, j, none⟩ v) (.slice (some ⟨g, 0, none⟩) n cap) L d m' := by
  have hgl := h.gl
  refine ⟨h.gr.far (Below.heap_setCell _ _ _ gb (by show gb ≠ M; omega)) (fun g' n' cap' e => ?_), range_set h.rng (by rw [mcells_len]; exact hj) e, ?_, hgl, h.bel.trans (below_set1 w (Nat.le_refl M) v j)⟩
  · simp only [Value.slice.injEq, Option.some.injEq, Addr.mk.injEq] at e
    obtain ⟨⟨rfl, _⟩, _, _⟩ := e
    exact Below.heap_setCell _ _ _ g (by show g ≠ M; omega)
  · exact World.there_setCells h.thr M j [v]

/-- The cells of another member of the row. -/
theorem Took.other {B gb M g n cap : Nat} {w0 w : World} {L : List Mem} {d : Nat} {m m2 : Mem} (h : Took B gb M w0 w (.slice (some ⟨g, 0, none⟩) n cap) L d m) {k : Nat} (hk : L[k]? = some m2) (j : Nat) (v : Value) (hj : (mcells m2)[j]? = some v) : w.cell? ⟨g, k * 62 + j, none⟩ = some v :=
  (h.gr.at hk j v hj).1
theorem Took.own {B gb M : Nat} {w0 w : World} {sv : Value} {L : List Mem} {d : Nat} {m : Mem} (h : Took B gb M w0 w sv L d m) (j : Nat) (v : Value) (hj : (mcells m)[j]? = some v) : w.cell? ⟨M, j, none⟩ = some v := by
  have := h.rng j v hj
  rw [Nat.zero_add] at this
  exact this
theorem Took.open {B gb M : Nat} {w0 w : World} {sv : Value} {L : List Mem} {d : Nat} {m : Mem} (h : Took B gb M w0 w sv L d m) (j : Nat) (hj : j < 62) : w.frozen? ⟨M, j, none⟩ = false := by
  have := (h.thr j hj).2
  rw [Nat.zero_add] at this
  exact this

/-- What is known of two, so far. -/
def orTo (f h : Nat → Bool) (j : Nat) : Nat → Bool := fun q => if q < j then f q || h q else f q
theorem orTo_zero (f h : Nat → Bool) : orTo f h 0 = f := by funext q; unfold orTo; rw [if_neg (by omega)]
theorem orTo_here (f h : Nat → Bool) (j : Nat) : orTo f h j j = f j := by unfold orTo; rw [if_neg (by omega)]
theorem mcells_orTo (m : Mem) (h : Nat → Bool) (j : Nat) (hj : j < 60) : mcells ⟨m.id, m.ev, orTo m.past h (j + 1), m.peek⟩ = (mcells ⟨m.id, m.ev, orTo m.past h j, m.peek⟩).set (1 + j) (.bool (m.past j || h j)) := by
  apply List.ext_getElem?
  intro k
  rw [List.getElem?_set, mcells_len]
  have A := mcells_at ⟨m.id, m.ev, orTo m.past h j, m.peek⟩
  have B := mcells_at ⟨m.id, m.ev, orTo m.past h (j + 1), m.peek⟩
  by_cases e : 1 + j = k
  · subst e
    rw [if_pos rfl, if_pos (by omega), B.2.2 j hj]
    show some (Value.bool (orTo m.past h (j + 1) j)) = _
    unfold orTo
    rw [if_pos (by omega)]
  · rw [if_neg e]
    by_cases e0 : k = 0
    · subst e0; rw [A.1, B.1]
    · by_cases e1 : k = 61
      · subst e1; rw [A.2.1, B.2.1]
      · rcases Nat.lt_or_ge k 62 with hk | hk
        · obtain ⟨q, rfl⟩ : ∃ q, k = 1 + q := ⟨k - 1, by omega⟩
          rw [A.2.2 q (by omega), B.2.2 q (by omega)]
          show some (Value.bool (orTo m.past h (j + 1) q)) = some (Value.bool (orTo m.past h j q))
          unfold orTo
          by_cases hq : q < j
          · rw [if_pos hq, if_pos (by omega)]
          · rw [if_neg hq, if_neg (by omega)]
        · rw [List.getElem?_eq_none (by rw [mcells_len]; exact hk), List.getElem?_eq_none (by rw [mcells_len]; exact hk)]
theorem mcells_or (id : Tr Bool) (ev : Tr Nat) (f h : Nat → Bool) (p : Bool) : mcells ⟨id, ev, orTo f h 60, p⟩ = mcells ⟨id, ev, fun j => f j || h j, p⟩ := by
  unfold mcells
  refine congrArg (List.cons _) (congrArg (fun x => x ++ _) ?_)
  apply List.map_congr_left
  intro j hj
  rw [List.mem_range] at hj
  show Value.bool (orTo f h 60 j) = _
  unfold orTo
  rw [if_pos hj]

/-- Some cells of a list laid anew. -/
def setRange : List Value → Nat → List Value → List Value
  | xs, _, [] => xs
  | xs, o, c :: cs => setRange (xs.set o c) (o + 1) cs
theorem setRange_eq : ∀ (cs xs : List Value) (o : Nat), o + cs.length ≤ xs.length → setRange xs o cs = xs.take o ++ cs ++ xs.drop (o + cs.length)
  | [], xs, o, _ => by simp [setRange]
  | c :: cs, xs, o, h => by
    have h : o + (cs.length + 1) ≤ xs.length := h
    have hl : o < xs.length := by omega
    rw [setRange, setRange_eq cs (xs.set o c) (o + 1) (by rw [List.length_set]; omega)]
    have e1 : (xs.set o c).take (o + 1) = xs.take o ++ [c] := by
      rw [List.take_succ_eq_append_getElem (by rw [List.length_set]; exact hl), List.take_set_of_le (Nat.le_refl o)]
      simp
    have e2 : (xs.set o c).drop (o + 1 + cs.length) = xs.drop (o + (c :: cs).length) := by
      rw [List.drop_set_of_lt (by omega)]
      show xs.drop (o + 1 + cs.length) = xs.drop (o + (cs.length + 1))
      rw [show o + 1 + cs.length = o + (cs.length + 1) by omega]
    rw [e1, e2]
    simp
theorem own_setCells {B e size n cap g : Nat} : ∀ (cs : List Value) (w : World) (o : Nat) (xs : List Value), w.ownsRow B e size (.slice (some ⟨g, 0, none⟩) n cap) n xs → (w.setCells g o cs).ownsRow B e size (.slice (some ⟨g, 0, none⟩) n cap) n (setRange xs o cs)
  | [], _, _, _, h => h
  | c :: cs, _, o, _, h => own_setCells cs _ (o + 1) _ (World.ownsRow.stored h o c).1
theorem heap_setCells (g k : Nat) (hk : k ≠ g) : ∀ (cs : List Value) (w : World) (o : Nat), (w.setCells g o cs).heap[k]? = w.heap[k]?
  | [], _, _ => rfl
  | c :: cs, w, o => (heap_setCells g k hk cs _ (o + 1)).trans (Below.heap_setCell w ⟨g, o, none⟩ c k hk)

/-- A whole member, stored into the row. -/
theorem Gr.setMember {B gb g n cap : Nat} {w : World} {L : List Mem} {d : Nat} (h : Gr B gb w (.slice (some ⟨g, 0, none⟩) n cap) L d) {i : Nat} {m : Mem} (hm : L[i]? = some m) (m' : Mem) :
    Gr B gb (w.setCells g (i * 62) (mcells m')) (.slice (some ⟨g, 0, none⟩) n cap) (L.set i m') d ∧ Below B w (w.setCells g (i * 62) (mcells m')) := by
  have hl := get_lt hm
  obtain ⟨g', cap', e9, hBg, _, hne, _, _, _, _, _⟩ := h.form (by omega)
  simp only [Value.slice.injEq, Option.some.injEq, Addr.mk.injEq] at e9
  obtain ⟨⟨rfl, _⟩, rfl, rfl⟩ := e9
  refine ⟨⟨(heap_setCells g gb (fun e => hne e.symm) _ _ _).trans h.box, h.base, ?_⟩, below_setCells hBg _ _ _⟩
  have r := own_setCells (mcells m') w (i * 62) (flatM L) h.row
  rw [setRange_eq _ _ _ (by rw [mcells_len, flatM_len]; omega), mcells_len] at r
  rw [List.length_set, (flatM_split L i m m' hm).1]
  exact r
theorem Gr.there {B gb g n cap : Nat} {w : World} {L : List Mem} {d : Nat} (h : Gr B gb w (.slice (some ⟨g, 0, none⟩) n cap) L d) {i : Nat} {m : Mem} (hm : L[i]? = some m) : w.there g (i * 62) 62 := by
  intro j hj
  have hj2 : j < (mcells m).length := by rw [mcells_len]; exact hj
  obtain ⟨a, b⟩ := h.at hm j (mcells m)[j] (List.getElem?_eq_getElem hj2)
  exact ⟨by rw [a]; rfl, b _⟩

/-- A row put together anew, stored into the group's box. -/
theorem Gr.replaced {B gb : Nat} {w : World} {sv v' : Value} {L' : List Mem} {d : Nat} (hbox : w.heap[gb]? = some (.cells #[sv, .int .i64 (d : Int)] 28)) (hbase : B ≤ gb) (hrow : w.ownsRow B 34 62 v' L'.length (flatM L')) :
    Gr B gb (w.setCell ⟨gb, 0, none⟩ v') v' L' d := by
  refine ⟨?_, hbase, ?_⟩
  · simp [World.setCell, Array.getElem?_modify, hbox]
  · obtain ⟨k1, k2⟩ := hrow
    refine ⟨k1, ?_⟩
    rcases k2 with h | ⟨g, cap, cur, e1, e2, e3, e4, e5, e6, e7⟩
    · exact Or.inl h
    · refine Or.inr ⟨g, cap, cur, e1, e2, ?_, e4, e5, e6, e7⟩
      have hne : g ≠ gb := by
        rintro rfl
        rw [e3] at hbox
        injection hbox with hbox
        injection hbox with _ h9
        exact absurd h9 (by decide)
      rw [Below.heap_setCell _ _ _ g hne]; exact e3

theorem exec_store_member {ρ : Operand → Value} {x y : Operand} {dd : Option Tmp} {t : TypeId} {p : String} {af : Array Edge} {gd : Option (Nat × Bool)} (w : World) (b o : Nat) (m : Mem) (h : ρ x = .pointer (some ⟨b, o, none⟩)) (hy : ρ y = .agg (mcells m).toArray) (ht : w.there b o 62) :
    Sem.run Tryd.prog (execOp ρ ⟨dd, .store 34 x y, t, p, af, gd⟩) w = .ok .skip (w.setCells b o (mcells m)) := by
  unfold execOp
  have R := run_storeAt_mid (P := Tryd.prog) w b o 34 (mcells m).toArray (by rw [List.size_toArray, mcells_len]; exact ht) (by rw [List.size_toArray, mcells_len]; exact Tryd.member62) (by rw [List.all_toArray, List.all_eq_true]; exact mcells_one m)
  simp only [h, hy, R, Sem.run_bind, Sem.run_pure, Result.andThen_ok]
theorem Took.congr {B gb M : Nat} {w0 w : World} {sv : Value} {L : List Mem} {d : Nat} {m m' : Mem} (h : Took B gb M w0 w sv L d m) (e : mcells m' = mcells m) : Took B gb M w0 w sv L d m' :=
  ⟨h.gr, by rw [e]; exact h.rng, h.thr, h.gl, h.bel⟩
theorem mcells_peek (id : Tr Bool) (ev : Tr Nat) (f : Nat → Bool) (p p' : Bool) : mcells ⟨id, ev, f, p'⟩ = (mcells ⟨id, ev, f, p⟩).set 61 (.bool p') := by
  unfold mcells
  show _ :: _ = _ :: (List.set _ 60 _)
  rw [List.set_append_right _ _ (by simp)]
  simp
theorem mcells_tx (id id' : Tr Bool) (ev ev' : Tr Nat) (f : Nat → Bool) (p : Bool) : mcells ⟨id', ev', f, p⟩ = (mcells ⟨id, ev, f, p⟩).set 0 (.string (tx id' ev')) := rfl

theorem own_ne {B gb n : Nat} {w : World} {cs : Array Value} {v : Value} {xs : List Value} (hbox : w.heap[gb]? = some (.cells cs 28)) (hr : w.ownsRow B 34 62 v n xs) : some gb ≠ v.ownBlock := by
  intro e
  rcases hr.2 with ⟨rfl, _⟩ | ⟨g, cap, cur, rfl, _, e3, _⟩
  · cases e
  · have e : some gb = some g := e
    injection e with e
    subst e
    rw [e3] at hbox
    injection hbox with hbox
    injection hbox with _ h9
    exact absurd h9 (by decide)
theorem own_from {B n : Nat} {w w' : World} {v : Value} {xs : List Value} (hr : w.ownsRow B 34 62 v n xs) (hB : B ≤ w.heap.size) (hg : w.grownBy w' v.ownBlock) : Below B w w' := by
  refine ⟨hg.os, hg.tape, hg.output, hg.size, fun k hk => hg.block k (by omega) fun e => ?_⟩
  have := (World.ownsRow.lt hr) k e.symm
  omega

theorem flatM_erase (L : List Mem) (k : Nat) (m : Mem) (h : L[k]? = some m) : flatM (L.eraseIdx k) = (flatM L).take (k * 62) ++ (flatM L).drop ((k + 1) * 62) := by
  have e := flatM_split L k m m h
  rw [List.eraseIdx_eq_take_drop_succ, flatM_append, e.2.1, e.2.2, show (k + 1) * 62 = k * 62 + 62 by omega]

end Go.Proofs.YtoebmfhgaalcdaaDoor
