/-
  Our own. text.Read: what a call does, of any text.
-/
import Derived.Test.YtoebmfhgaalcdaaGreatDoorWalkTextAll
import Derived.Test.YtoebmfhgaalcdaaGreatDoorWalkHigh
namespace Go.Proofs.YtoebmfhgaalcdaaGreatDoor
open Go.RowKit

/-- What a call of text.Read leaves. -/
def ReadEnd (w : World) (o : Rd1) (e : Ending) (w' : World) : Prop :=
  match o with
  | ⟨.inl (id, ev)⟩ => ∃ vi ve, e = .returned (.agg #[vi, ve]) ∧ TB w' vi id ∧ TI w' ve ev ∧ Below w.heap.size w w'
  | ⟨.inr (errno, place)⟩ => e = .panicked (thrown errno place) ∧ Below w.heap.size w w'

set_option maxHeartbeats 400000 in
theorem read_long (s : ByteArray) (w : World) (hs : 20000 < s.size) (hm : s.size ≤ maxLen) :
    Calls Tryz.prog 46 #[.string s] w fun e w' => ReadEnd w (.bad 1 0) e w' := by
  unfold maxLen at hm
  go_enter Tryz.func46, Tryz.ntmps46
  go_wp2_with fail
  refine (throw_any 1 0 _).mono ?_
  rintro e w1 ⟨rfl, rfl⟩
  exact ⟨rfl, rfl, (Below.refl _ _).alloc (Nat.le_refl _) _⟩

theorem Rd.new (w : World) (s : ByteArray) (i r : Nat) (o : Obj) : Rd (w.heap.size + 1) s i r ((w.alloc o).alloc (rdObj s i r)) := by
  have h := heap_new (w.alloc o) (rdObj s i r)
  have e : (w.alloc o).heap.size = w.heap.size + 1 := by simp
  rw [e] at h
  exact h

/-- Two blocks are laid; then all but the second is kept. -/
theorem below_two {w w' : World} {o o' : Obj} (h : Apart (w.heap.size + 1) ((w.alloc o).alloc o') w') : Below w.heap.size w w' :=
  (((Below.refl w.heap.size w).alloc (Nat.le_refl _) o).alloc (by simp) o').trans ((h.below (by simp)).mono (by omega))

/-- The result's box behind all. -/
theorem cell_first {w w' : World} {x y : Value} {ty : Nat} {o' : Obj} (h : Apart (w.heap.size + 1) ((w.alloc (.cells #[x, y] ty)).alloc o') w') :
    w'.heap[w.heap.size]? = some (.cells #[x, y] ty) := by
  rw [h.block w.heap.size (by simp; omega) (by omega), Below.heap_alloc _ _ _ (by simp), heap_new]

theorem cells2 {w : World} {k : Nat} {x y : Value} {ty : Nat} (h : w.heap[k]? = some (.cells #[x, y] ty)) :
    w.cell? ⟨k, 0, none⟩ = some x ∧ w.cell? ⟨k, 1, none⟩ = some y ∧ ∀ o, w.frozen? ⟨k, o, none⟩ = false := by
  refine ⟨?_, ?_, ?_⟩
  · simp [World.cell?, h]
  · simp [World.cell?, h]
  · intro o; simp [World.frozen?, h]

theorem keeps_of_other {b : Nat} {x : Array Value} {ty' : Nat} {w w' : World} (hb : w.heap[b]? = some (.cells x ty')) {ty : Nat} (hne : ty ≠ ty') (ha : Apart b w w') (k : Nat) (c : Array Value) (h : w.heap[k]? = some (.cells c ty)) :
    w'.heap[k]? = some (.cells c ty) := by
  rw [ha.block k (lt_of_heap h) ?_]
  · exact h
  · rintro rfl
    rw [hb] at h
    injection h with h
    injection h with h1 h2
    exact hne h2.symm
theorem TB.other {b : Nat} {x : Array Value} {ty' : Nat} {w w' : World} (hb : w.heap[b]? = some (.cells x ty')) (hne : 92 ≠ ty') (ha : Apart b w w') {v : Value} {t : Tr Bool} (h : TB w v t) : TB w' v t :=
  TA.keep (keeps_of_other hb hne ha) t v h
theorem TI.other {b : Nat} {x : Array Value} {ty' : Nat} {w w' : World} (hb : w.heap[b]? = some (.cells x ty')) (hne : 139 ≠ ty') (ha : Apart b w w') {v : Value} {t : Tr Nat} (h : TI w v t) : TI w' v t :=
  TA.keep (keeps_of_other hb hne ha) t v h

section
variable {s : ByteArray} {id : Tr Bool} {ev : Tr Nat} {n i1 r1 i2 r2 j : Nat}
theorem readR_bad0 (hs : s.size ≤ 20000) (f : idR s 8 0 s.size = .bad j) : readR s = .bad 2 j := by
  rw [readR, if_neg (by omega)]; simp only [f]
theorem readR_bad1 (hs : s.size ≤ 20000) (f : idR s 8 0 s.size = .ok id i1 r1) (g : nx s i1 ≠ 59) : readR s = .bad 2 i1 := by
  rw [readR, if_neg (by omega)]; simp only [f]; rw [if_neg g]
theorem readR_bad2 (hs : s.size ≤ 20000) (f : idR s 8 0 s.size = .ok id i1 r1) (g : nx s i1 = 59) (f2 : evR s 8 0 (i1 + 1) r1 = .bad j) : readR s = .bad 2 j := by
  rw [readR, if_neg (by omega)]; simp only [f]; rw [if_pos g]; simp only [f2]
theorem readR_bad3 (hs : s.size ≤ 20000) (f : idR s 8 0 s.size = .ok id i1 r1) (g : nx s i1 = 59) (f2 : evR s 8 0 (i1 + 1) r1 = .ok (ev, n) i2 r2) (l : i2 < s.size) : readR s = .bad 2 i2 := by
  rw [readR, if_neg (by omega)]; simp only [f]; rw [if_pos g]; simp only [f2]; rw [if_pos l]
theorem readR_bad4 (hs : s.size ≤ 20000) (f : idR s 8 0 s.size = .ok id i1 r1) (g : nx s i1 = 59) (f2 : evR s 8 0 (i1 + 1) r1 = .ok (ev, n) i2 r2) (l : ¬ i2 < s.size)
    (m : 1099511627776 < highest ev) : readR s = .bad 7 s.size := by
  rw [readR, if_neg (by omega)]; simp only [f]; rw [if_pos g]; simp only [f2]; rw [if_neg l, if_pos m]
theorem readR_bad5 (hs : s.size ≤ 20000) (f : idR s 8 0 s.size = .ok id i1 r1) (g : nx s i1 = 59) (f2 : evR s 8 0 (i1 + 1) r1 = .ok (ev, n) i2 r2) (l : ¬ i2 < s.size)
    (m : ¬ 1099511627776 < highest ev) (q : r2 < s.size) : readR s = .bad 3 r2 := by
  rw [readR, if_neg (by omega)]; simp only [f]; rw [if_pos g]; simp only [f2]; rw [if_neg l, if_neg m, if_pos q]
theorem readR_ok (hs : s.size ≤ 20000) (f : idR s 8 0 s.size = .ok id i1 r1) (g : nx s i1 = 59) (f2 : evR s 8 0 (i1 + 1) r1 = .ok (ev, n) i2 r2) (l : ¬ i2 < s.size)
    (m : ¬ 1099511627776 < highest ev) (q : ¬ r2 < s.size) : readR s = .ok id ev := by
  rw [readR, if_neg (by omega)]; simp only [f]; rw [if_pos g]; simp only [f2]; rw [if_neg l, if_neg m, if_neg q]
end

set_option maxHeartbeats 1000000 in
theorem read_any (s : ByteArray) (w : World) (hs : s.size ≤ 20000) :
    Calls Tryz.prog 46 #[.string s] w fun e w' => ReadEnd w (readR s) e w' := by
  have h0 := Rd.new w s 0 s.size (.cells #[.pointer none, .pointer none] 61)
  go_enter Tryz.func46, Tryz.ntmps46
  cases f : idR s 8 0 s.size using Rs.cs with
  | bad j =>
    have IH := id_any (w.heap.size + 1) s hs 8 (by omega) 0 s.size _ h0 (by omega)
    rw [f] at IH
    have HF := hide (readR_bad0 hs f)
    clear f h0
    have IH := hide IH
    go_wp2_with fail
    refine (unhide IH).mono ?_
    rintro e w1 ⟨rfl, a1⟩
    refine ⟨rfl, ?_⟩
    rw [unhide HF]
    exact ⟨rfl, below_two a1⟩
  | ok id i1 r1 =>
    have IH := id_any (w.heap.size + 1) s hs 8 (by omega) 0 s.size _ h0 (by omega)
    rw [f] at IH
    have F := hide f
    clear f h0
    have IH := hide IH
    go_wp2_with fail
    refine (unhide IH).mono ?_
    rintro e w1 ⟨v, rfl, t1, h1, b1, a1⟩
    clear IH
    obtain ⟨m0, rfl⟩ := TA.root t1
    by_cases g : nx s i1 = 59
    · have G := hide g
      have l1 : i1 < s.size := lt_of_nx s i1 (by omega)
      clear g
      go_wp2_with fail
      refine (pass_ok _ s i1 r1 59 _ h1 hs l1 (unhide G)).mono ?_
      rintro e w2 ⟨rfl, h2, a2⟩
      have t2 := t1.apart h1 a2
      have a12 := a1.trans a2
      clear t1 h1 a1 a2
      cases f2 : evR s 8 0 (i1 + 1) r1 using Rs.cs with
      | bad j =>
        have IH := ev_any (w.heap.size + 1) s hs 8 (by omega) 0 (i1 + 1) r1 w2 (by omega) h2 (by omega)
        rw [f2] at IH
        have HF := hide (readR_bad2 hs (unhide F) (unhide G) f2)
        have IH := hide IH
        clear f2
        go_wp2_with fail
        refine (unhide IH).mono ?_
        rintro e w3 ⟨rfl, a3⟩
        refine ⟨rfl, ?_⟩
        rw [unhide HF]
        exact ⟨rfl, below_two (a12.trans a3)⟩
      | ok o i2 r2 =>
        obtain ⟨ev, n⟩ := o
        have IH := ev_any (w.heap.size + 1) s hs 8 (by omega) 0 (i1 + 1) r1 w2 (by omega) h2 (by omega)
        rw [f2] at IH
        have F2 := hide f2
        have IH := hide IH
        clear f2
        go_wp2_with fail
        refine (unhide IH).mono ?_
        rintro e w3 ⟨v, rfl, u3, h3, b3, a3⟩
        clear IH
        obtain ⟨m2, rfl⟩ := TA.root u3
        have t3 := t2.apart h2 a3
        have a13 := a12.trans a3
        clear t2 h2 a12 a3
        obtain ⟨c0, c1, c2, cf⟩ := h3.cells
        by_cases l : i2 < s.size
        · have HF := hide (readR_bad3 hs (unhide F) (unhide G) (unhide F2) l)
          clear F G F2
          go_wp2_with fail
          refine (giveUp_any _ s i2 r2 _ h3).mono ?_
          rintro e w4 ⟨rfl, rfl⟩
          refine ⟨rfl, ?_⟩
          rw [unhide HF]
          exact ⟨rfl, below_two a13⟩
        · have HI := hide (high_any ev w3 _ u3)
          by_cases m : 1099511627776 < highest ev
          · have HF := hide (readR_bad4 hs (unhide F) (unhide G) (unhide F2) l m)
            clear F G F2
            go_wp2_with fail
            refine (unhide HI).mono ?_
            rintro e w4 ⟨rfl, n4, rfl⟩
            go_wp2_with fail
            refine (throw_any 7 s.size _).mono ?_
            rintro e w5 ⟨rfl, rfl⟩
            refine ⟨rfl, ?_⟩
            rw [unhide HF]
            exact ⟨rfl, below_two (a13.trans (Apart.drewN _ _ n4))⟩
          · by_cases q : r2 < s.size
            · have HF := hide (readR_bad5 hs (unhide F) (unhide G) (unhide F2) l m q)
              clear F G F2
              go_wp2_with fail
              refine (unhide HI).mono ?_
              rintro e w4 ⟨rfl, n4, rfl⟩
              go_wp2_with fail
              refine (throw_any 3 r2 _).mono ?_
              rintro e w5 ⟨rfl, rfl⟩
              refine ⟨rfl, ?_⟩
              rw [unhide HF]
              exact ⟨rfl, below_two (a13.trans (Apart.drewN _ _ n4))⟩
            · have HF := hide (readR_ok hs (unhide F) (unhide G) (unhide F2) l m q)
              clear F G F2
              obtain ⟨d0, d1, df⟩ := cells2 (cell_first a13)
              go_wp2_with fail
              refine (unhide HI).mono ?_
              rintro e w4 ⟨rfl, n4, rfl⟩
              go_wp2_with fail
              have K := cell_first a13
              have a5 := ((Apart.drewN w.heap.size w3 n4).setCell (p := ⟨w.heap.size, 0, none⟩) rfl (.pointer (some ⟨m0, 0, none⟩))).setCell (p := ⟨w.heap.size, 1, none⟩) rfl (.pointer (some ⟨m2, 0, none⟩))
              refine bodyPost_ret (v := .agg #[.pointer (some ⟨m0, 0, none⟩), .pointer (some ⟨m2, 0, none⟩)]) (by simp [results, Tryz.results46, go_sem, d0, d1]) rfl ?_
              rw [unhide HF]
              exact ⟨_, _, rfl, TB.other K (by decide) a5 t3, TI.other K (by decide) a5 u3, (below_two a13).trans (a5.below (by have := a13.size; simp at this; omega))⟩
    · have HF := hide (readR_bad1 hs (unhide F) g)
      clear F
      go_wp2_with fail
      refine (pass_bad _ s i1 r1 59 _ h1 b1 g).mono ?_
      rintro e w2 ⟨rfl, a2⟩
      refine ⟨rfl, ?_⟩
      rw [unhide HF]
      exact ⟨rfl, below_two (a1.trans a2)⟩

end Go.Proofs.YtoebmfhgaalcdaaGreatDoor
