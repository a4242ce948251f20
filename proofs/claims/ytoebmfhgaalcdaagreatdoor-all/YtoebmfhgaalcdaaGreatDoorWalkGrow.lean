/-
  Our own. count.grow: rows that have grown by 1 in a part of the piece.
-/
import Derived.Test.YtoebmfhgaalcdaaGreatDoorBoxes
namespace Go.Proofs.YtoebmfhgaalcdaaGreatDoor
open Go.RowKit

/-- A tree, or none. -/
def RO (w : World) (p : Option Addr) (o : Option (Tr Nat)) : Prop :=
  match o with
  | none => p = none
  | some t => ∃ k, p = some ⟨k, 0, none⟩ ∧ TI w (.pointer p) t
theorem RO.below {w w' : World} {p : Option Addr} {o : Option (Tr Nat)} (h : RO w p o) (hb : Below w.heap.size w w') : RO w' p o := by
  cases o with
  | none => exact h
  | some t => obtain ⟨k, e, t⟩ := h; exact ⟨k, e, TA.below t hb⟩
theorem RO.set {N : Nat} {x y : Value} {w : World} {p : Option Addr} {o : Option (Tr Nat)} (b : Bx 150 N x y w) (h : RO w p o) (u v : Value) : RO ((w.setCell ⟨N, 0, none⟩ u).setCell ⟨N, 1, none⟩ v) p o := by
  cases o with
  | none => exact h
  | some t => obtain ⟨k, e, t⟩ := h; exact ⟨k, e, b.tree (by decide) u v t⟩
/-- A growth, as a value. -/
def RG (w : World) (x : Value) (c : Tr Nat × Option (Tr Nat)) : Prop := ∃ k p, x = .agg #[.pointer (some ⟨k, 0, none⟩), .pointer p] ∧ TI w (.pointer (some ⟨k, 0, none⟩)) c.1 ∧ RO w p c.2
theorem RG.below {w w' : World} {x : Value} {c : Tr Nat × Option (Tr Nat)} (h : RG w x c) (hb : Below w.heap.size w w') : RG w' x c := by
  obtain ⟨k, p, e, t, o⟩ := h
  exact ⟨k, p, e, TA.below t hb, o.below hb⟩

set_option maxHeartbeats 800000 in
theorem mergeAny_of {a b : Option (Tr Nat)} {w : World} {p q : Option Addr} (h : RO w p a) (g : RO w q b) :
    Calls Tryz.prog 138 #[.pointer p, .pointer q] w fun e w' => ∃ r, e = .returned (.pointer r) ∧ RO w' r (mergeAnyP a b) ∧ Below w.heap.size w w' := by
  cases a with
  | none =>
    have h : p = none := h
    subst h
    clear g
    go_enter Tryz.func138, Tryz.ntmps138
    go_wp2_with fail
    go_ret
    exact ⟨none, rfl, rfl, Below.refl _ _⟩
  | some s =>
    obtain ⟨k, rfl, hs⟩ := h
    cases b with
    | none =>
      have g : q = none := g
      subst g
      clear hs
      go_enter Tryz.func138, Tryz.ntmps138
      go_wp2_with fail
      go_ret
      exact ⟨none, rfl, rfl, Below.refl _ _⟩
    | some t =>
      obtain ⟨j, rfl, ht⟩ := g
      have M := hide (mergeI_of hs ht)
      clear hs ht
      go_enter Tryz.func138, Tryz.ntmps138
      go_wp2_with fail
      refine (unhide M).mono ?_
      rintro e w1 ⟨x, rfl, t1, b1⟩
      obtain ⟨m, rfl⟩ := TA.root t1
      replace t1 := hide t1
      replace b1 := hide b1
      go_wp2_with fail
      go_ret
      exact ⟨_, rfl, ⟨m, rfl, unhide t1⟩, unhide b1⟩

set_option maxHeartbeats 800000 in
theorem shorter_of {a b : Option (Tr Nat)} {w : World} {p q : Option Addr} (h : RO w p a) (g : RO w q b) (da : ∀ t, a = some t → deepT t ≤ 8) (db : ∀ t, b = some t → deepT t ≤ 8) :
    Calls Tryz.prog 137 #[.pointer p, .pointer q] w fun e w' => ∃ r, e = .returned (.pointer r) ∧ RO w' r (shorterP a b) ∧ Below w.heap.size w w' := by
  cases a with
  | none =>
    have h : p = none := h
    subst h
    have G := hide g
    clear g
    go_enter Tryz.func137, Tryz.ntmps137
    go_wp2_with fail
    go_ret
    exact ⟨q, rfl, unhide G, Below.refl _ _⟩
  | some s =>
    have H := hide h
    obtain ⟨k, rfl, hs⟩ := h
    cases b with
    | none =>
      have g : q = none := g
      subst g
      clear hs
      go_enter Tryz.func137, Tryz.ntmps137
      go_wp2_with fail
      go_ret
      exact ⟨_, rfl, unhide H, Below.refl _ _⟩
    | some t =>
      have G := hide g
      obtain ⟨j, rfl, ht⟩ := g
      have PS := hide (fun w v h => pairs_any s (da s rfl) w v h)
      have PT' := hide (fun w v h => pairs_any t (db t rfl) w v h)
      replace hs := hide hs
      replace ht := hide ht
      clear da db
      by_cases hc : pairsT t < pairsT s
      · have e : shorterP (some s) (some t) = some t := by unfold shorterP; simp only [hc, if_true]
        rw [e]
        clear e
        generalize pairsT s = x at *
        generalize pairsT t = y at *
        have hc2 : (y : Int) < (x : Int) := by omega
        go_enter Tryz.func137, Tryz.ntmps137
        go_wp2_with fail
        refine (unhide PT' _ _ (unhide ht)).mono ?_
        rintro e w1 ⟨rfl, n, rfl⟩
        go_wp2_with fail
        refine (unhide PS _ _ (TA.below (unhide hs) (below_drewN _ _))).mono ?_
        rintro e w2 ⟨rfl, m, rfl⟩
        go_wp2_with fail
        go_ret
        exact ⟨_, rfl, (unhide G).below (below_drewN _ _), below_drewN _ _⟩
      · have e : shorterP (some s) (some t) = some s := by unfold shorterP; simp only [hc, if_false]
        rw [e]
        clear e
        generalize pairsT s = x at *
        generalize pairsT t = y at *
        have hc2 : ¬ (y : Int) < (x : Int) := by omega
        go_enter Tryz.func137, Tryz.ntmps137
        go_wp2_with fail
        refine (unhide PT' _ _ (unhide ht)).mono ?_
        rintro e w1 ⟨rfl, n, rfl⟩
        go_wp2_with fail
        refine (unhide PS _ _ (TA.below (unhide hs) (below_drewN _ _))).mono ?_
        rintro e w2 ⟨rfl, m, rfl⟩
        go_wp2_with fail
        go_ret
        exact ⟨_, rfl, (unhide H).below (below_drewN _ _), below_drewN _ _⟩

set_option maxRecDepth 100000 in
set_option maxHeartbeats 1600000 in
theorem growLeaf_any (own : Bool) (n : Nat) (hn : n ≤ 4611686018427387904) (w : World) :
    Calls Tryz.prog 114 #[.bool own, .int .i64 (n : Int)] w fun e w' => ∃ x, e = .returned x ∧ RG w' x (growLeaf own n) ∧ Below w.heap.size w w' := by
  have L := hide (fun w => leafI_of n w)
  have L2 := hide (fun w => leafI_of (n + 1) w)
  by_cases hc : own = true ∧ n < 1099511627776
  · have E : growLeaf own n = (.leaf n, some (.leaf (n + 1))) := by unfold growLeaf; rw [if_pos (by simp [hc.1, hc.2])]
    rw [E, hc.1]
    have hlt : (n : Int) < 1099511627776 := by omega
    clear E hc
    go_enter Tryz.func114, Tryz.ntmps114
    go_wp2_with fail
    refine (unhide L _).mono ?_
    rintro e w1 ⟨k, rfl, t1, b1⟩
    have x0 := (Bx.new 150 w (.pointer none) (.pointer none)).keep b1
    have lt1 := lt_of_heap x0
    have B1 := below_trans (below_alloc w (.cells #[.pointer none, .pointer none] 150)) b1
    have x1 := x0.keep (below_alloc w1 (.cells #[.pointer (some ⟨k, 0, none⟩), .pointer none] 150))
    have x2 := Bx.new 150 w1 (.pointer (some ⟨k, 0, none⟩)) (.pointer none)
    have T1 := TA.below t1 (below_alloc w1 (.cells #[.pointer (some ⟨k, 0, none⟩), .pointer none] 150))
    have B2 := below_trans B1 (below_alloc w1 (.cells #[.pointer (some ⟨k, 0, none⟩), .pointer none] 150))
    replace x1 := hide x1
    replace x2 := hide x2
    replace T1 := hide T1
    replace B2 := hide B2
    clear x0 B1 b1 t1
    go_wp2_with fail
    refine (unhide L2 _).mono ?_
    rintro e w2 ⟨k2, rfl, t2, b2⟩
    have y1 := (unhide x1).keep b2
    have y2 := (unhide x2).keep b2
    have T2 := TA.below (unhide T1) b2
    have B3 := chain (unhide B2) (Nat.le_refl _) b2
    have ne : w.heap.size ≠ w1.heap.size := by omega
    have z1 := y1.far1 ne (.pointer (some ⟨k2, 0, none⟩)) 1
    have z2 := y2.set1 (.pointer (some ⟨k2, 0, none⟩))
    have T3 := y2.tree1 (by decide) (.pointer (some ⟨k2, 0, none⟩)) 1 T2
    have S3 := y2.tree1 (by decide) (.pointer (some ⟨k2, 0, none⟩)) 1 t2
    have B4 := B3.trans (below_set1 w2 (show w.heap.size ≤ w1.heap.size by omega) (.pointer (some ⟨k2, 0, none⟩)) 1)
    obtain ⟨c0, c1, cf⟩ := y1.cells
    obtain ⟨d0, d1, df⟩ := y2.cells
    have ne2 : ¬ w1.heap.size = w.heap.size := by omega
    clear x1 x2 T1 B2 b2 y1 y2 T2 B3 t2
    replace z1 := hide z1
    replace z2 := hide z2
    replace T3 := hide T3
    replace S3 := hide S3
    replace B4 := hide B4
    go_wp2_with fail
    generalize w2.setCell ⟨w1.heap.size, 1, none⟩ (.pointer (some ⟨k2, 0, none⟩)) = W at *
    have y := (unhide z1).set (.pointer (some ⟨k, 0, none⟩)) (.pointer (some ⟨k2, 0, none⟩))
    obtain ⟨y0, y1, _⟩ := y.cells
    refine ⟨rfl, .agg #[.pointer (some ⟨k, 0, none⟩), .pointer (some ⟨k2, 0, none⟩)], ?_, _, rfl, ⟨k, _, rfl, (unhide z1).tree (by decide) _ _ (unhide T3), k2, rfl, (unhide z1).tree (by decide) _ _ (unhide S3)⟩, (unhide B4).trans (below_set2 W (Nat.le_refl _) _ _)⟩
    simp [results, Tryz.results114, go_sem, y0, y1]
  · have E : growLeaf own n = (.leaf n, none) := by unfold growLeaf; rw [if_neg (by simpa using hc)]
    rw [E]
    have hc2 : own = false ∨ (own = true ∧ ¬ (n : Int) < 1099511627776) := by
      cases own
      · exact Or.inl rfl
      · exact Or.inr ⟨rfl, fun h => hc ⟨rfl, by omega⟩⟩
    clear E hc hn L2
    rcases hc2 with rfl | ⟨rfl, hge⟩
    rotate_left
    · have hb : decide ((n : Int) < 1099511627776) = false := decide_eq_false hge
      clear hge
      go_enter Tryz.func114, Tryz.ntmps114
      go_wp2_with fail
      refine (unhide L _).mono ?_
      rintro e w1 ⟨k, rfl, t1, b1⟩
      have x0 := (Bx.new 150 w (.pointer none) (.pointer none)).keep b1
      have lt1 := lt_of_heap x0
      have B1 := below_trans (below_alloc w (.cells #[.pointer none, .pointer none] 150)) b1
      obtain ⟨c0, c1, cf⟩ := x0.cells
      have ne : ¬ w1.heap.size = w.heap.size := by omega
      have ne2 : ¬ w.heap.size = w1.heap.size := by omega
      have y := hide ((x0.set (.pointer (some ⟨k, 0, none⟩)) (.pointer none)).keep (below_alloc _ (.cells #[.pointer (some ⟨k, 0, none⟩), .pointer none] 150)))
      have TT := hide (TA.below (x0.tree (by decide) (.pointer (some ⟨k, 0, none⟩)) (.pointer none) t1) (below_alloc _ (.cells #[.pointer (some ⟨k, 0, none⟩), .pointer none] 150)))
      have BB := hide (chain (B1.trans (below_set2 w1 (Nat.le_refl w.heap.size) (.pointer (some ⟨k, 0, none⟩)) (.pointer none))) (Nat.le_refl _) (below_alloc _ (.cells #[.pointer (some ⟨k, 0, none⟩), .pointer none] 150)))
      clear x0 B1 t1 b1
      go_wp2_with fail
      obtain ⟨y0, y1, _⟩ := (unhide y).cells
      refine ⟨rfl, .agg #[.pointer (some ⟨k, 0, none⟩), .pointer none], ?_, _, rfl, ⟨k, none, rfl, unhide TT, rfl⟩, unhide BB⟩
      generalize (((w1.setCell ⟨w.heap.size, 0, none⟩ (.pointer (some ⟨k, 0, none⟩))).setCell ⟨w.heap.size, 1, none⟩ (.pointer none)).alloc (.cells #[.pointer (some ⟨k, 0, none⟩), .pointer none] 150)) = W at *
      simp [results, Tryz.results114, go_sem, y0, y1]
    all_goals
      go_enter Tryz.func114, Tryz.ntmps114
      go_wp2_with fail
      refine (unhide L _).mono ?_
      rintro e w1 ⟨k, rfl, t1, b1⟩
      have x0 := (Bx.new 150 w (.pointer none) (.pointer none)).keep b1
      have lt1 := lt_of_heap x0
      have B1 := below_trans (below_alloc w (.cells #[.pointer none, .pointer none] 150)) b1
      obtain ⟨c0, c1, cf⟩ := x0.cells
      have ne : ¬ w1.heap.size = w.heap.size := by omega
      have ne2 : ¬ w.heap.size = w1.heap.size := by omega
      have y := hide ((x0.set (.pointer (some ⟨k, 0, none⟩)) (.pointer none)).keep (below_alloc _ (.cells #[.pointer (some ⟨k, 0, none⟩), .pointer none] 150)))
      have TT := hide (TA.below (x0.tree (by decide) (.pointer (some ⟨k, 0, none⟩)) (.pointer none) t1) (below_alloc _ (.cells #[.pointer (some ⟨k, 0, none⟩), .pointer none] 150)))
      have BB := hide (chain (B1.trans (below_set2 w1 (Nat.le_refl w.heap.size) (.pointer (some ⟨k, 0, none⟩)) (.pointer none))) (Nat.le_refl _) (below_alloc _ (.cells #[.pointer (some ⟨k, 0, none⟩), .pointer none] 150)))
      clear x0 B1 t1 b1
      go_wp2_with fail
      obtain ⟨y0, y1, _⟩ := (unhide y).cells
      refine ⟨rfl, .agg #[.pointer (some ⟨k, 0, none⟩), .pointer none], ?_, _, rfl, ⟨k, none, rfl, unhide TT, rfl⟩, unhide BB⟩
      generalize (((w1.setCell ⟨w.heap.size, 0, none⟩ (.pointer (some ⟨k, 0, none⟩))).setCell ⟨w.heap.size, 1, none⟩ (.pointer none)).alloc (.cells #[.pointer (some ⟨k, 0, none⟩), .pointer none] 150)) = W at *
      simp [results, Tryz.results114, go_sem, y0, y1]

/-- The three boxes of growHalves. -/
structure GB (N : Nat) (a b : Value) (p q : Option Addr) (L R : Tr Nat) (l r : Option (Tr Nat)) (W : World) : Prop where
  bl : Bx 150 N a (.pointer p) W
  br : Bx 150 (N + 1) b (.pointer q) W
  bo : Bx 150 (N + 1 + 1) (.pointer none) (.pointer none) W
  tl : TI W a L
  tr : TI W b R
  ol : RO W p l
  or : RO W q r

theorem GB.keep {N : Nat} {a b : Value} {p q : Option Addr} {L R : Tr Nat} {l r : Option (Tr Nat)} {w w' : World} (h : GB N a b p q L R l r w) (hb : Below w.heap.size w w') : GB N a b p q L R l r w' :=
  ⟨h.bl.keep hb, h.br.keep hb, h.bo.keep hb, TA.below h.tl hb, TA.below h.tr hb, h.ol.below hb, h.or.below hb⟩

theorem GB.enter {w : World} {kl kr : Nat} {p q : Option Addr} {L R : Tr Nat} {l r : Option (Tr Nat)} (h : TI w (.pointer (some ⟨kl, 0, none⟩)) L) (g : TI w (.pointer (some ⟨kr, 0, none⟩)) R) (ho : RO w p l) (go : RO w q r) :
    GB w.heap.size (.pointer (some ⟨kl, 0, none⟩)) (.pointer (some ⟨kr, 0, none⟩)) p q L R l r (((w.alloc (.cells #[.pointer (some ⟨kl, 0, none⟩), .pointer p] 150)).alloc (.cells #[.pointer (some ⟨kr, 0, none⟩), .pointer q] 150)).alloc (.cells #[.pointer none, .pointer none] 150)) ∧
    Below w.heap.size w (((w.alloc (.cells #[.pointer (some ⟨kl, 0, none⟩), .pointer p] 150)).alloc (.cells #[.pointer (some ⟨kr, 0, none⟩), .pointer q] 150)).alloc (.cells #[.pointer none, .pointer none] 150)) := by
  have b1 := below_alloc w (.cells #[.pointer (some ⟨kl, 0, none⟩), .pointer p] 150)
  have x1 := Bx.new 150 w (.pointer (some ⟨kl, 0, none⟩)) (.pointer p)
  have s1 : (w.alloc (.cells #[.pointer (some ⟨kl, 0, none⟩), .pointer p] 150)).heap.size = w.heap.size + 1 := by simp
  generalize w.alloc (.cells #[.pointer (some ⟨kl, 0, none⟩), .pointer p] 150) = W1 at *
  have b2 := below_alloc W1 (.cells #[.pointer (some ⟨kr, 0, none⟩), .pointer q] 150)
  have x2 := Bx.new 150 W1 (.pointer (some ⟨kr, 0, none⟩)) (.pointer q)
  have s2 : (W1.alloc (.cells #[.pointer (some ⟨kr, 0, none⟩), .pointer q] 150)).heap.size = w.heap.size + 1 + 1 := by simp [s1]
  rw [s1] at x2
  generalize W1.alloc (.cells #[.pointer (some ⟨kr, 0, none⟩), .pointer q] 150) = W2 at *
  have b3 := below_alloc W2 (.cells #[.pointer none, .pointer none] 150)
  have x3 := Bx.new 150 W2 (.pointer none) (.pointer none)
  rw [s2] at x3
  exact ⟨⟨(x1.keep b2).keep b3, x2.keep b3, x3, TA.below (TA.below (TA.below h b1) b2) b3, TA.below (TA.below (TA.below g b1) b2) b3, ((ho.below b1).below b2).below b3, ((go.below b1).below b2).below b3⟩, below_trans (below_trans b1 b2) b3⟩

theorem mergeAny_deep (a b : Option (Tr Nat)) (h : Nat) (ha : ∀ t, a = some t → deepT t ≤ h) (hb : ∀ t, b = some t → deepT t ≤ h) : ∀ t, mergeAnyP a b = some t → deepT t ≤ h + 1 := by
  intro t ht
  cases a with
  | none => cases ht
  | some x =>
    cases b with
    | none => cases ht
    | some y =>
      injection ht with ht
      subst ht
      have := deep_merge x y
      have := ha x rfl
      have := hb y rfl
      omega

set_option maxRecDepth 100000 in
set_option maxHeartbeats 3200000 in
theorem growHalves_of {c d : Tr Nat × Option (Tr Nat)} {w : World} {x y : Value} (h : RG w x c) (g : RG w y d) (h1 : deepT c.1 ≤ 7) (h2 : deepT d.1 ≤ 7) (h3 : ∀ t, c.2 = some t → deepT t ≤ 7) (h4 : ∀ t, d.2 = some t → deepT t ≤ 7) :
    Calls Tryz.prog 115 #[x, y] w fun e w' => ∃ z, e = .returned z ∧ RG w' z (growHalves c d) ∧ Below w.heap.size w w' := by
  obtain ⟨L, l⟩ := c
  obtain ⟨R, r⟩ := d
  obtain ⟨kl, p, rfl, tl, ol⟩ := h
  obtain ⟨kr, q, rfl, tr, or⟩ := g
  simp only at *
  have D1 := mergeAny_deep l (some R) 7 h3 (fun t e => by injection e with e; subst e; exact h2)
  have D2 := mergeAny_deep (some L) r 7 (fun t e => by injection e with e; subst e; exact h1) h4
  obtain ⟨F, B⟩ := GB.enter tl tr ol or
  have M := hide (fun w a b (h : TI w a L) (g : TI w b R) => mergeI_of h g)
  have A1 := hide (fun w p q (h : RO w p l) (g : RO w q (some R)) => mergeAny_of h g)
  have A2 := hide (fun w p q (h : RO w p (some L)) (g : RO w q r) => mergeAny_of h g)
  have SH := hide (fun w p q (h : RO w p (mergeAnyP l (some R))) (g : RO w q (mergeAnyP (some L) r)) => shorter_of h g D1 D2)
  show Calls _ _ _ _ fun e w' => ∃ z, e = .returned z ∧ RG w' z (merge L R, shorterP (mergeAnyP l (some R)) (mergeAnyP (some L) r)) ∧ _
  obtain ⟨c0, c1, _⟩ := F.bl.cells
  obtain ⟨d0, d1, _⟩ := F.br.cells
  replace F := hide F
  replace B := hide B
  clear tl tr ol or h1 h2 h3 h4 D1 D2
  generalize mergeAnyP l (some R) = m1 at *
  generalize mergeAnyP (some L) r = m2 at *
  generalize shorterP m1 m2 = sh at *
  go_enter Tryz.func115, Tryz.ntmps115
  go_wp2_with fail
  generalize (((w.alloc (.cells #[.pointer (some ⟨kl, 0, none⟩), .pointer p] 150)).alloc (.cells #[.pointer (some ⟨kr, 0, none⟩), .pointer q] 150)).alloc (.cells #[.pointer none, .pointer none] 150)) = W at *
  go_region_held3 (fun w' => w'.cell? ⟨w.heap.size, 0, none⟩ = some (.pointer (some ⟨kl, 0, none⟩)) ∧ w'.cell? ⟨w.heap.size, 1, none⟩ = some (.pointer p) ∧ w'.cell? ⟨w.heap.size + 1, 0, none⟩ = some (.pointer (some ⟨kr, 0, none⟩)) ∧ w'.cell? ⟨w.heap.size + 1, 1, none⟩ = some (.pointer q))
    (refine ⟨?_, ?_, ?_, ?_⟩ <;> (repeat first | assumption | refine cell_drew_keep ?_ | refine cell_set_keep (by omega) ?_))
    (first
      | (go_at_call 62; refine (unhide M _ _ _ (TA.below (unhide F).tl (below_drew _)) (TA.below (unhide F).tr (below_drew _))).mono ?_; rintro e w4 ⟨z4, rfl, t4, b4⟩; obtain ⟨k4, rfl⟩ := TA.root t4; have F4 := ((unhide F).keep (below_drew _)).keep b4; obtain ⟨f0, f1, _⟩ := F4.bl.cells; obtain ⟨f2, f3, _⟩ := F4.br.cells; replace F4 := hide F4; replace t4 := hide t4; replace b4 := hide b4)
      | (go_at_call_of 138 (Value.pointer p); refine (unhide A1 _ _ _ (unhide F4).ol ⟨kr, rfl, (unhide F4).tr⟩).mono ?_; rintro e w5 ⟨r5, rfl, o5, b5⟩; have F5 := (unhide F4).keep b5; obtain ⟨g0, g1, _⟩ := F5.bl.cells; obtain ⟨g2, g3, _⟩ := F5.br.cells; replace F5 := hide F5; have t5 := hide (TA.below (unhide t4) b5); replace o5 := hide o5; replace b5 := hide b5)
      | (go_at_call_of 138 (Value.pointer (some (Addr.mk kl 0 none))); refine (unhide A2 _ _ _ ⟨kl, rfl, (unhide F5).tl⟩ (unhide F5).or).mono ?_; rintro e w6 ⟨r6, rfl, o6, b6⟩; have F6 := (unhide F5).keep b6; obtain ⟨h0, h1, _⟩ := F6.bl.cells; obtain ⟨h2, h3, _⟩ := F6.br.cells; replace F6 := hide F6; have t6 := hide (TA.below (unhide t5) b6); have p6 := hide ((unhide o5).below b6); replace o6 := hide o6; replace b6 := hide b6)
      | (go_at_call 137; refine (unhide SH _ _ _ (unhide p6) (unhide o6)).mono ?_; rintro e w7 ⟨r7, rfl, o7, b7⟩; have F7 := (unhide F6).keep b7; obtain ⟨i0, i1, _⟩ := F7.bl.cells; obtain ⟨i2, i3, _⟩ := F7.br.cells; obtain ⟨j0, j1, jf⟩ := F7.bo.cells; replace F7 := hide F7; have t7 := hide (TA.below (unhide t6) b7); replace o7 := hide o7; replace b7 := hide b7))
  all_goals
    go_wp2_with fail
    have y := (unhide F7).bo.set (.pointer (some ⟨k4, 0, none⟩)) (.pointer r7)
    obtain ⟨y0, y1, _⟩ := y.cells
    refine ⟨rfl, .agg #[.pointer (some ⟨k4, 0, none⟩), .pointer r7], ?_, _, rfl, ⟨k4, r7, rfl, (unhide F7).bo.tree (by decide) _ _ (unhide t7), ?_⟩,
      (chain (chain (chain (chain (chain (unhide B) (Nat.le_refl _) (below_drew _)) (Nat.le_refl _) (unhide b4)) (Nat.le_refl _) (unhide b5)) (Nat.le_refl _) (unhide b6)) (Nat.le_refl _) (unhide b7)).trans (below_set2 w7 (by omega) _ _)⟩
    · simp [results, Tryz.results115, go_sem, y0, y1]
    · exact RO.set (unhide F7).bo (unhide o7) _ _

theorem growP_deep (id : Tr Bool) (ev : Tr Nat) : ∀ h, deepT id ≤ h → deepT ev ≤ h → deepT (growP id ev).1 ≤ h ∧ ∀ t, (growP id ev).2 = some t → deepT t ≤ h := by
  induction id, ev using side_ind with
  | leaves a b =>
    intro h _ _
    refine ⟨Nat.zero_le _, fun t ht => ?_⟩
    have ht : (if (a && decide (b < 1099511627776)) = true then some (Tr.leaf (b + 1)) else none) = some t := ht
    split at ht
    · injection ht with ht; subst ht; exact Nat.zero_le _
    · cases ht
  | halves id ev hl L R =>
    intro h h1 h2
    obtain ⟨k, rfl⟩ := deep_two hl h1 h2
    have e : growP id ev = growHalves (growP (halfL id) (halfL ev)) (growP (halfR id) (halfR ev)) := side_halves _ _ id ev hl
    have A := L k (deep_halfL id k h1) (deep_halfL ev k h2)
    have B := R k (deep_halfR id k h1) (deep_halfR ev k h2)
    rw [e]
    generalize growP (halfL id) (halfL ev) = c at *
    generalize growP (halfR id) (halfR ev) = d at *
    refine ⟨?_, fun t ht => ?_⟩
    · show deepT (merge c.1 d.1) ≤ _
      have := deep_merge c.1 d.1
      omega
    · have ht : shorterP (mergeAnyP c.2 (some d.1)) (mergeAnyP (some c.1) d.2) = some t := ht
      rcases shorter_or (mergeAnyP c.2 (some d.1)) (mergeAnyP (some c.1) d.2) with e | e
      · rw [e] at ht
        exact mergeAny_deep _ _ k A.2 (fun u hu => by injection hu with hu; subst hu; exact B.1) t ht
      · rw [e] at ht
        exact mergeAny_deep _ _ k (fun u hu => by injection hu with hu; subst hu; exact A.1) B.2 t ht

end Go.Proofs.YtoebmfhgaalcdaaGreatDoor
