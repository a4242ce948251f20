/-
  Our own. sprigsref.Fork.
-/
import Derived.Test.YtoebmfhgaalcdaaGreatDoorRefJoin
import Derived.Deep.Cut
namespace Go.Proofs.YtoebmfhgaalcdaaGreatDoor
open Go.RowKit

theorem St.range {b : Nat} {H : Nat → Bool} {C : Nat → Nat} {w : World} (h : St b H C w) : w.rangeAt b 0 (stCells H C) := by
  intro j v hj
  rw [Nat.zero_add]
  have hl : j < 512 := by
    rcases Nat.lt_or_ge j 512 with g | g
    · exact g
    · rw [List.getElem?_eq_none (by rw [st_len]; exact g)] at hj; cases hj
  unfold stCells at hj
  rcases Nat.lt_or_ge j 256 with g | g
  · rw [List.getElem?_append_left (by rw [hold_len]; exact g), hold_at H j g] at hj
    injection hj with hj
    subst hj
    exact h.holds j g
  · obtain ⟨i, rfl⟩ : ∃ i, j = 256 + i := ⟨j - 256, by omega⟩
    rw [List.getElem?_append_right (by rw [hold_len]; omega), hold_len, show 256 + i - 256 = i by omega, count_at C i (by omega)] at hj
    injection hj with hj
    subst hj
    exact h.counts i (by omega)
theorem st_one (H : Nat → Bool) (C : Nat → Nat) : ∀ v ∈ stCells H C, v.oneCell' = true := by
  intro v hv
  unfold stCells holdCells countCells at hv
  rw [List.mem_append, List.mem_map, List.mem_map] at hv
  rcases hv with ⟨j, _, rfl⟩ | ⟨j, _, rfl⟩ <;> rfl

/-- Some cells of a list laid anew. -/
def layAt : List Value → Nat → List Value → List Value
  | xs, _, [] => xs
  | xs, o, c :: cs => layAt (xs.set o c) (o + 1) cs
theorem layAt_eq : ∀ (cs xs : List Value) (o : Nat), o + cs.length ≤ xs.length → layAt xs o cs = xs.take o ++ cs ++ xs.drop (o + cs.length)
  | [], xs, o, _ => by simp [layAt]
  | c :: cs, xs, o, h => by
    have h : o + (cs.length + 1) ≤ xs.length := h
    have hl : o < xs.length := by omega
    rw [layAt, layAt_eq cs (xs.set o c) (o + 1) (by rw [List.length_set]; omega)]
    have e1 : (xs.set o c).take (o + 1) = xs.take o ++ [c] := by
      rw [List.take_succ_eq_append_getElem (by rw [List.length_set]; exact hl), List.take_set_of_le (Nat.le_refl o)]
      simp
    have e2 : (xs.set o c).drop (o + 1 + cs.length) = xs.drop (o + (c :: cs).length) := by
      rw [List.drop_set_of_lt (by omega)]
      show xs.drop (o + 1 + cs.length) = xs.drop (o + (cs.length + 1))
      rw [show o + 1 + cs.length = o + (cs.length + 1) by omega]
    rw [e1, e2]
    simp
theorem heap_laid {b ty : Nat} : ∀ (cs : List Value) (w : World) (o : Nat) (z : List Value), w.heap[b]? = some (.cells z.toArray ty) → (w.setCells b o cs).heap[b]? = some (.cells (layAt z o cs).toArray ty)
  | [], _, _, _, h => h
  | c :: cs, w, o, z, h => by
    refine heap_laid cs (w.setCell ⟨b, o, none⟩ c) (o + 1) (z.set o c) ?_
    simp [World.setCell, Array.getElem?_modify, h]
theorem below_laid {B b : Nat} (hB : B ≤ b) : ∀ (vs : List Value) (o : Nat) (w : World), Below B w (w.setCells b o vs)
  | [], _, _ => Below.refl _ _
  | v :: vs, o, w => (below_set1 w hB v o).trans (below_laid hB vs (o + 1) _)

def zeroList : List Value := List.replicate 256 (Value.bool false) ++ List.replicate 256 (Value.int .i64 0)
theorem zeroList_len : zeroList.length = 512 := by unfold zeroList; rw [List.length_append, List.length_replicate, List.length_replicate]
theorem zero_list : Tryz.zeroCells121 = zeroList.toArray := by kernel_rfl
theorem there_cells {w : World} {b ty : Nat} {z : Array Value} (h : w.heap[b]? = some (.cells z ty)) : w.there b 0 z.size := by
  intro j hj
  rw [Nat.zero_add]
  refine ⟨?_, ?_⟩
  · unfold World.cell?
    simp only [h, hj, Array.getElem?_eq_getElem]
    rfl
  · simp [World.frozen?, h]

/-- A copy of a stamp in a block of its own. -/
theorem St.copied (H : Nat → Bool) (C : Nat → Nat) (w : World) :
    (w.alloc (.cells Tryz.zeroCells121 121)).there w.heap.size 0 512 ∧ St w.heap.size H C ((w.alloc (.cells Tryz.zeroCells121 121)).setCells w.heap.size 0 (stCells H C)) ∧ Below w.heap.size w ((w.alloc (.cells Tryz.zeroCells121 121)).setCells w.heap.size 0 (stCells H C)) := by
  have hn := heap_new w (.cells Tryz.zeroCells121 121)
  refine ⟨?_, ?_, (below_alloc w _).trans (below_laid (Nat.le_refl _) _ _ _)⟩
  · have t := there_cells hn
    have e : Tryz.zeroCells121.size = 512 := by rw [zero_list, List.size_toArray, zeroList_len]
    rw [e] at t
    exact t
  · rw [zero_list] at hn ⊢
    refine St.of_cells ?_
    have h := heap_laid (stCells H C) _ 0 _ hn
    rw [layAt_eq _ _ _ (by rw [st_len, zeroList_len]; omega), List.take_zero, List.nil_append, List.drop_eq_nil_of_le (by rw [st_len, zeroList_len]; omega), List.append_nil] at h
    exact h
theorem Tryz.infoSt : (Tryz.prog.info? 121).map (·.size) = some 512 := by kernel_rfl
theorem exec_store_st {ρ : Operand → Value} {x y : Operand} {dd : Option Tmp} {t : TypeId} {p : String} {af : Array Edge} {gd : Option (Nat × Bool)} (w : World) (b : Nat) (H : Nat → Bool) (C : Nat → Nat) (h : ρ x = .pointer (some ⟨b, 0, none⟩)) (hy : ρ y = .agg (stCells H C).toArray) (ht : w.there b 0 512) :
    Sem.run Tryz.prog (execOp ρ ⟨dd, .store 121 x y, t, p, af, gd⟩) w = .ok .skip (w.setCells b 0 (stCells H C)) := by
  unfold execOp
  have R := run_storeAt_mid (P := Tryz.prog) w b 0 121 (stCells H C).toArray (by rw [List.size_toArray, st_len]; exact ht) (by rw [List.size_toArray, st_len]; exact Tryz.infoSt) (by rw [List.all_toArray, List.all_eq_true]; exact st_one H C)
  simp only [h, hy, R, Sem.run_bind, Sem.run_pure, Result.andThen_ok]

set_option maxRecDepth 100000 in
set_option maxHeartbeats 2000000 in
theorem rFork_few {s : ByteArray} {id : Tr Bool} {ev : Tr Nat} (hm : s.size ≤ maxLen) (f : readR s = .ok id ev) (hn : shareP id 256 ≤ 1) (w : World) :
    Calls Tryz.prog 82 #[.string s] w fun o w' => o = .returned (.tuple #[.string { data := #[] }, .string { data := #[] }, .int .i64 (if shareP id 256 = 0 then 4 else 6)]) ∧ Below w.heap.size w w' := by
  have R := hide (rread_ok hm f w)
  have SH := SC.share id (readR_inv f).1.di
  have S := fun b w1 (h : SC b id ev w1) => rShare_any b _ _ w1 h
  rw [SH] at S
  clear SH f
  generalize shareP id 256 = z at *
  obtain ⟨cd, hcd⟩ : ∃ cd : Int, (if z = 0 then 4 else 6) = cd := ⟨_, rfl⟩
  rw [hcd]
  replace S := hide S
  rcases (show z = 0 ∨ z = 1 by omega) with rfl | rfl
  all_goals
    first
      | obtain rfl : cd = 4 := hcd.symm
      | obtain rfl : cd = 6 := hcd.symm
    clear hcd hn
    go_enter Tryz.func82, Tryz.ntmps82
    go_wp2_with fail
    refine (unhide R).mono ?_
    rintro o w1 ⟨b, rfl, _, sc, b1⟩
    have S1 := hide (unhide S b w1 sc)
    replace sc := hide sc
    replace b1 := hide b1
    clear S
    go_wp2_with fail
    refine (unhide S1).mono ?_
    rintro o w2 ⟨rfl, rfl⟩
    go_wp2_with fail
    go_ret3
    exact ⟨rfl, unhide b1⟩

/-- From which cell on, and at which height, the least row is looked for. -/
structure Lvl (id : Tr Bool) (from_ h : Nat) (t : Tr Bool) : Prop where
  deep : deepT t ≤ h
  plain : plainT t
  two : 2 ≤ shareP t (2 ^ h)
  fits : from_ + 2 ^ h ≤ 256
  cells : ∀ k, k < 2 ^ h → cellT id 8 (from_ + k) = cellT t h k
  mid : from_ + forkMid h t = forkMid 8 id

theorem Lvl.start {id : Tr Bool} {ev : Tr Nat} (P : PT id ev) (h : 2 ≤ shareP id 256) : Lvl id 0 8 id := ⟨P.di, P.pi, h, by decide, fun k _ => by rw [Nat.zero_add], Nat.zero_add _⟩

theorem anyC_half {id : Tr Bool} (a h : Nat) (t : Tr Bool) (hd : deepT t ≤ h) (hp : plainT t) (e : ∀ k, k < 2 ^ h → cellT id 8 (a + k) = cellT t h k) : anyC (fun k => cellT id 8 k) a (2 ^ h) = !isNoneP t := by
  unfold anyC
  rw [cnt_share (fun k => cellT id 8 k) h a t hd e]
  cases hn : isNoneP t with
  | true => rw [(isNone_iff t).1 hn, share_false]; rfl
  | false =>
    have : shareP t (2 ^ h) ≠ 0 := fun e => by
      rw [(isNone_iff t).2 ((share_zero t h hd hp).1 e)] at hn; cases hn
    simp [this]

/-- One step down. -/
theorem Lvl.step {id : Tr Bool} {from_ h : Nat} {t : Tr Bool} (L : Lvl id from_ h t) : ∃ k h', h = h' + 1 ∧ 2 ^ h = 2 * k ∧ k = 2 ^ h' ∧ from_ + k + k ≤ 256 ∧
    ((anyC (fun k => cellT id 8 k) from_ k = true ∧ anyC (fun k => cellT id 8 k) (from_ + k) k = true ∧ from_ + k = forkMid 8 id) ∨
     (anyC (fun k => cellT id 8 k) from_ k = false ∧ anyC (fun k => cellT id 8 k) (from_ + k) k = true ∧ ∃ t', Lvl id (from_ + k) h' t') ∨
     (anyC (fun k => cellT id 8 k) from_ k = true ∧ anyC (fun k => cellT id 8 k) (from_ + k) k = false ∧ ∃ t', Lvl id from_ h' t')) := by
  obtain ⟨hd, hp, h2, hf, hc, hm⟩ := L
  cases h with
  | zero =>
    exfalso
    obtain ⟨a, rfl⟩ := leaf_of_deep hd
    cases a
    · rw [share_false] at h2; omega
    · rw [share_true] at h2; have : (2 : Nat) ^ 0 = 1 := rfl; omega
  | succ h =>
    have e2 : 2 ^ (h + 1) = 2 ^ h + 2 ^ h := by rw [Nat.pow_succ]; omega
    have e3 := Nat.two_pow_pos h
    have dl := deep_halfL t h hd
    have dr := deep_halfR t h hd
    have cl : ∀ k, k < 2 ^ h → cellT id 8 (from_ + k) = cellT (halfL t) h k := fun k hk => by
      rw [hc k (by omega), cellT_half, if_pos hk]
    have cr : ∀ k, k < 2 ^ h → cellT id 8 (from_ + 2 ^ h + k) = cellT (halfR t) h k := fun k hk => by
      rw [Nat.add_assoc, hc (2 ^ h + k) (by omega), cellT_half, if_neg (by omega), show 2 ^ h + k - 2 ^ h = k by omega]
    rw [shareT_halves] at h2
    refine ⟨2 ^ h, h, rfl, by omega, rfl, by omega, ?_⟩
    rw [anyC_half from_ h (halfL t) dl (plain_halfL t hp) cl, anyC_half (from_ + 2 ^ h) h (halfR t) dr (plain_halfR t hp) cr]
    have em : forkMid (h + 1) t = if isNoneP (halfL t) = true then 2 ^ h + forkMid h (halfR t) else if isNoneP (halfR t) = true then forkMid h (halfL t) else 2 ^ h := rfl
    cases nl : isNoneP (halfL t) with
    | true =>
      rw [em, if_pos nl] at hm
      have el := (isNone_iff _).1 nl
      rw [el, share_false] at h2
      refine Or.inr (Or.inl ⟨rfl, ?_, halfR t, dr, plain_halfR t hp, by omega, by omega, cr, by omega⟩)
      cases nr : isNoneP (halfR t) with
      | false => rfl
      | true => rw [(isNone_iff _).1 nr, share_false] at h2; omega
    | false =>
      rw [em, if_neg (by rw [nl]; exact Bool.false_ne_true)] at hm
      cases nr : isNoneP (halfR t) with
      | true =>
        rw [if_pos nr] at hm
        rw [(isNone_iff _).1 nr, share_false] at h2
        exact Or.inr (Or.inr ⟨rfl, rfl, halfL t, dl, plain_halfL t hp, by omega, by omega, cl, hm⟩)
      | false =>
        rw [if_neg (by rw [nr]; exact Bool.false_ne_true)] at hm
        exact Or.inl ⟨rfl, rfl, hm⟩

end Go.Proofs.YtoebmfhgaalcdaaGreatDoor

namespace Go.Proofs.YtoebmfhgaalcdaaGreatDoor
open Go.RowKit

/-- Cut up to a cell. -/
def kH (f : Nat → Bool) (p : Nat → Bool) (j : Nat) : Nat → Bool := fun k => if k < j then f k && p k else f k
theorem kH_zero (f p : Nat → Bool) : kH f p 0 = f := by funext k; unfold kH; rw [if_neg (by omega)]
theorem kH_here (f p : Nat → Bool) (j : Nat) : kH f p j j = f j := by unfold kH; rw [if_neg (by omega)]
theorem kH_step (f p : Nat → Bool) (j i : Nat) : (if i = j then f j && p j else kH f p j i) = kH f p (j + 1) i := by
  unfold kH
  by_cases e : i = j
  · subst e; rw [if_pos rfl, if_pos (by omega)]
  · rw [if_neg e]
    by_cases h : i < j
    · rw [if_pos h, if_pos (by omega)]
    · rw [if_neg h, if_neg (by omega)]

set_option maxRecDepth 100000 in
set_option maxHeartbeats 8000000 in
theorem rFork_walk (s : ByteArray) (H : Nat → Bool) (C : Nat → Nat) (M z : Nat) (Lv : Nat → Nat → Prop) (XA XB : ByteArray) (w : World)
    (R : Calls Tryz.prog 38 #[.string s] w fun e w' => ∃ b, e = .returned (.tuple #[.pointer (some ⟨b, 0, none⟩), .int .i64 0, .int .i64 0]) ∧ w.heap.size ≤ b ∧ St b H C w' ∧ Below w.heap.size w w')
    (S : ∀ b w1, St b H C w1 → Calls Tryz.prog 87 #[.pointer (some ⟨b, 0, none⟩)] w1 fun e w' => e = .returned (.int .i64 (z : Nat)) ∧ w' = w1) (hz : 2 ≤ z)
    (AN : ∀ (b : Nat) (w1 : World) (a n : Nat), St b H C w1 → a + n ≤ 256 → Calls Tryz.prog 126 #[.pointer (some ⟨b, 0, none⟩), .int .i64 a, .int .i64 n] w1 fun e w' => e = .returned (.bool (anyC H a n)) ∧ w' = w1)
    (L0 : Lv 0 256)
    (LS : ∀ a n : Nat, Lv a n → ∃ k, n = 2 * k ∧ 0 < k ∧ a + k + k ≤ 256 ∧ ((anyC H a k = true ∧ anyC H (a + k) k = true ∧ a + k = M) ∨ (anyC H a k = false ∧ anyC H (a + k) k = true ∧ Lv (a + k) k) ∨ (anyC H a k = true ∧ anyC H (a + k) k = false ∧ Lv a k)))
    (TA : ∀ b w1, St b (kH H (fun k => decide (k < M)) 256) C w1 → Calls Tryz.prog 127 #[.pointer (some ⟨b, 0, none⟩)] w1 fun e w' => e = .returned (.string XA) ∧ Below w1.heap.size w1 w')
    (TB : ∀ b w1, St b (kH H (fun k => decide (M ≤ k)) 256) C w1 → Calls Tryz.prog 127 #[.pointer (some ⟨b, 0, none⟩)] w1 fun e w' => e = .returned (.string XB) ∧ Below w1.heap.size w1 w') :
    Calls Tryz.prog 82 #[.string s] w fun o w' => o = .returned (.tuple #[.string XA, .string XB, .int .i64 0]) ∧ Below w.heap.size w w' := by
  replace R := hide R
  replace S := hide S
  replace AN := hide AN
  replace L0 := hide L0
  replace LS := hide LS
  replace TA := hide TA
  replace TB := hide TB
  have z0 : ((z : Int) == 0) = false := beq_eq_false_iff_ne.2 (by omega)
  have z1 : ((z : Int) == 1) = false := beq_eq_false_iff_ne.2 (by omega)
  go_enter Tryz.func82, Tryz.ntmps82
  go_wp2_with fail
  refine (unhide R).mono ?_
  rintro o w1 ⟨b, rfl, hb, sc, b1⟩
  have S1 := hide (unhide S b w1 sc)
  have AN1 := hide (fun a n h => unhide AN b w1 a n sc h)
  replace sc := hide sc
  replace b1 := hide b1
  clear S R AN
  go_wp2_with fail
  refine (unhide S1).mono ?_
  rintro o w2 ⟨rfl, hw2⟩
  subst hw2
  clear S1
  go_wp2_with fail
  go_loop [8, 9] (fun x y => ∃ a n : Nat, x = .int .i64 (a : Nat) ∧ y = .int .i64 (n : Nat) ∧ Lv a n) (fun _ y => (intOf y).toNat)
  case atStart => exact ⟨0, 256, rfl, rfl, unhide L0⟩
  case round =>
    obtain ⟨a, n, rfl, rfl, hl⟩ := hrel
    obtain ⟨k, hn, hk, hf, hcase⟩ := unhide LS a n hl
    have A1 := hide (unhide AN1 a k (by omega))
    have A2 := hide (unhide AN1 (a + k) k (by omega))
    have q1 : Hid ((n : Int) / 2 = (k : Int)) := hide (by omega)
    have q2 : Hid ((a : Int) + (k : Int) = ((a + k : Nat) : Int)) := hide (by omega)
    have hn9 : n ≤ 256 := by omega
    have hk9 : k ≤ 256 := by omega
    have ha9 : a ≤ 256 := by omega
    have HN := hide hn
    clear hn hl
    replace hcase := hide hcase
    go_wp2_with fail
    rw [unhide q1]
    refine (unhide A1).mono ?_
    rintro o w3 ⟨rfl, hw3⟩
    subst hw3
    go_wp2_with fail
    rw [unhide q1, unhide q2]
    refine (unhide A2).mono ?_
    rintro o w3 ⟨rfl, hw3⟩
    subst hw3
    rcases unhide hcase with ⟨e1, e2, e3⟩ | ⟨e1, e2, e3⟩ | ⟨e1, e2, e3⟩
    · rw [e1, e2]
      replace e3 := hide e3
      clear e1 e2 hcase A1 A2 AN1 LS L0
      obtain ⟨t1, s1, g1⟩ := St.copied H C w3
      have RG := hide (unhide sc).range
      have sc1 := hide ((unhide sc).below g1)
      have B1 := hide (below_trans (unhide b1) g1)
      have n1 : Hid (w.heap.size ≤ w3.heap.size) := hide (unhide b1).size
      have lb := (unhide sc).lt
      replace t1 := hide t1
      replace s1 := hide s1
      clear sc b1 g1
      go_upto_region 18 with (first
        | (refine wpList_load_mid rfl 121 _ rfl b 0 rfl (stCells H C) _ (unhide RG) Tryz.underlying121 rfl (by rw [st_len]; exact Tryz.infoSt) ?_)
        | (refine wpList_skip rfl (exec_store_st _ w3.heap.size H C rfl rfl (unhide t1)) ?_))
      simp only [Act.put]
      have N1 : Hid (b < w3.heap.size) := hide lb
      have la := (unhide s1).lt
      generalize hV : (w3.alloc (Obj.cells Tryz.zeroCells121 121)).setCells w3.heap.size 0 (stCells H C) = V1 at *
      clear hV RG t1
      generalize hNa : w3.heap.size = na at *
      clear hNa
      obtain ⟨t2, s2, g2⟩ := St.copied H C V1
      have RG2 := hide (unhide sc1).range
      have sc2 := hide ((unhide sc1).below g2)
      have s3 := hide ((unhide s1).below g2)
      have B2 := hide (below_trans (unhide B1) g2)
      have n2 : Hid (w.heap.size ≤ V1.heap.size) := hide (unhide B1).size
      replace t2 := hide t2
      replace s2 := hide s2
      clear sc1 s1 B1 g2
      go_upto_region 19 with (first
        | (refine wpList_load_mid rfl 121 _ rfl b 0 rfl (stCells H C) _ (unhide RG2) Tryz.underlying121 rfl (by rw [st_len]; exact Tryz.infoSt) ?_)
        | (refine wpList_skip rfl (exec_store_st _ V1.heap.size H C rfl rfl (unhide t2)) ?_))
      simp only [Act.put]
      generalize hV : (V1.alloc (Obj.cells Tryz.zeroCells121 121)).setCells V1.heap.size 0 (stCells H C) = V2 at *
      clear hV RG2 t2
      generalize hNb : V1.heap.size = nb at *
      clear hNb
      have hna : w.heap.size ≤ na := unhide n1
      have hnb : w.heap.size ≤ nb := unhide n2
      have hbn : b < na := unhide N1
      have q3 : ¬ b = na := by omega
      have q4 : ¬ na = b := by omega
      have q5 : ¬ na = nb := by omega
      have q6 : ¬ nb = na := by omega
      have q7 : ¬ b = nb := by omega
      have q8 : ¬ nb = b := by omega
      clear n1 n2 N1
      replace sc2 := unhide sc2
      replace s2 := unhide s2
      replace s3 := unhide s3
      rw [← kH_zero H (fun k => decide (M ≤ k))] at s2
      rw [← kH_zero H (fun k => decide (k < M))] at s3
      replace sc2 := hide sc2
      replace s2 := hide s2
      replace s3 := hide s3
      go_wp2_with fail
      go_loopg [14] 256 (fun q x wr => ∃ j : Nat, j + q = 256 ∧ x = .int .i64 (j : Nat) ∧ St b H C wr ∧ St na (kH H (fun k => decide (k < M)) j) C wr ∧ St nb (kH H (fun k => decide (M ≤ k)) j) C wr ∧ Below w.heap.size w wr)
      case atStart => exact ⟨0, rfl, rfl, unhide sc2, unhide s3, unhide s2, unhide B2⟩
      case round =>
        obtain ⟨j, hj, rfl, r0, r1, r2, hb9⟩ := hrel
        clear sc2 s2 s3 B2
        have HJ := hide hj
        have hj256 : j ≤ 256 := by omega
        clear hj
        by_cases hlt : j < 256
        · have x0 := r0.holds j hlt
          have x1 := r1.holds j hlt
          have x2 := r2.holds j hlt
          have f1 := r1.free
          have f2 := r2.free
          have j0 : (0 : Int) ≤ (j : Int) := by omega
          have j1 : (j : Int) < 256 := by omega
          have HM := unhide e3
          have q9 := unhide q1
          have U1 := (r1.setHold j hlt (H j && decide (j < M))).congr (fun i _ => kH_step H (fun k => decide (k < M)) j i) (fun _ _ => rfl)
          have U2 := ((r2.far q6 j (.bool (H j && decide (j < M)))).setHold j hlt (H j && decide (M ≤ j))).congr (fun i _ => kH_step H (fun k => decide (M ≤ k)) j i) (fun _ _ => rfl)
          have U0 := (r0.far q3 j (.bool (H j && decide (j < M)))).far q7 j (.bool (H j && decide (M ≤ j)))
          have U3 := U1.far q5 j (.bool (H j && decide (M ≤ j)))
          have B3 := (hb9.trans (below_set1 wr hna (.bool (H j && decide (j < M))) j)).trans (below_set1 (wr.setCell ⟨na, j, none⟩ (.bool (H j && decide (j < M)))) hnb (.bool (H j && decide (M ≤ j))) j)
          clear U1
          replace U0 := hide U0
          replace U2 := hide U2
          replace U3 := hide U3
          replace B3 := hide B3
          replace r0 := hide r0
          replace r1 := hide r1
          replace r2 := hide r2
          replace hb9 := hide hb9
          by_cases hjm : j < M
          · have g1 : (j : Int) < (a : Int) + (n : Int) / 2 := by omega
            have g2 : ¬ (a : Int) + (n : Int) / 2 ≤ (j : Int) := by omega
            have d1 : decide (j < M) = true := decide_eq_true hjm
            have d2 : decide (M ≤ j) = false := decide_eq_false (by omega)
            rw [d1, d2] at U0 U2 U3 B3
            clear d1 d2 HM q9
            generalize H j = hv at *
            cases hv
            all_goals
              simp only [Bool.false_and, Bool.true_and] at U0 U2 U3 B3
              go_wp2_with fail
              go_roundg (gk - 1)
              case measure => have := unhide HJ; omega
              case rel => exact ⟨j + 1, by have := unhide HJ; omega, by go_num, unhide U0, unhide U3, unhide U2, unhide B3⟩
          · have g1 : ¬ (j : Int) < (a : Int) + (n : Int) / 2 := by omega
            have g2 : (a : Int) + (n : Int) / 2 ≤ (j : Int) := by omega
            have d1 : decide (j < M) = false := decide_eq_false hjm
            have d2 : decide (M ≤ j) = true := decide_eq_true (by omega)
            rw [d1, d2] at U0 U2 U3 B3
            clear d1 d2 HM q9
            generalize H j = hv at *
            cases hv
            all_goals
              simp only [Bool.false_and, Bool.true_and] at U0 U2 U3 B3
              go_wp2_with fail
              go_roundg (gk - 1)
              case measure => have := unhide HJ; omega
              case rel => exact ⟨j + 1, by have := unhide HJ; omega, by go_num, unhide U0, unhide U3, unhide U2, unhide B3⟩
        · have hj6 : j = 256 := by omega
          subst hj6
          have T1 := hide (unhide TA na wr r1)
          have T2 := hide (fun w9 (hb : Below wr.heap.size wr w9) => unhide TB nb w9 (r2.below hb))
          replace hb9 := hide hb9
          clear r0 r1 r2 TA TB e3 q1 q2 HN
          go_wp2_with fail
          refine (unhide T1).mono ?_
          rintro o w5 ⟨rfl, b5⟩
          have T3 := hide (unhide T2 w5 b5)
          replace b5 := hide (below_trans (unhide hb9) b5)
          clear T2 T1
          go_wp2_with fail
          refine (unhide T3).mono ?_
          rintro o w6 ⟨rfl, b6⟩
          replace b6 := hide (below_trans (unhide b5) b6)
          go_wp2_with fail
          go_ret3
          exact ⟨rfl, unhide b6⟩
    · rw [e1, e2]
      replace e3 := hide e3
      clear e1 e2 hcase A1 A2
      go_wp2_with fail
      go_round
      case rel => exact ⟨a + k, k, by rw [unhide q1]; go_num, by rw [unhide q1], unhide e3⟩
      case measure => rw [unhide q1]; simp [intOf]; have := unhide HN; omega
    · rw [e1, e2]
      replace e3 := hide e3
      clear e1 e2 hcase A1 A2
      go_wp2_with fail
      go_round
      case rel => exact ⟨a, k, rfl, by rw [unhide q1], unhide e3⟩
      case measure => rw [unhide q1]; simp [intOf]; have := unhide HN; omega

theorem rFork_ok {s : ByteArray} {id : Tr Bool} {ev : Tr Nat} (hm : s.size ≤ maxLen) (f : readR s = .ok id ev) (hn : 2 ≤ shareP id 256) (w : World) :
    Calls Tryz.prog 82 #[.string s] w fun o w' => o = .returned (.tuple #[.string (tx (cutP id).1 ev), .string (tx (cutP id).2 ev), .int .i64 0]) ∧ Below w.heap.size w w' := by
  have P := (readR_inv f).1
  obtain ⟨Pa, Pb, C⟩ := P.cut hn
  have cc := fun k hk => cut_cells 8 id P.di P.pi hn k hk
  refine rFork_walk s (fun k => cellT id 8 k) (fun k => cellT ev 8 k) (forkMid 8 id) (shareP id 256) (fun a n => ∃ h t, n = 2 ^ h ∧ Lvl id a h t) _ _ w (rread_ok hm f w) (fun b w1 h => ?_) hn (fun b w1 a n h hf => rany_any b a n _ _ w1 h hf) ⟨8, id, rfl, Lvl.start P hn⟩ (fun a n hl => ?_) (fun b w1 h => ?_) (fun b w1 h => ?_)
  · have := rShare_any b _ _ w1 h
    rw [SC.share id P.di] at this
    exact this
  · obtain ⟨h, t, rfl, L⟩ := hl
    obtain ⟨k, h', e1, e2, e3, e4, e5⟩ := L.step
    refine ⟨k, e2, by rw [e3]; exact Nat.two_pow_pos _, e4, ?_⟩
    rcases e5 with ⟨a1, a2, a3⟩ | ⟨a1, a2, t', a3⟩ | ⟨a1, a2, t', a3⟩
    · exact Or.inl ⟨a1, a2, a3⟩
    · exact Or.inr (Or.inl ⟨a1, a2, h', t', e3, a3⟩)
    · exact Or.inr (Or.inr ⟨a1, a2, h', t', e3, a3⟩)
  · have h2 : St b (fun k => cellT (cutP id).1 8 k) (fun k => cellT ev 8 k) w1 := h.congr (fun k hk => by unfold kH; rw [if_pos hk]; exact (cc k hk).1.symm) (fun _ _ => rfl)
    have T := rText_any b _ _ (fun k => Nat.le_trans (cell_high _ k) P.hi) w1 h2
    rw [id_cells Pa.pi Pa.di, ev_cells P.pe P.de] at T
    exact T
  · have h2 : St b (fun k => cellT (cutP id).2 8 k) (fun k => cellT ev 8 k) w1 := h.congr (fun k hk => by unfold kH; rw [if_pos hk]; exact (cc k hk).2.symm) (fun _ _ => rfl)
    have T := rText_any b _ _ (fun k => Nat.le_trans (cell_high _ k) P.hi) w1 h2
    rw [id_cells Pb.pi Pb.di, ev_cells P.pe P.de] at T
    exact T

end Go.Proofs.YtoebmfhgaalcdaaGreatDoor
