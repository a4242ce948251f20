/-
  Our own. sprigsref.Peek.
-/
import Derived.Test.YtoebmfhgaalcdaaGreatDoorRefCalls
import Derived.Deep.MidRow
namespace Go.Proofs.YtoebmfhgaalcdaaGreatDoor
open Go.RowKit

/-- One operation of a plain region, by its run. -/
theorem wpList_run {ops : Array Oper} {rest : List Oper} {o : Oper} {a : Act} {w w' : World} {Q : Exit → Act → World → Prop} (hgd : o.guard = none) (v : Value) (h : Sem.run Tryz.prog (execOp a.eval o) w = .ok (.value v) w') (hK : wpList Tryz.prog ops Q rest (a.put o.dst v) w') : wpList Tryz.prog ops Q (o :: rest) a w :=
  wpList_plain hgd fun _ hk => by unfold Oper.wp; rw [h]; exact hk _ _ hK
theorem wpList_skip {ops : Array Oper} {rest : List Oper} {o : Oper} {a : Act} {w w' : World} {Q : Exit → Act → World → Prop} (hgd : o.guard = none) (h : Sem.run Tryz.prog (execOp a.eval o) w = .ok .skip w') (hK : wpList Tryz.prog ops Q rest (a.put o.dst undef) w') : wpList Tryz.prog ops Q (o :: rest) a w :=
  wpList_plain hgd fun _ hk => by unfold Oper.wp; rw [h]; exact hk _ _ hK

/-- 256 numbers, as cells. -/
def countCells (C : Nat → Nat) : List Value := (List.range 256).map (fun i => Value.int .i64 (C i : Nat))
def holdCells (H : Nat → Bool) : List Value := (List.range 256).map (fun i => Value.bool (H i))
theorem count_len (C : Nat → Nat) : (countCells C).length = 256 := by simp [countCells]
theorem hold_len (H : Nat → Bool) : (holdCells H).length = 256 := by simp [holdCells]
theorem count_at (C : Nat → Nat) (i : Nat) (h : i < 256) : (countCells C)[i]? = some (.int .i64 (C i : Nat)) := by simp [countCells, h]
theorem hold_at (H : Nat → Bool) (i : Nat) (h : i < 256) : (holdCells H)[i]? = some (.bool (H i)) := by simp [holdCells, h]
def stCells (H : Nat → Bool) (C : Nat → Nat) : List Value := holdCells H ++ countCells C
theorem st_len (H : Nat → Bool) (C : Nat → Nat) : (stCells H C).length = 512 := by simp [stCells, hold_len, count_len]

theorem St.count_range {b : Nat} {H : Nat → Bool} {C : Nat → Nat} {w : World} (h : St b H C w) : w.rangeAt b 256 (countCells C) := by
  intro j v hj
  have hl : j < 256 := by
    rcases Nat.lt_or_ge j 256 with g | g
    · exact g
    · rw [List.getElem?_eq_none (by rw [count_len]; exact g)] at hj; cases hj
  rw [count_at C j hl] at hj
  injection hj with hj
  subst hj
  exact h.counts j hl
theorem St.of_cells {b : Nat} {H : Nat → Bool} {C : Nat → Nat} {w : World} (h : w.heap[b]? = some (.cells (stCells H C).toArray 121)) : St b H C w := by
  refine ⟨_, h, by rw [List.size_toArray, st_len], fun i hi => ⟨?_, ?_⟩⟩
  · rw [List.getElem?_toArray, stCells, List.getElem?_append_left (by rw [hold_len]; exact hi), hold_at H i hi]
  · rw [List.getElem?_toArray, stCells, List.getElem?_append_right (by rw [hold_len]; omega), hold_len, show 256 + i - 256 = i by omega, count_at C i hi]

theorem build_peek (C : Nat → Nat) (w : World) : Sem.run Tryz.prog (Instr.build 121 #[(1, Value.agg (countCells C).toArray)]) w = .ok (Value.agg (stCells (fun _ => false) C).toArray) w := by kernel_rfl
theorem exec_peek {ρ : Operand → Value} {x : Operand} {d : Option Tmp} {t : TypeId} {p : String} {af : Array Edge} {g : Option (Nat × Bool)} (C : Nat → Nat) (w : World) (h : ρ x = .agg (countCells C).toArray) :
    Sem.run Tryz.prog (execOp ρ ⟨d, .build 121 #[(1, x)], t, p, af, g⟩) w = .ok (.value (.agg (stCells (fun _ => false) C).toArray)) w := by
  have e := build_peek C w
  rw [← h] at e
  unfold execOp
  simp only [List.map_toArray, List.map_cons, List.map_nil, Sem.run_bind, Sem.run_pure, e, Result.andThen_ok]
theorem Tryz.info256 : (Tryz.prog.info? 119).map (·.size) = some 256 := by kernel_rfl

theorem none_cells (h i : Nat) : ofCells (fun _ => false) h i = .leaf false := ofCells_const _ h i false fun _ _ => rfl
theorem ev_cells {ev : Tr Nat} (hp : plainT ev) (hd : deepT ev ≤ 8) : ofCells (fun k => cellT ev 8 k) 8 0 = ev := ofCells_cell _ 8 0 ev hp hd fun k _ => by rw [Nat.zero_add]
theorem id_cells {id : Tr Bool} (hp : plainT id) (hd : deepT id ≤ 8) : ofCells (fun k => cellT id 8 k) 8 0 = id := ofCells_cell _ 8 0 id hp hd fun k _ => by rw [Nat.zero_add]

set_option maxRecDepth 100000 in
set_option maxHeartbeats 2000000 in
theorem rPeek_ok {s : ByteArray} {id : Tr Bool} {ev : Tr Nat} (hm : s.size ≤ maxLen) (f : readR s = .ok id ev) (w : World) :
    Calls Tryz.prog 83 #[.string s] w fun o w' => o = .returned (.tuple #[.string (tx (.leaf false) ev), .int .i64 0]) ∧ Below w.heap.size w w' := by
  have R := hide (rread_ok hm f w)
  have P := (readR_inv f).1
  have TX := hide (fun b w1 (h : St b (fun _ => false) (fun k => cellT ev 8 k) w1) => rText_any b _ _ (fun k => Nat.le_trans (cell_high ev k) P.hi) w1 h)
  rw [none_cells, ev_cells P.pe P.de] at TX
  clear f P
  generalize tx (.leaf false) ev = X at *
  go_enter Tryz.func83, Tryz.ntmps83
  go_wp2_with fail
  refine (unhide R).mono ?_
  rintro o w1 ⟨b, rfl, hb, sc, b1⟩
  have RG := hide sc.count_range
  have TX1 := hide (unhide TX w1.heap.size (w1.alloc (.cells (stCells (fun _ => false) (fun k => cellT ev 8 k)).toArray 121)) (St.of_cells (heap_new w1 _)))
  have b2 := hide (below_trans b1 (below_alloc w1 (.cells (stCells (fun _ => false) (fun k => cellT ev 8 k)).toArray 121)))
  clear sc b1 TX R
  go_wp2_with (first
    | (refine wpList_load_mid rfl 119 _ rfl b 256 rfl (countCells (fun k => cellT ev 8 k)) _ (unhide RG) Tryz.underlying119 rfl (by rw [count_len]; exact Tryz.info256) ?_)
    | (refine wpList_run rfl _ (exec_peek (fun k => cellT ev 8 k) _ rfl) ?_))
  refine (unhide TX1).mono ?_
  rintro o w2 ⟨rfl, b3⟩
  replace b3 := hide (below_trans (unhide b2) b3)
  go_wp2_with fail
  go_ret2
  exact ⟨rfl, unhide b3⟩

end Go.Proofs.YtoebmfhgaalcdaaGreatDoor
