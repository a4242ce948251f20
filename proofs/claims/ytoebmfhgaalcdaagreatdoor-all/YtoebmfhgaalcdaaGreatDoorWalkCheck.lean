/-
  Our own. sprigs.read, with its deferred literal, and Check: what a call does, of any text.
-/
import Derived.Test.YtoebmfhgaalcdaaGreatDoorWalkRead
import Derived.Defers
import Derived.Recover
namespace Go.Proofs.YtoebmfhgaalcdaaGreatDoor
open Go.RowKit

/-- What the deferred literal leaves where it catches. -/
def Caught (p q errno place : Nat) (w w' : World) : Prop :=
  ∃ w0, (∃ n, w0 = (w.alloc (.cells #[.int .i64 errno, .int .i64 place] 109)).drewN n) ∧ w' = (w0.setCell ⟨p, 0, none⟩ (.int .i64 errno)).setCell ⟨q, 0, none⟩ (.int .i64 place)

theorem assert_fault (v : Value) (w : World) : (Instr.typeAssert (.iface 109 v) 20 109 true).run Tryz.prog w = .ok (.tuple #[v, .bool true]) w := by kernel_rfl

set_option maxRecDepth 100000 in
set_option maxHeartbeats 1000000 in
theorem catch_panicking (p q : Nat) (errno place : Nat) (x y : Value) (older : List PanicEntry) (w : World) (hp : w.cell? ⟨p, 0, none⟩ = some x) (hq : w.cell? ⟨q, 0, none⟩ = some y) (fp : w.frozen? ⟨p, 0, none⟩ = false) (fq : w.frozen? ⟨q, 0, none⟩ = false) (hpq : p ≠ q) :
    CallsD Tryz.prog 70 #[.pointer (some ⟨p, 0, none⟩), .pointer (some ⟨q, 0, none⟩)] (.panicking ({ v := .iface 109 (.agg #[.int .i64 errno, .int .i64 place]), recovered := false } :: older)) w fun e u' w' =>
      e = .returned (.tuple #[]) ∧ u' = .panicking ({ v := .iface 109 (.agg #[.int .i64 errno, .int .i64 place]), recovered := true } :: older) ∧
        Caught p q errno place w w' := by
  refine callsD_of_wpS Tryz.func70 rfl fun c₀ cs hu => ?_
  apply wpS_seq
  apply wpS_region
  simp [wpOpsS, go_sem, recoverD, hu, Tryz.ntmps70, Exit.thenS]
  refine wpS_of_wp ?_
  refine wp_mono (Q := fun e a' w' => e = .normal ∧ a'.defers = [] ∧ Caught p q errno place w w') ?_ ?_
  · show Code.wp Tryz.prog _ _ { tmps := #[.pointer (some ⟨p, 0, none⟩), .pointer (some ⟨q, 0, none⟩), undef, undef, undef, .iface 109 (.agg #[.int .i64 errno, .int .i64 place]), undef, undef, undef, undef, undef, undef, undef, undef, undef], defers := [] } w
    clear hu
    have hta := assert_fault
    go_wp2
    clear hta
    have lp : p < w.heap.size := World.block_lt_of_cell? _ _ hp
    have lq : q < w.heap.size := World.block_lt_of_cell? _ _ hq
    have c0 : (w.alloc (.cells #[.int .i64 errno, .int .i64 place] 109)).cell? ⟨w.heap.size, 0, none⟩ = some (.int .i64 errno) := by simp only [World.cell?, heap_new]; rfl
    have c1 : (w.alloc (.cells #[.int .i64 errno, .int .i64 place] 109)).cell? ⟨w.heap.size, 1, none⟩ = some (.int .i64 place) := by simp only [World.cell?, heap_new]; rfl
    have bb : Below w.heap.size w (w.alloc (.cells #[.int .i64 errno, .int .i64 place] 109)) := (Below.refl _ _).alloc (Nat.le_refl _) _
    have dp := (bb.cell (p := ⟨p, 0, none⟩) lp).trans hp
    have dq := (bb.cell (p := ⟨q, 0, none⟩) lq).trans hq
    have gp := (bb.frozen (p := ⟨p, 0, none⟩) lp).trans fp
    have gq := (bb.frozen (p := ⟨q, 0, none⟩) lq).trans fq
    have n1 : ¬ w.heap.size = p := by omega
    have n2 : ¬ w.heap.size = q := by omega
    have n3 : ¬ q = p := fun e => hpq e.symm
    have n4 : ¬ p = w.heap.size := by omega
    have n5 : ¬ q = w.heap.size := by omega
    have X : ∀ n, Caught p q errno place w ((((w.alloc (.cells #[.int .i64 errno, .int .i64 place] 109)).drewN n).setCell ⟨p, 0, none⟩ (.int .i64 errno)).setCell ⟨q, 0, none⟩ (.int .i64 place)) := fun n => ⟨_, ⟨n, rfl⟩, rfl⟩
    replace X := hide X
    clear bb hp hq fp fq lp lq hpq
    generalize w.alloc (.cells #[.int .i64 errno, .int .i64 place] 109) = W1 at *
    generalize w.heap.size = N at *
    go_region
    all_goals exact ⟨rfl, rfl, unhide X 1⟩
  · rintro e a' w' ⟨rfl, hd, hc⟩
    refine ⟨hd, _, rfl, .tuple #[], ?_, rfl, rfl, hc⟩
    simp [results, Tryz.results70]

set_option maxHeartbeats 1000000 in
theorem catch_idle (p q : Nat) (w : World) :
    CallsD Tryz.prog 70 #[.pointer (some ⟨p, 0, none⟩), .pointer (some ⟨q, 0, none⟩)] .returning w fun e u' w' => e = .returned (.tuple #[]) ∧ u' = .returning ∧ w' = w := by
  refine callsD_of_wpS Tryz.func70 rfl fun c₀ cs hu => ?_
  apply wpS_seq
  apply wpS_region
  simp [wpOpsS, go_sem, recoverD, hu, Tryz.ntmps70, Exit.thenS]
  refine wpS_of_wp ?_
  refine wp_mono (Q := fun e a' w' => e = .normal ∧ a'.defers = [] ∧ w' = w) ?_ ?_
  · show Code.wp Tryz.prog _ _ { tmps := #[.pointer (some ⟨p, 0, none⟩), .pointer (some ⟨q, 0, none⟩), undef, undef, undef, .nilIface, undef, undef, undef, undef, undef, undef, undef, undef, undef], defers := [] } w
    clear hu
    go_wp2
  · rintro e a' w' ⟨rfl, hd, rfl⟩
    refine ⟨hd, _, rfl, .tuple #[], ?_, rfl, hu, rfl⟩
    simp [results, Tryz.results70]

/-- What a call of sprigs.read leaves. -/
def SReadEnd (w : World) (o : Rd1) (e : Ending) (w' : World) : Prop :=
  match o with
  | ⟨.inl (id, ev)⟩ => ∃ vi ve, e = .returned (.tuple #[.agg #[vi, ve], .int .i64 0, .int .i64 0]) ∧ TB w' vi id ∧ TI w' ve ev ∧ Below w.heap.size w w'
  | ⟨.inr (errno, place)⟩ => e = .returned (.tuple #[.agg #[.pointer none, .pointer none], .int .i64 errno, .int .i64 place]) ∧ Below w.heap.size w w'

theorem readR_of_long (s : ByteArray) (h : 20000 < s.size) : readR s = .bad 1 0 := by rw [readR, if_pos h]

/-- text.Read, of any text. -/
theorem read_all (s : ByteArray) (w : World) (hm : s.size ≤ maxLen) : Calls Tryz.prog 46 #[.string s] w fun e w' => ReadEnd w (readR s) e w' := by
  by_cases h : 20000 < s.size
  · rw [readR_of_long s h]; exact read_long s w h hm
  · exact read_any s w (by omega)

theorem heap_set (w : World) (k : Nat) (x v : Value) (ty : Nat) (h : w.heap[k]? = some (.cells #[x] ty)) : (w.setCell ⟨k, 0, none⟩ v).heap[k]? = some (.cells #[v] ty) := by
  simp [World.setCell, Array.getElem?_modify, h]

theorem cells1 {w : World} {k : Nat} {x : Value} {ty : Nat} (h : w.heap[k]? = some (.cells #[x] ty)) : w.cell? ⟨k, 0, none⟩ = some x ∧ ∀ o, w.frozen? ⟨k, o, none⟩ = false := by
  refine ⟨?_, ?_⟩
  · simp [World.cell?, h]
  · intro o; simp [World.frozen?, h]

theorem Caught.heap {p q errno place : Nat} {w w' : World} (h : Caught p q errno place w w') {x y : Value} {tp tq : Nat} (hp : w.heap[p]? = some (.cells #[x] tp)) (hq : w.heap[q]? = some (.cells #[y] tq)) (hpq : p ≠ q) :
    w'.heap[p]? = some (.cells #[.int .i64 errno] tp) ∧ w'.heap[q]? = some (.cells #[.int .i64 place] tq) ∧ (∀ k, k < w.heap.size → k ≠ p → k ≠ q → w'.heap[k]? = w.heap[k]?) ∧ w'.os = w.os ∧ w'.tape = w.tape ∧ w'.output = w.output ∧ w.heap.size ≤ w'.heap.size := by
  obtain ⟨w0, ⟨n, rfl⟩, rfl⟩ := h
  have lp := lt_of_heap hp
  have lq := lt_of_heap hq
  have e0 : ∀ k, k < w.heap.size → ((w.alloc (.cells #[.int .i64 errno, .int .i64 place] 109)).drewN n).heap[k]? = w.heap[k]? := fun k hk => Below.heap_alloc w _ k hk
  have hsz : w.heap.size ≤ ((w.alloc (.cells #[.int .i64 errno, .int .i64 place] 109)).drewN n).heap.size := by simp
  have eos : ((w.alloc (.cells #[.int .i64 errno, .int .i64 place] 109)).drewN n).os = w.os ∧ ((w.alloc (.cells #[.int .i64 errno, .int .i64 place] 109)).drewN n).tape = w.tape ∧ ((w.alloc (.cells #[.int .i64 errno, .int .i64 place] 109)).drewN n).output = w.output := ⟨rfl, rfl, rfl⟩
  generalize (w.alloc (.cells #[.int .i64 errno, .int .i64 place] 109)).drewN n = W at *
  have p1 := heap_set W p x (.int .i64 errno) tp ((e0 p lp).trans hp)
  have q1 : (W.setCell ⟨p, 0, none⟩ (.int .i64 errno)).heap[q]? = some (.cells #[y] tq) := (Below.heap_setCell W _ _ q (fun e => hpq e.symm)).trans ((e0 q lq).trans hq)
  refine ⟨(Below.heap_setCell _ _ _ p hpq).trans p1, heap_set _ q y _ tq q1, ?_, eos.1, eos.2.1, eos.2.2, ?_⟩
  · intro k hk h1 h2
    rw [Below.heap_setCell _ _ _ k h2, Below.heap_setCell _ _ _ k h1, e0 k hk]
  · simpa [World.setCell] using hsz

/-- The three result boxes of sprigs.read, behind whatever was kept. -/
theorem three_boxes {w w1 : World} {o1 o2 o3 : Obj} (b1 : Below (((w.alloc o1).alloc o2).alloc o3).heap.size (((w.alloc o1).alloc o2).alloc o3) w1) :
    w1.heap[w.heap.size]? = some o1 ∧ w1.heap[w.heap.size + 1]? = some o2 ∧ w1.heap[w.heap.size + 1 + 1]? = some o3 ∧ Below w.heap.size w w1 ∧ w.heap.size + 3 ≤ w1.heap.size := by
  have s1 : (w.alloc o1).heap.size = w.heap.size + 1 := by simp
  have s2 : ((w.alloc o1).alloc o2).heap.size = w.heap.size + 1 + 1 := by simp
  have s3 : (((w.alloc o1).alloc o2).alloc o3).heap.size = w.heap.size + 1 + 1 + 1 := by simp
  refine ⟨?_, ?_, ?_, ?_, ?_⟩
  · rw [b1.block _ (by omega), Below.heap_alloc _ _ _ (by omega), Below.heap_alloc _ _ _ (by omega), heap_new]
  · rw [b1.block _ (by omega), Below.heap_alloc _ _ _ (by omega), ← s1, heap_new]
  · rw [b1.block _ (by omega), ← s2, heap_new]
  · exact ((((Below.refl w.heap.size w).alloc (Nat.le_refl _) o1).alloc (by omega) o2).alloc (by omega) o3).trans (b1.mono (by omega))
  · have := b1.size; omega

theorem stored {w1 w2 : World} {N : Nat} {x y z z' vi ve u u' : Value} {t1 t2 t3 : Nat} (k1 : w1.heap[N]? = some (.cells #[x, y] t1)) (k2 : w1.heap[N + 1]? = some (.cells #[z] t2)) (k3 : w1.heap[N + 1 + 1]? = some (.cells #[z'] t3))
    (h : w2 = (((w1.setCell ⟨N, 0, none⟩ vi).setCell ⟨N, 1, none⟩ ve).setCell ⟨N + 1, 0, none⟩ u).setCell ⟨N + 1 + 1, 0, none⟩ u') :
    w2.heap[N]? = some (.cells #[vi, ve] t1) ∧ w2.heap[N + 1]? = some (.cells #[u] t2) ∧ w2.heap[N + 1 + 1]? = some (.cells #[u'] t3) ∧ (∀ k, k ≠ N → k ≠ N + 1 → k ≠ N + 1 + 1 → w2.heap[k]? = w1.heap[k]?) ∧
      w2.os = w1.os ∧ w2.tape = w1.tape ∧ w2.output = w1.output ∧ w2.heap.size = w1.heap.size := by
  subst h
  have a1 : (w1.setCell ⟨N, 0, none⟩ vi).heap[N]? = some (.cells #[vi, y] t1) := by simp [World.setCell, Array.getElem?_modify, k1]
  have a2 : ((w1.setCell ⟨N, 0, none⟩ vi).setCell ⟨N, 1, none⟩ ve).heap[N]? = some (.cells #[vi, ve] t1) := by
    generalize w1.setCell ⟨N, 0, none⟩ vi = W at *
    simp [World.setCell, Array.getElem?_modify, a1]
  refine ⟨?_, ?_, ?_, ?_, rfl, rfl, rfl, by simp [World.setCell]⟩
  · rw [Below.heap_setCell _ _ _ N (by show N ≠ N + 1 + 1; omega), Below.heap_setCell _ _ _ N (by show N ≠ N + 1; omega), a2]
  · rw [Below.heap_setCell _ _ _ (N + 1) (by show N + 1 ≠ N + 1 + 1; omega)]
    refine heap_set _ (N + 1) z u t2 ?_
    rw [Below.heap_setCell _ _ _ (N + 1) (by show N + 1 ≠ N; omega), Below.heap_setCell _ _ _ (N + 1) (by show N + 1 ≠ N; omega), k2]
  · refine heap_set _ (N + 1 + 1) z' u' t3 ?_
    rw [Below.heap_setCell _ _ _ (N + 1 + 1) (by show N + 1 + 1 ≠ N + 1; omega), Below.heap_setCell _ _ _ (N + 1 + 1) (by show N + 1 + 1 ≠ N; omega), Below.heap_setCell _ _ _ (N + 1 + 1) (by show N + 1 + 1 ≠ N; omega), k3]
  · intro k h1 h2 h3
    rw [Below.heap_setCell _ _ _ k h3, Below.heap_setCell _ _ _ k h2, Below.heap_setCell _ _ _ k h1, Below.heap_setCell _ _ _ k h1]

/-- What Check answers. -/
def chk (s : ByteArray) : Nat × Nat :=
  match readR s with
  | ⟨.inl _⟩ => (0, 0)
  | ⟨.inr (errno, place)⟩ => (errno, place)

set_option maxHeartbeats 1000000 in
set_option maxRecDepth 100000 in
/-- catch, of any reader that ends so. -/
theorem catch_any (g : Nat) (hg : ∀ (args : Array Value) (w : World), Sem.run Tryz.prog (callFunc g args) w = .ok (.enter g args) w) (s : ByteArray) (o : Rd1) (RA : ∀ w1, Calls Tryz.prog g #[.string s] w1 fun e w' => ReadEnd w1 o e w') (w : World) :
    Calls Tryz.prog 35 #[.func (.func g) #[] #[], .string s] w fun e w' => SReadEnd w o e w' := by
  have hmf : ∀ (fn : Fn) (first cap : Array Value) (w : World), (Instr.makeFunc fn first cap).run Tryz.prog w = .ok (.func fn first cap) w := fun _ _ _ _ => rfl
  have ZE : Hid (o = o) := rfl
  cases f : o using Rd1.cs with
  | bad errno place =>
    rw [f] at RA
    have RA := hide RA
    clear f ZE
    go_enter_defers Tryz.func35, Tryz.ntmps35
    go_wp2_with fail
    refine (unhide RA _).mono ?_
    rintro e w1 ⟨rfl, b1⟩
    obtain ⟨k1, k2, k3, bw, sz⟩ := three_boxes b1
    clear b1
    have CP := catch_panicking (w.heap.size + 1) (w.heap.size + 1 + 1) errno place _ _ [] w1 (cells1 k2).1 (cells1 k3).1 ((cells1 k2).2 0) ((cells1 k3).2 0) (by omega)
    have CP := hide CP
    refine leaves_cons (f := 70) (args := #[.pointer (some ⟨w.heap.size + 1, 0, none⟩), .pointer (some ⟨w.heap.size + 1 + 1, 0, none⟩)]) (by simp) (by simp [go_sem]) ?_
    refine (unhide CP).mono ?_
    rintro e u' w2 ⟨rfl, rfl, hc⟩
    obtain ⟨g1, g2, g3, gos, gtape, gout, gsz⟩ := hc.heap k2 k3 (by omega)
    have g0 := (g3 w.heap.size (by omega) (by omega) (by omega)).trans k1
    obtain ⟨d0, d1, _⟩ := cells2 g0
    obtain ⟨d2, _⟩ := cells1 g1
    obtain ⟨d3, _⟩ := cells1 g2
    have BB : Below w.heap.size w w2 := bw.trans ⟨gos, gtape, gout, gsz, fun k hk => g3 k (by omega) (by omega) (by omega)⟩
    refine ⟨.tuple #[.agg #[.pointer none, .pointer none], .int .i64 errno, .int .i64 place], ?_, rfl, BB⟩
    simp [results, Tryz.results35, go_sem, d0, d1, d2, d3]
  | ok id ev =>
    rw [f] at RA
    have RA := hide RA
    clear f ZE
    go_enter_defers Tryz.func35, Tryz.ntmps35
    go_wp2_with fail
    refine (unhide RA _).mono ?_
    rintro e w1 ⟨vi, ve, rfl, tb, ti, b1⟩
    obtain ⟨k1, k2, k3, bw, sz⟩ := three_boxes b1
    clear b1
    obtain ⟨m0, rfl⟩ := TA.root tb
    obtain ⟨m2, rfl⟩ := TA.root ti
    obtain ⟨c0, c1, cf⟩ := cells2 k1
    obtain ⟨c2, cf2⟩ := cells1 k2
    obtain ⟨c3, cf3⟩ := cells1 k3
    have K1 := hide k1
    have K2 := hide k2
    have K3 := hide k3
    clear k1 k2 k3
    go_wp2_with fail
    have CI := hide (catch_idle (w.heap.size + 1) (w.heap.size + 1 + 1))
    refine leaves_cons (f := 70) (args := #[.pointer (some ⟨w.heap.size + 1, 0, none⟩), .pointer (some ⟨w.heap.size + 1 + 1, 0, none⟩)]) (by simp) (by simp [go_sem]) ?_
    refine (unhide CI _).mono ?_
    rintro e u' w2 ⟨rfl, rfl, hw2⟩
    obtain ⟨g0, g1, g2, g3, gos, gtape, gout, gsz⟩ := stored (unhide K1) (unhide K2) (unhide K3) hw2
    obtain ⟨d0, d1, _⟩ := cells2 g0
    obtain ⟨d2, _⟩ := cells1 g1
    obtain ⟨d3, _⟩ := cells1 g2
    have BB : Below w.heap.size w w2 := bw.trans ⟨gos, gtape, gout, by omega, fun k hk => g3 k (by omega) (by omega) (by omega)⟩
    have keep : ∀ ty, ty ≠ 61 → ty ≠ 29 → ty ≠ 3 → ∀ (k : Nat) (c : Array Value), w1.heap[k]? = some (Obj.cells c ty) → w2.heap[k]? = some (Obj.cells c ty) := by
      intro ty n1 n2 n3 k c hk
      rw [g3 k ?_ ?_ ?_]
      · exact hk
      · rintro rfl; rw [unhide K1] at hk; injection hk with hk; injection hk with _ h2; exact n1 h2.symm
      · rintro rfl; rw [unhide K2] at hk; injection hk with hk; injection hk with _ h2; exact n2 h2.symm
      · rintro rfl; rw [unhide K3] at hk; injection hk with hk; injection hk with _ h2; exact n3 h2.symm
    refine ⟨.tuple #[.agg #[.pointer (some ⟨m0, 0, none⟩), .pointer (some ⟨m2, 0, none⟩)], .int .i64 0, .int .i64 0], ?_, _, _, rfl, TA.keep (keep _ (by decide) (by decide) (by decide)) id _ tb, TA.keep (keep _ (by decide) (by decide) (by decide)) ev _ ti, BB⟩
    simp [results, Tryz.results35, go_sem, d0, d1, d2, d3]

set_option maxHeartbeats 400000 in
theorem sread_any (s : ByteArray) (w : World) (hm : s.size ≤ maxLen) :
    Calls Tryz.prog 23 #[.string s] w fun e w' => SReadEnd w (readR s) e w' := by
  have hmf : ∀ (fn : Fn) (first cap : Array Value) (w : World), (Instr.makeFunc fn first cap).run Tryz.prog w = .ok (.func fn first cap) w := fun _ _ _ _ => rfl
  have CA := catch_any 46 (fun _ _ => by kernel_rfl) s (readR s) (fun w1 => read_all s w1 hm)
  generalize readR s = o at *
  have h0 : (w.alloc (.cells #[.pointer none, .pointer none] 61)).heap[w.heap.size]? = some (.cells #[.pointer none, .pointer none] 61) := heap_new w _
  have b0 : Below w.heap.size w (w.alloc (.cells #[.pointer none, .pointer none] 61)) := (Below.refl _ _).alloc (Nat.le_refl _) _
  have s0 : (w.alloc (.cells #[.pointer none, .pointer none] 61)).heap.size = w.heap.size + 1 := by simp
  cases o using Rd1.cs with
  | bad errno place =>
    have CA := hide (CA (w.alloc (.cells #[.pointer none, .pointer none] 61)))
    replace h0 := hide h0
    replace b0 := hide b0
    replace s0 := hide s0
    go_enter Tryz.func23, Tryz.ntmps23
    go_wp2_with fail
    refine (unhide CA).mono ?_
    clear CA
    generalize w.alloc (.cells #[.pointer none, .pointer none] 61) = W0 at *
    rintro e w1 ⟨rfl, b1⟩
    have k1 := (b1.block w.heap.size (by rw [unhide s0]; omega)).trans (unhide h0)
    obtain ⟨c0, c1, cf⟩ := cells2 k1
    have BB : Below w.heap.size w w1 := (unhide b0).trans (b1.mono (by rw [unhide s0]; omega))
    replace BB := hide BB
    clear b1
    go_wp2_with fail
    generalize hw2 : (w1.setCell ⟨w.heap.size, 0, none⟩ (.pointer none)).setCell ⟨w.heap.size, 1, none⟩ (.pointer none) = W2 at *
    have g0 : W2.heap[w.heap.size]? = some (.cells #[.pointer none, .pointer none] 61) := by
      rw [← hw2]
      have a1 : (w1.setCell ⟨w.heap.size, 0, none⟩ (.pointer none)).heap[w.heap.size]? = some (.cells #[.pointer none, .pointer none] 61) := by simp [World.setCell, Array.getElem?_modify, k1]
      generalize w1.setCell ⟨w.heap.size, 0, none⟩ (.pointer none) = W at *
      simp [World.setCell, Array.getElem?_modify, a1]
    have B2 : Below w.heap.size w W2 := by
      rw [← hw2]
      refine (unhide BB).trans ⟨rfl, rfl, rfl, by simp [World.setCell], fun k hk => ?_⟩
      rw [Below.heap_setCell _ _ _ k (by show k ≠ w.heap.size; omega), Below.heap_setCell _ _ _ k (by show k ≠ w.heap.size; omega)]
    obtain ⟨d0, d1, _⟩ := cells2 g0
    refine ⟨rfl, .tuple #[.agg #[.pointer none, .pointer none], .int .i64 errno, .int .i64 place], ?_, rfl, B2⟩
    simp [results, Tryz.results23, go_sem, d0, d1]
  | ok id ev =>
    have CA := hide (CA (w.alloc (.cells #[.pointer none, .pointer none] 61)))
    replace h0 := hide h0
    replace b0 := hide b0
    replace s0 := hide s0
    go_enter Tryz.func23, Tryz.ntmps23
    go_wp2_with fail
    refine (unhide CA).mono ?_
    clear CA
    generalize w.alloc (.cells #[.pointer none, .pointer none] 61) = W0 at *
    rintro e w1 ⟨vi, ve, rfl, tb, ti, b1⟩
    obtain ⟨m0, rfl⟩ := TA.root tb
    obtain ⟨m2, rfl⟩ := TA.root ti
    have k1 := (b1.block w.heap.size (by rw [unhide s0]; omega)).trans (unhide h0)
    obtain ⟨c0, c1, cf⟩ := cells2 k1
    have BB : Below w.heap.size w w1 := (unhide b0).trans (b1.mono (by rw [unhide s0]; omega))
    replace BB := hide BB
    replace tb := hide tb
    replace ti := hide ti
    clear b1
    go_wp2_with fail
    have a5 := ((Apart.refl w.heap.size w1).setCell (p := ⟨w.heap.size, 0, none⟩) rfl (.pointer (some ⟨m0, 0, none⟩))).setCell (p := ⟨w.heap.size, 1, none⟩) rfl (.pointer (some ⟨m2, 0, none⟩))
    have tb5 := TB.other k1 (by decide) a5 (unhide tb)
    have ti5 := TI.other k1 (by decide) a5 (unhide ti)
    have B2 : Below w.heap.size w ((w1.setCell ⟨w.heap.size, 0, none⟩ (.pointer (some ⟨m0, 0, none⟩))).setCell ⟨w.heap.size, 1, none⟩ (.pointer (some ⟨m2, 0, none⟩))) := by
      refine (unhide BB).trans ⟨rfl, rfl, rfl, by simp [World.setCell], fun k hk => ?_⟩
      rw [Below.heap_setCell _ _ _ k (by show k ≠ w.heap.size; omega), Below.heap_setCell _ _ _ k (by show k ≠ w.heap.size; omega)]
    have g0 : ((w1.setCell ⟨w.heap.size, 0, none⟩ (.pointer (some ⟨m0, 0, none⟩))).setCell ⟨w.heap.size, 1, none⟩ (.pointer (some ⟨m2, 0, none⟩))).heap[w.heap.size]? = some (.cells #[.pointer (some ⟨m0, 0, none⟩), .pointer (some ⟨m2, 0, none⟩)] 61) := by
      have a1 : (w1.setCell ⟨w.heap.size, 0, none⟩ (.pointer (some ⟨m0, 0, none⟩))).heap[w.heap.size]? = some (.cells #[.pointer (some ⟨m0, 0, none⟩), .pointer none] 61) := by simp [World.setCell, Array.getElem?_modify, k1]
      generalize w1.setCell ⟨w.heap.size, 0, none⟩ (.pointer (some ⟨m0, 0, none⟩)) = W at *
      simp [World.setCell, Array.getElem?_modify, a1]
    generalize (w1.setCell ⟨w.heap.size, 0, none⟩ (.pointer (some ⟨m0, 0, none⟩))).setCell ⟨w.heap.size, 1, none⟩ (.pointer (some ⟨m2, 0, none⟩)) = W2 at *
    obtain ⟨d0, d1, _⟩ := cells2 g0
    refine ⟨rfl, .tuple #[.agg #[.pointer (some ⟨m0, 0, none⟩), .pointer (some ⟨m2, 0, none⟩)], .int .i64 0, .int .i64 0], ?_, _, _, rfl, tb5, ti5, B2⟩
    simp [results, Tryz.results23, go_sem, d0, d1]

set_option maxHeartbeats 1000000 in
/-- Check, of any text: the error and its place. -/
theorem check_any (s : ByteArray) (w : World) (hm : s.size ≤ maxLen) :
    Calls Tryz.prog 10 #[.string s] w fun e w' => e = .returned (.tuple #[.int .i64 (chk s).1, .int .i64 (chk s).2]) ∧ Below w.heap.size w w' := by
  have RA := sread_any s w hm
  unfold chk
  cases f : readR s using Rd1.cs with
  | bad errno place =>
    rw [f] at RA
    have RA := hide RA
    clear f
    go_enter Tryz.func10, Tryz.ntmps10
    go_wp2_with fail
    refine (unhide RA).mono ?_
    rintro e w1 ⟨rfl, b1⟩
    go_wp2_with fail
    go_ret2
    exact ⟨rfl, b1.alloc b1.size _⟩
  | ok id ev =>
    rw [f] at RA
    have RA := hide RA
    clear f
    go_enter Tryz.func10, Tryz.ntmps10
    go_wp2_with fail
    refine (unhide RA).mono ?_
    rintro e w1 ⟨vi, ve, rfl, tb, ti, b1⟩
    obtain ⟨m0, rfl⟩ := TA.root tb
    obtain ⟨m2, rfl⟩ := TA.root ti
    go_wp2_with fail
    go_ret2
    exact ⟨rfl, b1.alloc b1.size _⟩

end Go.Proofs.YtoebmfhgaalcdaaGreatDoor
