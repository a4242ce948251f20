/-
  Our own. The writer of codes: what its calls do. (wbit's four walks are laid by wip/mk/packw.py.)
-/
import Derived.Test.YtoebmfhgaalcdaaDoorPackE
import Derived.Test.YtoebmfhgaalcdaaDoorBoxes
import Derived.OwnWalk
import Derived.Laws.AppendOwn
import Derived.Laws.OwnMore
import Derived.Laws.BytesString
import Derived.Deep.AppendLies
import Derived.Deep.RegionHeld3
import Derived.Deep.MidRow
namespace Go.Proofs.YtoebmfhgaalcdaaDoor
open Go.RowKit

theorem u8_of {n : Nat} (h : n < 256) : (UInt8.ofNat n).toNat = n := by rw [UInt8.toNat_ofNat', Nat.mod_eq_of_lt h]
theorem bitAt_strOf (L : List UInt8) (k : Nat) : bitAt (strOf L) k = (L.getD (k / 8) 0).toNat.testBit (7 - k % 8) := by unfold bitAt; rw [nx_strOf]
theorem getD_snoc (l : List Bool) (x : Bool) (k : Nat) : (l ++ [x]).getD k false = if k = l.length then x else l.getD k false := by
  rw [List.getD_eq_getElem?_getD, List.getD_eq_getElem?_getD, List.getElem?_append]
  by_cases h : k < l.length
  · rw [if_pos h, if_neg (by omega)]
  · rw [if_neg h]
    by_cases e : k = l.length
    · rw [if_pos e, e]; simp
    · rw [if_neg e, List.getElem?_eq_none (l := l) (by omega), List.getElem?_eq_none (by rw [List.length_singleton]; omega)]
theorem packed_push {L : List UInt8} {l : List Bool} (h : Packed (strOf L) l) (h8 : l.length % 8 = 0) : Packed (strOf (L ++ [0])) (l ++ [false]) := by
  have hs := h.1
  rw [strOf_size] at hs
  refine ⟨by rw [strOf_size, List.length_append, List.length_append, List.length_singleton, List.length_singleton]; omega, fun k hk => ?_⟩
  rw [strOf_size, List.length_append, List.length_singleton] at hk
  rw [bitAt_strOf, getD_snoc]
  have e2 : (if k = l.length then false else l.getD k false) = l.getD k false := by
    by_cases e : k = l.length
    · rw [if_pos e, getD_out (by omega)]
    · rw [if_neg e]
  rw [e2]
  by_cases hk2 : k / 8 < L.length
  · have := h.2 k (by rw [strOf_size]; omega)
    rw [bitAt_strOf] at this
    rw [← this, List.getD_eq_getElem?_getD, List.getD_eq_getElem?_getD, List.getElem?_append_left hk2]
  · rw [getD_out (by omega), List.getD_eq_getElem?_getD, List.getElem?_append_right (by omega), show k / 8 - L.length = 0 by omega]
    simp
theorem packed_same {L : List UInt8} {l : List Bool} (h : Packed (strOf L) l) (h8 : l.length % 8 ≠ 0) : Packed (strOf L) (l ++ [false]) := by
  have hs := h.1
  refine ⟨by rw [List.length_append, List.length_singleton]; omega, fun k hk => ?_⟩
  rw [getD_snoc, h.2 k hk]
  by_cases e : k = l.length
  · rw [if_pos e, getD_out (by omega)]
  · rw [if_neg e]
theorem packed_set {L : List UInt8} {l : List Bool} (h : Packed (strOf L) (l ++ [false])) (y : UInt8) (hy : y.toNat = (L.getD (L.length - 1) 0).toNat ||| 2 ^ (7 - l.length % 8)) : Packed (strOf (L.set (L.length - 1) y)) (l ++ [true]) := by
  have hs := h.1
  rw [strOf_size, List.length_append, List.length_singleton] at hs
  refine ⟨by rw [strOf_size, List.length_set, List.length_append, List.length_singleton]; exact hs, fun k hk => ?_⟩
  rw [strOf_size, List.length_set] at hk
  have h0 := h.2 k (by rw [strOf_size]; exact hk)
  rw [bitAt_strOf, getD_snoc] at h0
  rw [bitAt_strOf, getD_snoc]
  by_cases hi : k / 8 = L.length - 1
  · have e1 : (L.set (L.length - 1) y).getD (k / 8) 0 = y := by
      rw [List.getD_eq_getElem?_getD, hi, List.getElem?_set_self (by omega)]; rfl
    rw [e1, hy, Nat.testBit_or, ← hi, h0, Nat.testBit_two_pow]
    by_cases e : k = l.length
    · rw [if_pos e, if_pos e, e]; simp
    · rw [if_neg e, if_neg e]
      have : ¬ 7 - l.length % 8 = 7 - k % 8 := by omega
      simp [this]
  · have e1 : (L.set (L.length - 1) y).getD (k / 8) 0 = L.getD (k / 8) 0 := by
      rw [List.getD_eq_getElem?_getD, List.getElem?_set_ne (by omega), ← List.getD_eq_getElem?_getD]
    have e2 : k ≠ l.length := by omega
    rw [e1, h0, if_neg e2, if_neg e2]

def bytesV (L : List UInt8) : List Value := L.map (fun x => Value.int .u8 (x.toNat : Int))
theorem bytesV_one (L : List UInt8) : ∀ v ∈ bytesV L, v.oneCell' = true := by
  intro v hv
  unfold bytesV at hv
  rw [List.mem_map] at hv
  obtain ⟨x, _, rfl⟩ := hv
  rfl
theorem bytesV_push (L : List UInt8) : bytesV L ++ [Value.int .u8 0] = bytesV (L ++ [0]) := by simp [bytesV]
theorem bytesV_set (L : List UInt8) (i : Nat) (y : UInt8) : (bytesV L).set i (.int .u8 (y.toNat : Int)) = bytesV (L.set i y) := by simp [bytesV, List.map_set]

/-- The writer's box, its bytes, and the bits that they are. -/
structure Wr (B b : Nat) (w : World) (sv : Value) (L : List UInt8) (l : List Bool) : Prop where
  base : B ≤ b
  box : w.heap[b]? = some (.cells #[sv, .int .i64 (l.length : Nat)] 102)
  row : w.ownsRow B 5 1 sv L.length (bytesV L)
  bits : Packed (strOf L) l

theorem Wr.len {B b : Nat} {w : World} {sv : Value} {L : List UInt8} {l : List Bool} (h : Wr B b w sv L l) : L.length = (l.length + 7) / 8 := by
  have := h.bits.1; rwa [strOf_size] at this
theorem own_far {B b : Nat} {w w' : World} {sv : Value} {n : Nat} {xs : List Value} {cs : Array Value} (hb : w.heap[b]? = some (.cells cs 102)) (hr : w.ownsRow B 5 1 sv n xs) (hg : w.grownBy w' sv.ownBlock) : w'.heap[b]? = some (.cells cs 102) := by
  rw [hg.block b (lt_of_heap hb) ?_]
  · exact hb
  · intro e
    rcases hr.2 with ⟨rfl, _⟩ | ⟨g, cap, cur, rfl, _, hc, _⟩
    · cases e
    · simp only [Value.ownBlock, Option.some.injEq] at e
      subst e
      rw [hc] at hb
      injection hb with hb
      injection hb with _ h9
      exact absurd h9 (by decide)
theorem own_below {B : Nat} {w w' : World} {sv : Value} {n : Nat} {xs : List Value} (hr : w.ownsRow B 5 1 sv n xs) (hB : B ≤ w.heap.size) (hg : w.grownBy w' sv.ownBlock) : Below B w w' := by
  refine ⟨hg.os, hg.tape, hg.output, hg.size, fun k hk => hg.block k (by omega) ?_⟩
  intro e
  have := (hr.lt k e.symm).1
  omega
/-- The last byte, opened. -/
theorem own_last {B : Nat} {w : World} {sv : Value} {L : List UInt8} (hr : w.ownsRow B 5 1 sv L.length (bytesV L)) (hp : 0 < L.length) : ∃ g cap, sv = .slice (some ⟨g, 0, none⟩) L.length cap ∧ B ≤ g ∧ g < w.heap.size ∧ L.length ≤ cap ∧
    w.cell? ⟨g, L.length - 1, none⟩ = some (.int .u8 ((L.getD (L.length - 1) 0).toNat : Int)) ∧ (∀ o, w.frozen? ⟨g, o, none⟩ = false) ∧ (∀ c t f, w.heap[g]? = some (.cells c t f) → t = 5) := by
  rcases hr.2 with ⟨_, h0⟩ | ⟨g, cap, cur, rfl, hb, hc, h1, h2, h3, h4⟩
  · omega
  · refine ⟨g, cap, rfl, hb, lt_of_heap hc, h1, ?_, ?_, ?_⟩
    · have hj : (bytesV L)[L.length - 1]? = some (.int .u8 ((L.getD (L.length - 1) 0).toNat : Int)) := by
        unfold bytesV
        rw [List.getElem?_map, List.getD_eq_getElem?_getD, List.getElem?_eq_getElem (by omega)]
        rfl
      rw [← h4, List.getElem?_take_of_lt (by omega)] at hj
      simp only [World.cell?, hc]
      simpa using hj
    · intro o; simp [World.frozen?, hc]
    · intro c t f e
      rw [hc] at e
      injection e with e
      injection e with _ e2
      exact e2.symm
theorem or_bit (v p : Nat) (hv : v < 256) (hp : p < 8) : bits BinOp.or IntKind.u8 (v : Int) (128 / 2 ^ p) = ((v ||| 2 ^ (7 - p) : Nat) : Int) := by
  have H : ∀ (a : Fin 256) (c : Fin 8), bits BinOp.or IntKind.u8 (a.1 : Int) (128 / 2 ^ c.1) = ((a.1 ||| 2 ^ (7 - c.1) : Nat) : Int) := by decide +kernel
  exact H ⟨v, hv⟩ ⟨p, hp⟩
theorem Tryd.infoU8 : (Tryd.prog.info? 5).map (fun i => (i.zero, i.size, i.bytes)) = some (some (.int .u8 0), 1, 1) := by kernel_rfl
/-- The last byte gets its bit. -/
theorem set_last {B b : Nat} {W : World} {svA : Value} {LA : List UInt8} {l : List Bool} {p : Nat} (KB : W.heap[b]? = some (.cells #[svA, .int .i64 (l.length : Nat)] 102)) (KR : W.ownsRow B 5 1 svA LA.length (bytesV LA)) (PKD : Packed (strOf LA) (l ++ [false])) (hl : l.length ≤ 60000) (hp : l.length % 8 = p) :
    ∃ g n1 cap v0 y : Nat, svA = .slice (some ⟨g, 0, none⟩) (n1 + 1) cap ∧ g ≠ b ∧ n1 ≤ 9999 ∧ B ≤ g ∧ W.cell? ⟨g, n1, none⟩ = some (.int .u8 (v0 : Int)) ∧ (∀ o, W.frozen? ⟨g, o, none⟩ = false) ∧ bits BinOp.or IntKind.u8 (v0 : Int) (128 / 2 ^ p) = (y : Int) ∧ v0 < 256 ∧
      ∃ L2 : List UInt8, (W.setCell ⟨g, n1, none⟩ (.int .u8 (y : Int))).heap[b]? = some (.cells #[.slice (some ⟨g, 0, none⟩) (n1 + 1) cap, .int .i64 (l.length : Nat)] 102) ∧ (W.setCell ⟨g, n1, none⟩ (.int .u8 (y : Int))).ownsRow B 5 1 (.slice (some ⟨g, 0, none⟩) (n1 + 1) cap) L2.length (bytesV L2) ∧ Packed (strOf L2) (l ++ [true]) := by
  have hs := PKD.1
  rw [strOf_size, List.length_append, List.length_singleton] at hs
  obtain ⟨g, cap, rfl, hBg, hgl, hlc, cg, fg, ty⟩ := own_last KR (by omega)
  have hgb : g ≠ b := by
    rintro rfl
    exact absurd (ty _ _ _ KB) (by decide)
  have hv := UInt8.toNat_lt (LA.getD (LA.length - 1) 0)
  have hor : (LA.getD (LA.length - 1) 0).toNat ||| 2 ^ (7 - p) < 256 := Nat.or_lt_two_pow (n := 8) hv (Nat.pow_lt_pow_right (by omega) (by omega))
  have RS := (World.ownsRow.stored KR (LA.length - 1) (.int .u8 (((LA.getD (LA.length - 1) 0).toNat ||| 2 ^ (7 - p) : Nat) : Int))).1
  have eset := bytesV_set LA (LA.length - 1) (UInt8.ofNat ((LA.getD (LA.length - 1) 0).toNat ||| 2 ^ (7 - p)))
  rw [u8_of hor] at eset
  rw [eset] at RS
  refine ⟨g, LA.length - 1, cap, (LA.getD (LA.length - 1) 0).toNat, (LA.getD (LA.length - 1) 0).toNat ||| 2 ^ (7 - p), by rw [show LA.length - 1 + 1 = LA.length by omega], hgb, by omega, hBg, cg, fg, or_bit _ p hv (by omega), hv, LA.set (LA.length - 1) (UInt8.ofNat ((LA.getD (LA.length - 1) 0).toNat ||| 2 ^ (7 - p))), ?_, ?_, packed_set PKD _ (by rw [u8_of hor, hp])⟩
  · rw [Below.heap_setCell _ _ _ b (fun e => hgb e.symm), show LA.length - 1 + 1 = LA.length by omega]; exact KB
  · rw [List.length_set, show LA.length - 1 + 1 = LA.length by omega]; exact RS

set_option maxRecDepth 100000 in
set_option maxHeartbeats 1600000 in
theorem wbit_f (B b : Nat) (w : World) (sv : Value) (L : List UInt8) (l : List Bool) (h : Wr B b w sv L l) (hl : l.length ≤ 60000) (hB : B ≤ w.heap.size) (h8 : l.length % 8 ≠ 0) :
    Calls Tryd.prog 91 #[.pointer (some ⟨b, 0, none⟩), .bool false] w fun e w' => e = .returned (.tuple #[]) ∧ (∃ sv' L', Wr B b w' sv' L' (l ++ [false])) ∧ Below B w w' := by
  have hL := hide h.len
  have HBB := hide h.base
  obtain ⟨c0, c1, cf⟩ := cells2 h.box
  obtain ⟨p, hp⟩ : ∃ p, l.length % 8 = p := ⟨_, rfl⟩
  have p8 : p < 8 := by omega
  rw [hp] at h8
  have HP := hide hp
  have e4 : IntKind.i64.wrap ((l.length : Int) % 8) = (p : Int) := by rw [IntKind.wrap_i64]; omega
  have e5 : (l.length : Int) % 8 = (p : Int) := by omega
  have FIN : ∀ (W : World) (svA : Value) (LA : List UInt8) (x : Bool), W.heap[b]? = some (.cells #[svA, .int .i64 (l.length : Nat)] 102) → W.ownsRow B 5 1 svA LA.length (bytesV LA) → Packed (strOf LA) (l ++ [x]) → Wr B b (W.setCell ⟨b, 1, none⟩ (.int .i64 ((l.length : Int) + 1))) svA LA (l ++ [x]) := by
    intro W svA LA x k1 k2 k3
    refine ⟨h.base, ?_, ?_, k3⟩
    · simp [World.setCell, Array.getElem?_modify, k1]
    · refine k2.kept (row := some b) ⟨rfl, rfl, rfl, by simp [World.setCell], fun k hk hne => Below.heap_setCell _ _ _ k (fun e => hne (by rw [e]))⟩ ?_
      rcases k2.2 with ⟨rfl, _⟩ | ⟨g, cap, cur, rfl, _, hc, _⟩
      · exact Or.inl rfl
      · right
        intro e
        simp only [Value.ownBlock, Option.some.injEq] at e
        subst e
        rw [k1] at hc
        injection hc with hc
        injection hc with _ h9
        exact absurd h9 (by decide)
  replace FIN := hide FIN
  have h9 : ¬ (p : Int) = 0 := by omega
  have PKD := hide (packed_same h.bits (by rw [unhide HP]; exact h8))
  have KB := hide h.box
  have KR := hide h.row
  have BA := hide (Below.refl B w)
  have BLE := hide hB
  generalize hWA : w = WA at *
  generalize hsv : sv = svA at *
  generalize hLA : L = LA at *
  clear h
  go_enter Tryd.func91, Tryd.ntmps91
  go_wp2_with fail
  have hfin : Wr B b (WA.setCell ⟨b, 1, none⟩ (.int .i64 ((l.length : Int) + 1))) svA LA (l ++ [false]) := unhide FIN WA svA LA false (unhide KB) (unhide KR) (unhide PKD)
  replace hfin := hide hfin
  go_wp2_with fail
  go_end0
  exact ⟨rfl, ⟨_, _, unhide hfin⟩, (unhide BA).trans (below_set1 WA (unhide HBB) _ 1)⟩

set_option maxRecDepth 100000 in
set_option maxHeartbeats 1600000 in
theorem wbit_0f (B b : Nat) (w : World) (sv : Value) (L : List UInt8) (l : List Bool) (h : Wr B b w sv L l) (hl : l.length ≤ 60000) (hB : B ≤ w.heap.size) (h8 : l.length % 8 = 0) :
    Calls Tryd.prog 91 #[.pointer (some ⟨b, 0, none⟩), .bool false] w fun e w' => e = .returned (.tuple #[]) ∧ (∃ sv' L', Wr B b w' sv' L' (l ++ [false])) ∧ Below B w w' := by
  have hL := hide h.len
  have HBB := hide h.base
  obtain ⟨c0, c1, cf⟩ := cells2 h.box
  obtain ⟨p, hp⟩ : ∃ p, l.length % 8 = p := ⟨_, rfl⟩
  have p8 : p < 8 := by omega
  rw [hp] at h8
  have HP := hide hp
  have e4 : IntKind.i64.wrap ((l.length : Int) % 8) = (p : Int) := by rw [IntKind.wrap_i64]; omega
  have e5 : (l.length : Int) % 8 = (p : Int) := by omega
  have FIN : ∀ (W : World) (svA : Value) (LA : List UInt8) (x : Bool), W.heap[b]? = some (.cells #[svA, .int .i64 (l.length : Nat)] 102) → W.ownsRow B 5 1 svA LA.length (bytesV LA) → Packed (strOf LA) (l ++ [x]) → Wr B b (W.setCell ⟨b, 1, none⟩ (.int .i64 ((l.length : Int) + 1))) svA LA (l ++ [x]) := by
    intro W svA LA x k1 k2 k3
    refine ⟨h.base, ?_, ?_, k3⟩
    · simp [World.setCell, Array.getElem?_modify, k1]
    · refine k2.kept (row := some b) ⟨rfl, rfl, rfl, by simp [World.setCell], fun k hk hne => Below.heap_setCell _ _ _ k (fun e => hne (by rw [e]))⟩ ?_
      rcases k2.2 with ⟨rfl, _⟩ | ⟨g, cap, cur, rfl, _, hc, _⟩
      · exact Or.inl rfl
      · right
        intro e
        simp only [Value.ownBlock, Option.some.injEq] at e
        subst e
        rw [k1] at hc
        injection hc with hc
        injection hc with _ h9
        exact absurd h9 (by decide)
  replace FIN := hide FIN
  subst h8
  obtain ⟨zz, zi, zz0, zz1, zz2⟩ := info_parts Tryd.infoU8
  have PKD := hide (packed_push h.bits (unhide HP))
  have WN : ∀ j u, [Value.int .u8 0][j]? = some u → (w.alloc (.cells #[.int .u8 0] 5)).cell? ((⟨w.heap.size, 0, none⟩ : Addr).add j) = some u := World.news_of_block (heap_new w _)
  have RW : (w.alloc (.cells #[.int .u8 0] 5)).ownsRow B 5 1 sv L.length (bytesV L) := h.row.alloc _
  have KA : (w.alloc (.cells #[.int .u8 0] 5)).heap[b]? = some (.cells #[sv, .int .i64 (l.length : Nat)] 102) := (Below.heap_alloc w _ b (lt_of_heap h.box)).trans h.box
  have hs1 : B ≤ (w.alloc (.cells #[.int .u8 0] 5)).heap.size := by simp; omega
  have hLb : L.length ≤ 10000 := by have := unhide hL; omega
  have BA0 : Below B w (w.alloc (.cells #[.int .u8 0] 5)) := (Below.refl _ _).alloc hB _
  have lb := lt_of_heap h.box
  have hlb : ¬ w.heap.size = b := by omega
  replace WN := hide WN
  replace RW := hide RW
  replace KA := hide KA
  replace BA0 := hide BA0
  clear h
  go_enter Tryd.func91, Tryd.ntmps91
  go_wp2_with (at_builtin; refine wpList_append_lies _ rfl _ _ 79 rfl B 5 zz (.int .u8 0) 1 1 Tryd.underlying79 zi zz0 zz1 zz2 rfl (by decide) sv _ _ rfl (unhide RW) ⟨w.heap.size, 0, none⟩ 1 1 [.int .u8 0] rfl rfl (unhide WN) (by intro u hu; simp at hu; subst hu; rfl) (by omega) (by unfold maxLen; omega) (by omega) hs1 _ rfl ?_; intro g9 cap9 w9 hown9 hgrow9 hat9 hlt9; clear hat9 hlt9; have KB9 := own_far (unhide KA) (unhide RW) hgrow9; obtain ⟨d0, d1, df⟩ := cells2 KB9; have BA9 := hide ((unhide BA0).trans (own_below (unhide RW) hs1 hgrow9)); replace KB9 := hide KB9; replace hown9 := hide hown9; clear hgrow9)
  have LL : (L ++ [0]).length = L.length + 1 := by simp
  have KB : (w9.setCell ⟨b, 0, none⟩ (.slice (some ⟨g9, 0, none⟩) (L.length + 1) cap9)).heap[b]? = some (.cells #[.slice (some ⟨g9, 0, none⟩) (L.length + 1) cap9, .int .i64 (l.length : Nat)] 102) := by
    have := unhide KB9
    simp [World.setCell, Array.getElem?_modify, this]
  have KR : (w9.setCell ⟨b, 0, none⟩ (.slice (some ⟨g9, 0, none⟩) (L.length + 1) cap9)).ownsRow B 5 1 (.slice (some ⟨g9, 0, none⟩) (L.length + 1) cap9) (L ++ [0]).length (bytesV (L ++ [0])) := by
    have k2 := unhide hown9
    rw [bytesV_push] at k2
    rw [LL]
    refine k2.kept (row := some b) ⟨rfl, rfl, rfl, by simp [World.setCell], fun k hk hne => Below.heap_setCell _ _ _ k (fun e => hne (by rw [e]))⟩ ?_
    rcases k2.2 with ⟨e0, _⟩ | ⟨g, cap, cur, e0, _, hc, _⟩
    · exact absurd e0 (by simp)
    · right
      rw [e0]
      intro e
      simp only [Value.ownBlock, Option.some.injEq] at e
      subst e
      rw [unhide KB9] at hc
      injection hc with hc
      injection hc with _ h9
      exact absurd h9 (by decide)
  have BA := hide ((unhide BA9).trans (below_set1 w9 (unhide HBB) (.slice (some ⟨g9, 0, none⟩) (L.length + 1) cap9) 0))
  replace KB := hide KB
  replace KR := hide KR
  clear KB9 hown9 BA9 LL WN RW KA BA0 hs1 c0 c1 cf
  generalize w9.setCell ⟨b, 0, none⟩ (.slice (some ⟨g9, 0, none⟩) (L.length + 1) cap9) = WA at KB KR BA ⊢
  generalize Value.slice (some ⟨g9, 0, none⟩) (L.length + 1) cap9 = svA at KB KR ⊢
  generalize L ++ [0] = LA at KR PKD ⊢
  go_end0
  exact ⟨rfl, ⟨_, _, unhide FIN WA svA LA false (unhide KB) (unhide KR) (unhide PKD)⟩, (unhide BA).trans (below_set1 WA (unhide HBB) _ 1)⟩

set_option maxRecDepth 100000 in
set_option maxHeartbeats 1600000 in
theorem wbit_t (B b : Nat) (w : World) (sv : Value) (L : List UInt8) (l : List Bool) (h : Wr B b w sv L l) (hl : l.length ≤ 60000) (hB : B ≤ w.heap.size) (h8 : l.length % 8 ≠ 0) :
    Calls Tryd.prog 91 #[.pointer (some ⟨b, 0, none⟩), .bool true] w fun e w' => e = .returned (.tuple #[]) ∧ (∃ sv' L', Wr B b w' sv' L' (l ++ [true])) ∧ Below B w w' := by
  have hL := hide h.len
  have HBB := hide h.base
  obtain ⟨c0, c1, cf⟩ := cells2 h.box
  obtain ⟨p, hp⟩ : ∃ p, l.length % 8 = p := ⟨_, rfl⟩
  have p8 : p < 8 := by omega
  rw [hp] at h8
  have HP := hide hp
  have e4 : IntKind.i64.wrap ((l.length : Int) % 8) = (p : Int) := by rw [IntKind.wrap_i64]; omega
  have e5 : (l.length : Int) % 8 = (p : Int) := by omega
  have FIN : ∀ (W : World) (svA : Value) (LA : List UInt8) (x : Bool), W.heap[b]? = some (.cells #[svA, .int .i64 (l.length : Nat)] 102) → W.ownsRow B 5 1 svA LA.length (bytesV LA) → Packed (strOf LA) (l ++ [x]) → Wr B b (W.setCell ⟨b, 1, none⟩ (.int .i64 ((l.length : Int) + 1))) svA LA (l ++ [x]) := by
    intro W svA LA x k1 k2 k3
    refine ⟨h.base, ?_, ?_, k3⟩
    · simp [World.setCell, Array.getElem?_modify, k1]
    · refine k2.kept (row := some b) ⟨rfl, rfl, rfl, by simp [World.setCell], fun k hk hne => Below.heap_setCell _ _ _ k (fun e => hne (by rw [e]))⟩ ?_
      rcases k2.2 with ⟨rfl, _⟩ | ⟨g, cap, cur, rfl, _, hc, _⟩
      · exact Or.inl rfl
      · right
        intro e
        simp only [Value.ownBlock, Option.some.injEq] at e
        subst e
        rw [k1] at hc
        injection hc with hc
        injection hc with _ h9
        exact absurd h9 (by decide)
  replace FIN := hide FIN
  have h9 : ¬ (p : Int) = 0 := by omega
  have PKD := hide (packed_same h.bits (by rw [unhide HP]; exact h8))
  have KB := hide h.box
  have KR := hide h.row
  have BA := hide (Below.refl B w)
  have BLE := hide hB
  generalize hWA : w = WA at *
  generalize hsv : sv = svA at *
  generalize hLA : L = LA at *
  clear h
  obtain ⟨g, n1, cap, v0, y, hsv2, hgb, hn1, hBg, cg, fg, eo, hv0, L2, KB2, KR2, PK2⟩ := set_last (unhide KB) (unhide KR) (unhide PKD) hl (unhide HP)
  subst hsv2
  replace KB2 := hide KB2
  replace KR2 := hide KR2
  replace PK2 := hide PK2
  clear KB KR PKD
  go_enter Tryd.func91, Tryd.ntmps91
  go_wp2_with fail
  have hgb2 : ¬ b = g := fun e => hgb e.symm
  have hgb3 : ¬ g = b := hgb
  go_region
  all_goals
    have KD : (WA.setCell ⟨g, n1, none⟩ (.int .u8 (y : Int))).drew.heap[b]? = some (.cells #[.slice (some ⟨g, 0, none⟩) (n1 + 1) cap, .int .i64 (l.length : Nat)] 102) := unhide KB2
    have RD : (WA.setCell ⟨g, n1, none⟩ (.int .u8 (y : Int))).drew.ownsRow B 5 1 (.slice (some ⟨g, 0, none⟩) (n1 + 1) cap) L2.length (bytesV L2) := unhide KR2
    have BD := hide ((unhide BA).trans ((below_set1 WA hBg (.int .u8 (y : Int)) n1).trans ((below_drew _).mono (Nat.le_trans (unhide BLE) (by simp [World.setCell])))))
    clear c0 c1 cf cg fg eo
    generalize (WA.setCell ⟨g, n1, none⟩ (.int .u8 (y : Int))).drew = WB at KD RD BD ⊢
    obtain ⟨c0, c1, cf⟩ := cells2 KD
    have hfin := hide (unhide FIN WB _ L2 true KD RD (unhide PK2))
    clear KD RD
    go_wp2_with fail
    go_end0
    exact ⟨rfl, ⟨_, _, unhide hfin⟩, (unhide BD).trans (below_set1 WB (unhide HBB) _ 1)⟩

set_option maxRecDepth 100000 in
set_option maxHeartbeats 1600000 in
theorem wbit_0t (B b : Nat) (w : World) (sv : Value) (L : List UInt8) (l : List Bool) (h : Wr B b w sv L l) (hl : l.length ≤ 60000) (hB : B ≤ w.heap.size) (h8 : l.length % 8 = 0) :
    Calls Tryd.prog 91 #[.pointer (some ⟨b, 0, none⟩), .bool true] w fun e w' => e = .returned (.tuple #[]) ∧ (∃ sv' L', Wr B b w' sv' L' (l ++ [true])) ∧ Below B w w' := by
  have hL := hide h.len
  have HBB := hide h.base
  obtain ⟨c0, c1, cf⟩ := cells2 h.box
  obtain ⟨p, hp⟩ : ∃ p, l.length % 8 = p := ⟨_, rfl⟩
  have p8 : p < 8 := by omega
  rw [hp] at h8
  have HP := hide hp
  have e4 : IntKind.i64.wrap ((l.length : Int) % 8) = (p : Int) := by rw [IntKind.wrap_i64]; omega
  have e5 : (l.length : Int) % 8 = (p : Int) := by omega
  have FIN : ∀ (W : World) (svA : Value) (LA : List UInt8) (x : Bool), W.heap[b]? = some (.cells #[svA, .int .i64 (l.length : Nat)] 102) → W.ownsRow B 5 1 svA LA.length (bytesV LA) → Packed (strOf LA) (l ++ [x]) → Wr B b (W.setCell ⟨b, 1, none⟩ (.int .i64 ((l.length : Int) + 1))) svA LA (l ++ [x]) := by
    intro W svA LA x k1 k2 k3
    refine ⟨h.base, ?_, ?_, k3⟩
    · simp [World.setCell, Array.getElem?_modify, k1]
    · refine k2.kept (row := some b) ⟨rfl, rfl, rfl, by simp [World.setCell], fun k hk hne => Below.heap_setCell _ _ _ k (fun e => hne (by rw [e]))⟩ ?_
      rcases k2.2 with ⟨rfl, _⟩ | ⟨g, cap, cur, rfl, _, hc, _⟩
      · exact Or.inl rfl
      · right
        intro e
        simp only [Value.ownBlock, Option.some.injEq] at e
        subst e
        rw [k1] at hc
        injection hc with hc
        injection hc with _ h9
        exact absurd h9 (by decide)
  replace FIN := hide FIN
  subst h8
  obtain ⟨zz, zi, zz0, zz1, zz2⟩ := info_parts Tryd.infoU8
  have PKD := hide (packed_push h.bits (unhide HP))
  have WN : ∀ j u, [Value.int .u8 0][j]? = some u → (w.alloc (.cells #[.int .u8 0] 5)).cell? ((⟨w.heap.size, 0, none⟩ : Addr).add j) = some u := World.news_of_block (heap_new w _)
  have RW : (w.alloc (.cells #[.int .u8 0] 5)).ownsRow B 5 1 sv L.length (bytesV L) := h.row.alloc _
  have KA : (w.alloc (.cells #[.int .u8 0] 5)).heap[b]? = some (.cells #[sv, .int .i64 (l.length : Nat)] 102) := (Below.heap_alloc w _ b (lt_of_heap h.box)).trans h.box
  have hs1 : B ≤ (w.alloc (.cells #[.int .u8 0] 5)).heap.size := by simp; omega
  have hLb : L.length ≤ 10000 := by have := unhide hL; omega
  have BA0 : Below B w (w.alloc (.cells #[.int .u8 0] 5)) := (Below.refl _ _).alloc hB _
  have lb := lt_of_heap h.box
  have hlb : ¬ w.heap.size = b := by omega
  replace WN := hide WN
  replace RW := hide RW
  replace KA := hide KA
  replace BA0 := hide BA0
  clear h
  go_enter Tryd.func91, Tryd.ntmps91
  go_wp2_with (at_builtin; refine wpList_append_lies _ rfl _ _ 79 rfl B 5 zz (.int .u8 0) 1 1 Tryd.underlying79 zi zz0 zz1 zz2 rfl (by decide) sv _ _ rfl (unhide RW) ⟨w.heap.size, 0, none⟩ 1 1 [.int .u8 0] rfl rfl (unhide WN) (by intro u hu; simp at hu; subst hu; rfl) (by omega) (by unfold maxLen; omega) (by omega) hs1 _ rfl ?_; intro g9 cap9 w9 hown9 hgrow9 hat9 hlt9; clear hat9 hlt9; have KB9 := own_far (unhide KA) (unhide RW) hgrow9; obtain ⟨d0, d1, df⟩ := cells2 KB9; have BA9 := hide ((unhide BA0).trans (own_below (unhide RW) hs1 hgrow9)); replace KB9 := hide KB9; replace hown9 := hide hown9; clear hgrow9)
  have LL : (L ++ [0]).length = L.length + 1 := by simp
  have KB : (w9.setCell ⟨b, 0, none⟩ (.slice (some ⟨g9, 0, none⟩) (L.length + 1) cap9)).heap[b]? = some (.cells #[.slice (some ⟨g9, 0, none⟩) (L.length + 1) cap9, .int .i64 (l.length : Nat)] 102) := by
    have := unhide KB9
    simp [World.setCell, Array.getElem?_modify, this]
  have KR : (w9.setCell ⟨b, 0, none⟩ (.slice (some ⟨g9, 0, none⟩) (L.length + 1) cap9)).ownsRow B 5 1 (.slice (some ⟨g9, 0, none⟩) (L.length + 1) cap9) (L ++ [0]).length (bytesV (L ++ [0])) := by
    have k2 := unhide hown9
    rw [bytesV_push] at k2
    rw [LL]
    refine k2.kept (row := some b) ⟨rfl, rfl, rfl, by simp [World.setCell], fun k hk hne => Below.heap_setCell _ _ _ k (fun e => hne (by rw [e]))⟩ ?_
    rcases k2.2 with ⟨e0, _⟩ | ⟨g, cap, cur, e0, _, hc, _⟩
    · exact absurd e0 (by simp)
    · right
      rw [e0]
      intro e
      simp only [Value.ownBlock, Option.some.injEq] at e
      subst e
      rw [unhide KB9] at hc
      injection hc with hc
      injection hc with _ h9
      exact absurd h9 (by decide)
  have BA := hide ((unhide BA9).trans (below_set1 w9 (unhide HBB) (.slice (some ⟨g9, 0, none⟩) (L.length + 1) cap9) 0))
  replace KB := hide KB
  replace KR := hide KR
  clear KB9 hown9 BA9 LL WN RW KA BA0 hs1 c0 c1 cf
  obtain ⟨g, n1, cap, v0, y, hsv2, hgb, hn1, hBg, cg, fg, eo, hv0, L2, KB2, KR2, PK2⟩ := set_last (unhide KB) (unhide KR) (unhide PKD) hl (unhide HP)
  simp only [Value.slice.injEq, Option.some.injEq, Addr.mk.injEq] at hsv2
  obtain ⟨⟨rfl, _⟩, hn2, rfl⟩ := hsv2
  obtain rfl : n1 = L.length := by omega
  have BLE : Hid (B ≤ (w9.setCell ⟨b, 0, none⟩ (.slice (some ⟨g9, 0, none⟩) (L.length + 1) cap9)).heap.size) := hide (Nat.le_trans hB (unhide BA).size)
  obtain ⟨c0, c1, cf⟩ := cells2 (unhide KB)
  replace KB2 := hide KB2
  replace KR2 := hide KR2
  replace PK2 := hide PK2
  clear KB KR PKD d0 d1 df
  generalize hn3 : L.length = n1 at KB2 KR2 BA BLE c0 c1 cf cg fg hn1 ⊢
  generalize w9.setCell ⟨b, 0, none⟩ (.slice (some ⟨g9, 0, none⟩) (n1 + 1) cap9) = WA at KB2 KR2 BA BLE c0 c1 cf cg fg ⊢
  have g9b : ¬ g9 = b := hgb
  generalize hg9 : g9 = g at KB2 KR2 c0 c1 cf cg fg hgb hBg ⊢
  generalize hc9 : cap9 = cap at KB2 KR2 c0 c1 cf ⊢
  rw [show (128 : Int) / 2 ^ 0 = 128 from by decide] at eo
  have hgb2 : ¬ b = g := fun e => hgb e.symm
  have hgb3 : ¬ g = b := hgb
  go_region
  all_goals
    have KD : (WA.setCell ⟨g, n1, none⟩ (.int .u8 (y : Int))).drew.heap[b]? = some (.cells #[.slice (some ⟨g, 0, none⟩) (n1 + 1) cap, .int .i64 (l.length : Nat)] 102) := unhide KB2
    have RD : (WA.setCell ⟨g, n1, none⟩ (.int .u8 (y : Int))).drew.ownsRow B 5 1 (.slice (some ⟨g, 0, none⟩) (n1 + 1) cap) L2.length (bytesV L2) := unhide KR2
    have BD := hide ((unhide BA).trans ((below_set1 WA hBg (.int .u8 (y : Int)) n1).trans ((below_drew _).mono (Nat.le_trans (unhide BLE) (by simp [World.setCell])))))
    clear c0 c1 cf cg fg eo
    generalize (WA.setCell ⟨g, n1, none⟩ (.int .u8 (y : Int))).drew = WB at KD RD BD ⊢
    obtain ⟨c0, c1, cf⟩ := cells2 KD
    have hfin := hide (unhide FIN WB _ L2 true KD RD (unhide PK2))
    clear KD RD
    go_wp2_with fail
    go_end0
    exact ⟨rfl, ⟨_, _, unhide hfin⟩, (unhide BD).trans (below_set1 WB (unhide HBB) _ 1)⟩

end Go.Proofs.YtoebmfhgaalcdaaDoor
