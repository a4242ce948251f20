/-
  Our own. For sprigskeep.Halves: rows that are halved, who holds what, strings in a row of our own.
-/
import Derived.Test.YtoebmfhgaalcdaaDoorStampsK
import Derived.OwnWalk
namespace Go.Proofs.YtoebmfhgaalcdaaDoor
open Go.RowKit

/-- One row of cells, all of it. -/
def chainT : Tr Bool → Prop
  | ⟨.inl a⟩ => a = true
  | ⟨.inr (l, r)⟩ => (l = .leaf false ∧ chainT r) ∨ (r = .leaf false ∧ chainT l)

theorem chain_share (t : Tr Bool) : ∀ h, chainT t → deepT t ≤ h → shareP t (2 ^ h) = 2 ^ (h - deepT t) := by
  induction t using Tr.ind with
  | leaf a => intro h hc _; have hc : a = true := hc; subst hc; rfl
  | pair l r ihl ihr =>
    intro h hc hd
    have hd0 : max (deepT l) (deepT r) + 1 ≤ h := hd
    cases h with
    | zero => omega
    | succ h =>
      rw [share_pair]
      show _ = 2 ^ (h + 1 - (max (deepT l) (deepT r) + 1))
      rcases hc with ⟨rfl, hr⟩ | ⟨rfl, hl⟩
      · have z : deepT (Tr.leaf false) = 0 := rfl
        rw [share_false, ihr h hr (by omega), Nat.zero_add, z, show h + 1 - (max 0 (deepT r) + 1) = h - deepT r by omega]
      · have z : deepT (Tr.leaf false) = 0 := rfl
        rw [share_false, ihl h hl (by omega), Nat.add_zero, z, show h + 1 - (max (deepT l) 0 + 1) = h - deepT l by omega]

theorem chain_some {t : Tr Bool} (h : chainT t) : isNoneP t = false := by
  cases t using Tr.cs with
  | leaf a => have h : a = true := h; subst h; rfl
  | pair l r => rfl

theorem chain_cut (t : Tr Bool) : chainT t → chainT (cutP t).1 ∧ chainT (cutP t).2 ∧ deepT (cutP t).1 = deepT t + 1 ∧ deepT (cutP t).2 = deepT t + 1 := by
  induction t using Tr.ind with
  | leaf a => intro hc; have hc : a = true := hc; subst hc; exact ⟨Or.inr ⟨rfl, rfl⟩, Or.inl ⟨rfl, rfl⟩, rfl, rfl⟩
  | pair l r ihl ihr =>
    intro hc
    have z : deepT (Tr.leaf false) = 0 := rfl
    rcases hc with ⟨rfl, hr⟩ | ⟨rfl, hl⟩
    · have e : cutP (.pair (.leaf false) r) = (.pair (.leaf false) (cutP r).1, .pair (.leaf false) (cutP r).2) := rfl
      obtain ⟨a1, a2, a3, a4⟩ := ihr hr
      rw [e]
      refine ⟨Or.inl ⟨rfl, a1⟩, Or.inl ⟨rfl, a2⟩, ?_, ?_⟩
      · show max (deepT (Tr.leaf false)) (deepT (cutP r).1) + 1 = max (deepT (Tr.leaf false)) (deepT r) + 1 + 1; omega
      · show max (deepT (Tr.leaf false)) (deepT (cutP r).2) + 1 = max (deepT (Tr.leaf false)) (deepT r) + 1 + 1; omega
    · have e : cutP (.pair l (.leaf false)) = (.pair (cutP l).1 (.leaf false), .pair (cutP l).2 (.leaf false)) := by
        show (if isNoneP l = true then _ else if isNoneP (.leaf false) = true then _ else _) = _
        rw [if_neg (by rw [chain_some hl]; exact Bool.false_ne_true), if_pos (show isNoneP (Tr.leaf false) = true from rfl)]
      obtain ⟨a1, a2, a3, a4⟩ := ihl hl
      rw [e]
      refine ⟨Or.inr ⟨rfl, a1⟩, Or.inr ⟨rfl, a2⟩, ?_, ?_⟩
      · show max (deepT (cutP l).1) (deepT (Tr.leaf false)) + 1 = max (deepT l) (deepT (Tr.leaf false)) + 1 + 1; omega
      · show max (deepT (cutP l).2) (deepT (Tr.leaf false)) + 1 = max (deepT l) (deepT (Tr.leaf false)) + 1 + 1; omega

def holdsN (t : Tr Bool) (p : Nat → Bool) : Nat := if t.val p = true then 1 else 0
def sumN (p : Nat → Bool) : List (Tr Bool) → Nat
  | [] => 0
  | t :: G => holdsN t p + sumN p G
theorem sumN_append (p : Nat → Bool) : ∀ G H, sumN p (G ++ H) = sumN p G + sumN p H
  | [], H => by simp [sumN]
  | t :: G, H => by simp only [List.cons_append, sumN, sumN_append p G H]; omega
theorem sumN_cut (p : Nat → Bool) (G : List (Tr Bool)) (k : Nat) (h : k < G.length) : sumN p G = sumN p (G.take k ++ G.drop (k + 1)) + holdsN (G[k]) p := by
  conv => lhs; rw [← List.take_append_drop k G, ← List.getElem_cons_drop h]
  rw [sumN_append, sumN_append]
  simp only [sumN]; omega

/-- Every cell is held by just one. -/
def Cov (id : Tr Bool) (G : List (Tr Bool)) : Prop := ∀ p, holdsN id p + sumN p G = 1

theorem Cov.start : Cov (.leaf true) [] := fun _ => rfl
theorem Cov.cut {id a b : Tr Bool} {G : List (Tr Bool)} {h : Nat} (c : Cov id G) (C : CutInto h id a b) : Cov a (G ++ [b]) ∧ Cov b (G ++ [a]) := by
  have e : ∀ p, holdsN a p + holdsN b p = holdsN id p := by
    intro p
    unfold holdsN
    rcases C.val p with ⟨h1, h2, h3⟩ | ⟨h1, h2, h3⟩ | ⟨h1, h2, h3⟩ <;> simp [h1, h2, h3]
  constructor
  · intro p; rw [sumN_append]; simp only [sumN]; have := c p; have := e p; omega
  · intro p; rw [sumN_append]; simp only [sumN]; have := c p; have := e p; omega
theorem Cov.free {id : Tr Bool} {G : List (Tr Bool)} (c : Cov id G) (k : Nat) (h : k < G.length) : clash id G[k] = false := by
  rw [clash_no]
  intro p hp
  have h1 := c p
  rw [sumN_cut p G k h] at h1
  unfold holdsN at h1
  rw [if_pos hp] at h1
  cases hv : G[k].val p with
  | false => rfl
  | true => rw [if_pos hv] at h1; omega
theorem Cov.join {id : Tr Bool} {G : List (Tr Bool)} (c : Cov id G) (k : Nat) (h : k < G.length) : Cov (orB id G[k]) (G.take k ++ G.drop (k + 1)) := by
  intro p
  have h1 := c p
  rw [sumN_cut p G k h] at h1
  have : holdsN (orB id G[k]) p = holdsN id p + holdsN G[k] p := by
    unfold holdsN at *
    rw [orB_val]
    cases h2 : id.val p <;> cases h3 : G[k].val p <;> simp [h2, h3] at h1 ⊢
  omega
theorem Cov.whole {id : Tr Bool} (c : Cov id []) (hp : plainT id) : id = .leaf true := by
  refine leaf_of_val true hp fun p => ?_
  have := c p
  unfold holdsN at this
  cases h : id.val p with
  | true => rfl
  | false => rw [h] at this; simp [sumN] at this

/-- Strings in a row of our own. -/
def Row (B : Nat) (w : World) (v : Value) (L : List ByteArray) : Prop := w.ownsRow B 9 1 v L.length (L.map .string)

theorem Row.keep {B : Nat} {w w' : World} {v : Value} {L : List ByteArray} (h : Row B w v L) (hb : Below w.heap.size w w') : Row B w' v L := by
  obtain ⟨h1, h2⟩ := h
  refine ⟨h1, ?_⟩
  rcases h2 with h2 | ⟨g, cap, cur, e1, e2, e3, e4, e5, e6, e7⟩
  · exact Or.inl h2
  · exact Or.inr ⟨g, cap, cur, e1, e2, (hb.block g (lt_of_heap e3)).trans e3, e4, e5, e6, e7⟩
theorem Row.form {B : Nat} {w : World} {v : Value} {L : List ByteArray} (h : Row B w v L) : (v = .slice none 0 0 ∧ L = []) ∨ ∃ g cap, v = .slice (some ⟨g, 0, none⟩) L.length cap ∧ B ≤ g ∧ g < w.heap.size ∧ L.length ≤ cap ∧ cap ≤ maxLen ∧ ∀ j (hj : j < L.length), w.cell? ⟨g, j, none⟩ = some (.string L[j]) := by
  obtain ⟨h1, h2⟩ := h
  rcases h2 with ⟨h2, h3⟩ | ⟨g, cap, cur, e1, e2, e3, e4, e5, e6, e7⟩
  · exact Or.inl ⟨h2, List.length_eq_zero_iff.1 h3⟩
  · refine Or.inr ⟨g, cap, e1, e2, lt_of_heap e3, e4, e5, fun j hj => ?_⟩
    have : cur[j]? = some (.string L[j]) := by
      have e8 : (cur.toList.take (L.length * 1))[j]? = (L.map Value.string)[j]? := by rw [e7]
      rw [List.getElem?_take_of_lt (by omega)] at e8
      simpa [List.getElem?_eq_getElem hj] using e8
    simp only [World.cell?, e3]
    simpa using this

theorem Tryd.info9H : (Tryd.prog.info? 9).map (fun i => (i.zero, i.size, i.bytes)) = some (some (.string { data := #[] }), 1, 16) := by kernel_rfl

end Go.Proofs.YtoebmfhgaalcdaaDoor
