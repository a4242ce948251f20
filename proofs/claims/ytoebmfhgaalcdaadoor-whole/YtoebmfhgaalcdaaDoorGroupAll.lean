/-
  Our own. Groups of members, as plain data: what is so of them from the whole on, and why Leq says just which events were ahead.
-/
import Derived.Test.YtoebmfhgaalcdaaDoorCalls3
import Derived.Test.YtoebmfhgaalcdaaDoorCountedLaw
import Derived.Test.YtoebmfhgaalcdaaDoorHalvesP
import Derived.Deep.MidRow
import Derived.Deep.AppendLies
namespace Go.Proofs.YtoebmfhgaalcdaaDoor

structure Mem where
  id : Tr Bool
  ev : Tr Nat
  past : Nat → Bool
  peek : Bool

/-- What is so of a group. -/
structure GInv (L : List Mem) (d : Nat) : Prop where
  pt : ∀ (i : Nat) (m : Mem), L[i]? = some m → PT m.id m.ev
  high : ∀ (i : Nat) (m : Mem), L[i]? = some m → highest m.ev ≤ d
  dn : d ≤ 60
  pk : ∀ (i : Nat) (m : Mem), L[i]? = some m → (m.peek = true ↔ m.id = .leaf false)
  excl : ∀ (i j : Nat) (m n : Mem), L[i]? = some m → L[j]? = some n → i ≠ j → ∀ p, m.id.val p = true → n.id.val p = false
  total : ∀ p, ∃ (i : Nat) (m : Mem), L[i]? = some m ∧ m.id.val p = true
  sum : (L.map (fun m => shareP m.id 256)).sum = 256
  top : ∀ (i j : Nat) (m n : Mem), L[i]? = some m → L[j]? = some n → ∀ p, m.id.val p = true → n.ev.val p ≤ m.ev.val p
  fresh : ∀ (i : Nat) (m : Mem), L[i]? = some m → ∀ j, m.past j = true → j < d
  mark : ∀ j, j < d → ∃ p n, (∀ (i : Nat) (m : Mem), L[i]? = some m → (m.past j = true ↔ n ≤ m.ev.val p)) ∧ ∃ (i : Nat) (m : Mem), L[i]? = some m ∧ m.past j = true
  why : ∀ (i : Nat) (m : Mem), L[i]? = some m → ∀ p, 0 < m.ev.val p → ∃ j, m.past j = true ∧ ∀ (k : Nat) (n : Mem), L[k]? = some n → n.past j = true → m.ev.val p ≤ n.ev.val p

/-- Leq says just which events were ahead. -/
theorem GInv.leq {L : List Mem} {d : Nat} (g : GInv L d) {i k : Nat} {m n : Mem} (hm : L[i]? = some m) (hn : L[k]? = some n) : atMostP m.ev n.ev = true ↔ ∀ j, j < 60 → m.past j = true → n.past j = true := by
  rw [atMost_iff]
  constructor
  · intro h j _ hj
    obtain ⟨p, c, hall, _⟩ := g.mark j (g.fresh i m hm j hj)
    have h1 := (hall i m hm).1 hj
    exact (hall k n hn).2 (Nat.le_trans h1 (h p))
  · intro h p
    rcases Nat.eq_zero_or_pos (m.ev.val p) with h0 | h0
    · omega
    · obtain ⟨j, hj, hall⟩ := g.why i m hm p h0
      have hd := g.fresh i m hm j hj
      have := g.dn
      exact hall k n hn (h j (by omega) hj)

def startMem : Mem := ⟨.leaf true, .leaf 0, fun _ => false, false⟩
theorem GInv.start : GInv [startMem] 0 := by
  have one : ∀ (i : Nat) (m : Mem), [startMem][i]? = some m → i = 0 ∧ m = startMem := by
    intro i m h
    cases i with
    | zero => simp at h; exact ⟨rfl, h.symm⟩
    | succ i => simp at h
  refine ⟨?_, ?_, by omega, ?_, ?_, fun p => ⟨0, startMem, rfl, rfl⟩, rfl, ?_, ?_, fun j h => by omega, ?_⟩
  · intro i m h; obtain ⟨_, rfl⟩ := one i m h; exact one_PT 0 (by omega)
  · intro i m h; obtain ⟨_, rfl⟩ := one i m h; exact Nat.le_refl _
  · intro i m h; obtain ⟨_, rfl⟩ := one i m h; simp [startMem]
  · intro i j m n h1 h2 hne; have := (one i m h1).1; have := (one j n h2).1; omega
  · intro i j m n h1 h2 p _; obtain ⟨_, rfl⟩ := one i m h1; obtain ⟨_, rfl⟩ := one j n h2; exact Nat.le_refl _
  · intro i m h j hj; obtain ⟨_, rfl⟩ := one i m h; cases hj
  · intro i m h p hp; obtain ⟨_, rfl⟩ := one i m h; exact absurd hp (by simp [startMem, val_leaf])

/-- A member holds something just if its share is above 0. -/
theorem GInv.share {L : List Mem} {d : Nat} (g : GInv L d) {i : Nat} {m : Mem} (hm : L[i]? = some m) : shareP m.id 256 = 0 ↔ m.peek = true := by
  rw [g.pk i m hm]
  exact share_zero m.id 8 (g.pt i m hm).di (g.pt i m hm).pi

theorem GInv.free {L : List Mem} {d : Nat} (g : GInv L d) {i k : Nat} {m n : Mem} (hm : L[i]? = some m) (hn : L[k]? = some n) (hne : i ≠ k) : clash m.id n.id = false := by
  rw [clash_no]; exact g.excl i k m n hm hn hne

theorem sum_set : ∀ (l : List Nat) (i x y : Nat), l[i]? = some x → (l.set i y).sum + x = l.sum + y
  | [], i, x, y, h => by simp at h
  | a :: l, 0, x, y, h => by simp at h; subst h; simp; omega
  | a :: l, i + 1, x, y, h => by
    have := sum_set l i x y (by simpa using h)
    simp; omega

/-- A new one that knows what another one knows, and holds nothing of others: what fork and peek make of a group. -/
theorem GInv.peeked {L : List Mem} {d : Nat} (g : GInv L d) {i : Nat} {m : Mem} (hm : L[i]? = some m) : GInv (L ++ [⟨.leaf false, m.ev, m.past, true⟩]) d := by
  have split : ∀ (k : Nat) (n : Mem), (L ++ [(⟨.leaf false, m.ev, m.past, true⟩ : Mem)])[k]? = some n → L[k]? = some n ∨ (k = L.length ∧ n = ⟨.leaf false, m.ev, m.past, true⟩) := by
    intro k n h
    rcases Nat.lt_or_ge k L.length with hk | hk
    · rw [List.getElem?_append_left hk] at h; exact Or.inl h
    · rw [List.getElem?_append_right hk] at h
      rcases Nat.eq_zero_or_pos (k - L.length) with h0 | h0
      · rw [h0] at h; simp at h; exact Or.inr ⟨by omega, h.symm⟩
      · rw [List.getElem?_eq_none (by simp; omega)] at h; cases h
  have old : ∀ (k : Nat) (n : Mem), L[k]? = some n → (L ++ [(⟨.leaf false, m.ev, m.past, true⟩ : Mem)])[k]? = some n := by
    intro k n h
    have hk : k < L.length := by
      rcases Nat.lt_or_ge k L.length with hk | hk
      · exact hk
      · rw [List.getElem?_eq_none hk] at h; cases h
    rw [List.getElem?_append_left hk]; exact h
  refine ⟨?_, ?_, g.dn, ?_, ?_, ?_, ?_, ?_, ?_, ?_, ?_⟩
  · intro k n h; rcases split k n h with h | ⟨_, rfl⟩
    · exact g.pt k n h
    · exact (g.pt i m hm).none
  · intro k n h; rcases split k n h with h | ⟨_, rfl⟩
    · exact g.high k n h
    · exact g.high i m hm
  · intro k n h; rcases split k n h with h | ⟨_, rfl⟩
    · exact g.pk k n h
    · simp
  · intro k j n o h1 h2 hne p hp
    rcases split k n h1 with h1 | ⟨e1, rfl⟩
    · rcases split j o h2 with h2 | ⟨e2, rfl⟩
      · exact g.excl k j n o h1 h2 hne p hp
      · rfl
    · exact absurd hp (by simp [val_leaf])
  · intro p; obtain ⟨k, n, h, hp⟩ := g.total p; exact ⟨k, n, old k n h, hp⟩
  · have := g.sum; simp [share_false, this]
  · intro k j n o h1 h2 p hp
    rcases split k n h1 with h1 | ⟨e1, rfl⟩
    · rcases split j o h2 with h2 | ⟨e2, rfl⟩
      · exact g.top k j n o h1 h2 p hp
      · exact g.top k i n m h1 hm p hp
    · exact absurd hp (by simp [val_leaf])
  · intro k n h; rcases split k n h with h | ⟨_, rfl⟩
    · exact g.fresh k n h
    · exact g.fresh i m hm
  · intro j hj
    obtain ⟨p, c, hall, k, n, hn, hp⟩ := g.mark j hj
    refine ⟨p, c, ?_, k, n, old k n hn, hp⟩
    intro k n h; rcases split k n h with h | ⟨_, rfl⟩
    · exact hall k n h
    · exact hall i m hm
  · intro k n h p hp
    have key : ∀ (k : Nat) (n : Mem), L[k]? = some n → 0 < n.ev.val p → ∃ j, n.past j = true ∧ ∀ (k : Nat) (o : Mem), (L ++ [(⟨.leaf false, m.ev, m.past, true⟩ : Mem)])[k]? = some o → o.past j = true → n.ev.val p ≤ o.ev.val p := by
      intro k n h hp
      obtain ⟨j, hj, hall⟩ := g.why k n h p hp
      refine ⟨j, hj, fun k2 o ho hpo => ?_⟩
      rcases split k2 o ho with ho | ⟨_, rfl⟩
      · exact hall k2 o ho hpo
      · exact hall i m hm hpo
    rcases split k n h with h | ⟨_, rfl⟩
    · exact key k n h hp
    · exact key i m hm hp

theorem get_lt {α : Type} {L : List α} {k : Nat} {n : α} (h : L[k]? = some n) : k < L.length := by
  rcases Nat.lt_or_ge k L.length with hk | hk
  · exact hk
  · rw [List.getElem?_eq_none hk] at h; cases h
theorem set_get {α : Type} {L : List α} {i k : Nat} {x n : α} (h : (L.set i x)[k]? = some n) : (k = i ∧ n = x) ∨ (k ≠ i ∧ L[k]? = some n) := by
  rw [List.getElem?_set] at h
  by_cases e : i = k
  · rw [if_pos e] at h
    split at h
    · injection h with h; exact Or.inl ⟨e.symm, h.symm⟩
    · cases h
  · rw [if_neg e] at h; exact Or.inr ⟨fun e' => e e'.symm, h⟩
theorem set_at {α : Type} {L : List α} {i : Nat} {x y : α} (h : L[i]? = some y) : (L.set i x)[i]? = some x := by
  rw [List.getElem?_set, if_pos rfl, if_pos (get_lt h)]
theorem set_far {α : Type} {L : List α} {i k : Nat} {x n : α} (h : L[k]? = some n) (hne : k ≠ i) : (L.set i x)[k]? = some n := by
  rw [List.getElem?_set, if_neg (fun e => hne e.symm)]; exact h

/-- An event of a member. -/
theorem GInv.evented {L : List Mem} {d : Nat} (g : GInv L d) (hd : d < 60) {i : Nat} {m : Mem} {t : Tr Nat} (hm : L[i]? = some m) (Q : PT m.id t) (E : Evented m.id m.ev t) :
    GInv (L.set i ⟨m.id, t, fun j => if j = d then true else m.past j, m.peek⟩) (d + 1) := by
  have nd : ∀ (k : Nat) (n : Mem), L[k]? = some n → n.past d = false := by
    intro k n h
    cases e : n.past d with
    | false => rfl
    | true => have := g.fresh k n h d e; omega
  refine ⟨?_, ?_, by omega, ?_, ?_, ?_, ?_, ?_, ?_, ?_, ?_⟩
  · intro k n h; rcases set_get h with ⟨_, rfl⟩ | ⟨_, h⟩
    · exact Q
    · exact g.pt k n h
  · intro k n h; rcases set_get h with ⟨_, rfl⟩ | ⟨_, h⟩
    · have := E.high; have := g.high i m hm; show highest t ≤ _; omega
    · have := g.high k n h; omega
  · intro k n h; rcases set_get h with ⟨_, rfl⟩ | ⟨_, h⟩
    · exact g.pk i m hm
    · exact g.pk k n h
  · intro k j n o h1 h2 hne p hp
    rcases set_get h1 with ⟨e1, rfl⟩ | ⟨e1, h1⟩
    · rcases set_get h2 with ⟨e2, rfl⟩ | ⟨e2, h2⟩
      · omega
      · exact g.excl i j m o hm h2 (by omega) p hp
    · rcases set_get h2 with ⟨e2, rfl⟩ | ⟨e2, h2⟩
      · exact g.excl k i n m h1 hm (by omega) p hp
      · exact g.excl k j n o h1 h2 hne p hp
  · intro p
    obtain ⟨k, n, h, hp⟩ := g.total p
    by_cases e : k = i
    · subst e
      rw [hm] at h; injection h with h; subst h
      exact ⟨k, _, set_at hm, hp⟩
    · exact ⟨k, n, set_far h e, hp⟩
  · have e : (L.set i (⟨m.id, t, fun j => if j = d then true else m.past j, m.peek⟩ : Mem)).map (fun m => shareP m.id 256) = L.map (fun m => shareP m.id 256) := by
      rw [List.map_set]
      apply List.ext_getElem?
      intro k
      rw [List.getElem?_set]
      by_cases e : i = k
      · subst e
        rw [if_pos rfl, if_pos (by simpa using get_lt hm), List.getElem?_map, hm]; rfl
      · rw [if_neg e]
    rw [e]; exact g.sum
  · intro k j n o h1 h2 p hp
    rcases set_get h1 with ⟨e1, rfl⟩ | ⟨e1, h1⟩
    · rcases set_get h2 with ⟨e2, rfl⟩ | ⟨e2, h2⟩
      · exact Nat.le_refl _
      · exact Nat.le_trans (g.top i j m o hm h2 p hp) (E.more p)
    · rcases set_get h2 with ⟨e2, rfl⟩ | ⟨e2, h2⟩
      · have hf := g.excl k i n m h1 hm e1 p hp
        show t.val p ≤ _
        rw [E.rest p hf]
        exact g.top k i n m h1 hm p hp
      · exact g.top k j n o h1 h2 p hp
  · intro k n h j hj; rcases set_get h with ⟨_, rfl⟩ | ⟨_, h⟩
    · by_cases e : j = d
      · omega
      · have hj : (if j = d then true else m.past j) = true := hj
        rw [if_neg e] at hj
        have := g.fresh i m hm j hj; omega
    · have := g.fresh k n h j hj; omega
  · intro j hj
    by_cases e : j = d
    · subst e
      obtain ⟨p, hp, hlt⟩ := E.some
      refine ⟨p, t.val p, ?_, i, _, set_at hm, by show (if j = j then true else m.past j) = true; rw [if_pos rfl]⟩
      intro k n h; rcases set_get h with ⟨_, rfl⟩ | ⟨e2, h⟩
      · show (if j = j then true else m.past j) = true ↔ _
        rw [if_pos rfl]; exact ⟨fun _ => Nat.le_refl _, fun _ => rfl⟩
      · rw [nd k n h]
        have := g.top i k m n hm h p hp
        constructor
        · intro h; cases h
        · intro h; omega
    · obtain ⟨p, c, hall, k, n, hn, hpn⟩ := g.mark j (by omega)
      have im : m.past j = true ↔ c ≤ t.val p := by
        constructor
        · intro h; exact Nat.le_trans ((hall i m hm).1 h) (E.more p)
        · intro h
          by_cases hv : m.id.val p = true
          · have h1 := (hall k n hn).1 hpn
            have h2 := g.top i k m n hm hn p hv
            exact (hall i m hm).2 (by omega)
          · have hf : m.id.val p = false := by simpa using hv
            rw [E.rest p hf] at h
            exact (hall i m hm).2 h
      refine ⟨p, c, ?_, ?_⟩
      · intro k n h; rcases set_get h with ⟨_, rfl⟩ | ⟨_, h⟩
        · show (if j = d then true else m.past j) = true ↔ _
          rw [if_neg e]; exact im
        · exact hall k n h
      · by_cases e2 : k = i
        · subst e2
          rw [hm] at hn; injection hn with hn; subst hn
          exact ⟨k, _, set_at hm, by show (if j = d then true else m.past j) = true; rw [if_neg e]; exact hpn⟩
        · exact ⟨k, n, set_far hn e2, hpn⟩
  · intro k n h p hp
    rcases set_get h with ⟨_, rfl⟩ | ⟨e1, h9⟩
    · refine ⟨d, by show (if d = d then true else m.past d) = true; rw [if_pos rfl], ?_⟩
      intro k2 o ho hpo
      rcases set_get ho with ⟨_, rfl⟩ | ⟨_, ho⟩
      · exact Nat.le_refl _
      · rw [nd k2 o ho] at hpo; cases hpo
    · obtain ⟨j, hj, hall⟩ := g.why k n h9 p hp
      refine ⟨j, hj, fun k2 o ho hpo => ?_⟩
      rcases set_get ho with ⟨_, rfl⟩ | ⟨_, ho⟩
      · have hne : j ≠ d := by rintro rfl; rw [nd k n h9] at hj; cases hj
        have hpo : (if j = d then true else m.past j) = true := hpo
        rw [if_neg hne] at hpo
        exact Nat.le_trans (hall i m hm hpo) (E.more p)
      · exact hall k2 o ho hpo

/-- A fork of a member. -/
theorem GInv.forked {L : List Mem} {d : Nat} (g : GInv L d) {i : Nat} {m : Mem} {a b : Tr Bool} (hm : L[i]? = some m) (Pa : PT a m.ev) (Pb : PT b m.ev) (C : CutInto 8 m.id a b) :
    GInv (L.set i ⟨a, m.ev, m.past, m.peek⟩ ++ [⟨b, m.ev, m.past, false⟩]) d := by
  have hlen : (L.set i (⟨a, m.ev, m.past, m.peek⟩ : Mem)).length = L.length := by simp
  have na : a ≠ .leaf false := ne_none C.a0
  have nb : b ≠ .leaf false := ne_none C.b0
  have hpk : m.peek = false := by
    cases e : m.peek with
    | false => rfl
    | true =>
      have h1 := (g.pk i m hm).1 e
      have := C.sum
      have := C.a0
      rw [h1, share_false] at *
      omega
  have split : ∀ (k : Nat) (n : Mem), (L.set i (⟨a, m.ev, m.past, m.peek⟩ : Mem) ++ [⟨b, m.ev, m.past, false⟩])[k]? = some n → (k = i ∧ n = ⟨a, m.ev, m.past, m.peek⟩) ∨ (k ≠ i ∧ k ≠ L.length ∧ L[k]? = some n) ∨ (k = L.length ∧ k ≠ i ∧ n = ⟨b, m.ev, m.past, false⟩) := by
    intro k n h
    have hi := get_lt hm
    rcases Nat.lt_or_ge k L.length with hk | hk
    · rw [List.getElem?_append_left (by omega)] at h
      rcases set_get h with ⟨e, rfl⟩ | ⟨e, h9⟩
      · exact Or.inl ⟨e, rfl⟩
      · exact Or.inr (Or.inl ⟨e, by omega, h9⟩)
    · rw [List.getElem?_append_right (by omega), hlen] at h
      rcases Nat.eq_zero_or_pos (k - L.length) with h0 | h0
      · rw [h0] at h; simp at h; exact Or.inr (Or.inr ⟨by omega, by omega, h.symm⟩)
      · rw [List.getElem?_eq_none (by simp; omega)] at h; cases h
  have at_i : (L.set i (⟨a, m.ev, m.past, m.peek⟩ : Mem) ++ [⟨b, m.ev, m.past, false⟩])[i]? = some ⟨a, m.ev, m.past, m.peek⟩ := by
    rw [List.getElem?_append_left (by rw [hlen]; exact get_lt hm)]; exact set_at hm
  have at_n : (L.set i (⟨a, m.ev, m.past, m.peek⟩ : Mem) ++ [⟨b, m.ev, m.past, false⟩])[L.length]? = some ⟨b, m.ev, m.past, false⟩ := by
    rw [List.getElem?_append_right (by omega), hlen]; simp
  have old : ∀ (k : Nat) (n : Mem), L[k]? = some n → k ≠ i → (L.set i (⟨a, m.ev, m.past, m.peek⟩ : Mem) ++ [⟨b, m.ev, m.past, false⟩])[k]? = some n := by
    intro k n h hne
    rw [List.getElem?_append_left (by rw [hlen]; exact get_lt h)]; exact set_far h hne
  have va : ∀ p, a.val p = true → m.id.val p = true := by
    intro p hp; rcases C.val p with ⟨_, _, h⟩ | ⟨h, _, _⟩ | ⟨h, _, _⟩
    · exact h
    · rw [hp] at h; cases h
    · rw [hp] at h; cases h
  have vb : ∀ p, b.val p = true → m.id.val p = true := by
    intro p hp; rcases C.val p with ⟨_, h, _⟩ | ⟨_, _, h⟩ | ⟨_, h, _⟩
    · rw [hp] at h; cases h
    · exact h
    · rw [hp] at h; cases h
  have vab : ∀ p, a.val p = true → b.val p = false := by
    intro p hp; rcases C.val p with ⟨_, h, _⟩ | ⟨h, _, _⟩ | ⟨h, _, _⟩
    · exact h
    · rw [hp] at h; cases h
    · rw [hp] at h; cases h
  -- every new one has a source: the same numbers and events, and no more cells
  have src : ∀ (k : Nat) (n : Mem), (L.set i (⟨a, m.ev, m.past, m.peek⟩ : Mem) ++ [⟨b, m.ev, m.past, false⟩])[k]? = some n → ∃ (k' : Nat) (n' : Mem), L[k']? = some n' ∧ n'.ev = n.ev ∧ n'.past = n.past ∧ ∀ p, n.id.val p = true → n'.id.val p = true := by
    intro k n h
    rcases split k n h with ⟨_, rfl⟩ | ⟨_, _, h9⟩ | ⟨_, _, rfl⟩
    · exact ⟨i, m, hm, rfl, rfl, va⟩
    · exact ⟨k, n, h9, rfl, rfl, fun _ h => h⟩
    · exact ⟨i, m, hm, rfl, rfl, vb⟩
  refine ⟨?_, ?_, g.dn, ?_, ?_, ?_, ?_, ?_, ?_, ?_, ?_⟩
  · intro k n h; rcases split k n h with ⟨_, rfl⟩ | ⟨_, _, h9⟩ | ⟨_, _, rfl⟩
    · exact Pa
    · exact g.pt k n h9
    · exact Pb
  · intro k n h
    obtain ⟨k', n', h', e1, _, _⟩ := src k n h
    rw [← e1]; exact g.high k' n' h'
  · intro k n h; rcases split k n h with ⟨_, rfl⟩ | ⟨_, _, h9⟩ | ⟨_, _, rfl⟩
    · show m.peek = true ↔ a = _
      rw [hpk]; exact ⟨fun h => (Bool.false_ne_true h).elim, fun h => absurd h na⟩
    · exact g.pk k n h9
    · exact ⟨fun h => (Bool.false_ne_true h).elim, fun h => absurd h nb⟩
  · intro k j n o h1 h2 hne p hp
    rcases split k n h1 with ⟨e1, rfl⟩ | ⟨e1, f1, h1⟩ | ⟨e1, f1, rfl⟩
    · rcases split j o h2 with ⟨e2, rfl⟩ | ⟨e2, f2, h2⟩ | ⟨e2, f2, rfl⟩
      · omega
      · exact g.excl i j m o hm h2 (by omega) p (va p hp)
      · exact vab p hp
    · rcases split j o h2 with ⟨e2, rfl⟩ | ⟨e2, f2, h2⟩ | ⟨e2, f2, rfl⟩
      · have := g.excl k i n m h1 hm e1 p hp
        show a.val p = false
        cases hv : a.val p with
        | false => rfl
        | true => rw [va p hv] at this; cases this
      · exact g.excl k j n o h1 h2 hne p hp
      · have := g.excl k i n m h1 hm e1 p hp
        show b.val p = false
        cases hv : b.val p with
        | false => rfl
        | true => rw [vb p hv] at this; cases this
    · rcases split j o h2 with ⟨e2, rfl⟩ | ⟨e2, f2, h2⟩ | ⟨e2, f2, rfl⟩
      · show a.val p = false
        cases hv : a.val p with
        | false => rfl
        | true => have := vab p hv; rw [show b.val p = true from hp] at this; cases this
      · exact g.excl i j m o hm h2 (by omega) p (vb p hp)
      · omega
  · intro p
    obtain ⟨k, n, h, hp⟩ := g.total p
    by_cases e : k = i
    · subst e
      rw [hm] at h; injection h with h; subst h
      rcases C.val p with ⟨h1, _, _⟩ | ⟨_, h1, _⟩ | ⟨_, _, h1⟩
      · exact ⟨k, _, at_i, h1⟩
      · exact ⟨_, _, at_n, h1⟩
      · rw [hp] at h1; cases h1
    · exact ⟨k, n, old k n h e, hp⟩
  · rw [List.map_append, List.sum_append, List.map_set]
    have h1 := sum_set (L.map (fun m => shareP m.id 256)) i (shareP m.id 256) (shareP a 256) (by rw [List.getElem?_map, hm]; rfl)
    have h2 := g.sum
    have h3 : shareP a 256 + shareP b 256 = shareP m.id 256 := C.sum
    simp only [List.map_cons, List.map_nil, List.sum_cons, List.sum_nil]
    omega
  · intro k j n o h1 h2 p hp
    obtain ⟨k', n', h', e1, _, f1⟩ := src k n h1
    obtain ⟨j', o', g', e2, _, _⟩ := src j o h2
    rw [← e1, ← e2]
    exact g.top k' j' n' o' h' g' p (f1 p hp)
  · intro k n h j hj
    obtain ⟨k', n', h', _, e2, _⟩ := src k n h
    exact g.fresh k' n' h' j (by rw [e2]; exact hj)
  · intro j hj
    obtain ⟨p, c, hall, k, n, hn, hpn⟩ := g.mark j hj
    refine ⟨p, c, ?_, ?_⟩
    · intro k n h
      obtain ⟨k', n', h', e1, e2, _⟩ := src k n h
      rw [← e1, ← e2]; exact hall k' n' h'
    · by_cases e : k = i
      · subst e
        rw [hm] at hn; injection hn with hn; subst hn
        exact ⟨k, _, at_i, hpn⟩
      · exact ⟨k, n, old k n hn e, hpn⟩
  · intro k n h p hp
    obtain ⟨k', n', h', e1, e2, _⟩ := src k n h
    obtain ⟨j, hj, hall⟩ := g.why k' n' h' p (by rw [e1]; exact hp)
    refine ⟨j, by rw [← e2]; exact hj, fun k2 o ho hpo => ?_⟩
    obtain ⟨k3, o', ho', f1, f2, _⟩ := src k2 o ho
    rw [← e1, ← f1]
    exact hall k3 o' ho' (by rw [f2]; exact hpo)

theorem erase_get {α : Type} {L : List α} {k j : Nat} {n : α} (h : (L.eraseIdx k)[j]? = some n) : ∃ j' : Nat, L[j']? = some n ∧ j' ≠ k ∧ ((j < k ∧ j' = j) ∨ (k ≤ j ∧ j' = j + 1)) := by
  rw [List.getElem?_eraseIdx] at h
  split at h
  · rename_i hlt; exact ⟨j, h, by omega, Or.inl ⟨hlt, rfl⟩⟩
  · rename_i hge; exact ⟨j + 1, h, by omega, Or.inr ⟨by omega, rfl⟩⟩
theorem erase_at {α : Type} {L : List α} {k j : Nat} {n : α} (h : L[j]? = some n) (hne : j ≠ k) : ∃ j' : Nat, (L.eraseIdx k)[j']? = some n := by
  rcases Nat.lt_or_ge j k with hl | hg
  · exact ⟨j, by rw [List.getElem?_eraseIdx, if_pos hl]; exact h⟩
  · refine ⟨j - 1, ?_⟩
    rw [List.getElem?_eraseIdx, if_neg (by omega), show j - 1 + 1 = j by omega]; exact h
theorem sum_erase : ∀ (l : List Nat) (k x : Nat), l[k]? = some x → (l.eraseIdx k).sum + x = l.sum
  | [], k, x, h => by simp at h
  | a :: l, 0, x, h => by simp at h; subst h; simp; omega
  | a :: l, k + 1, x, h => by
    have := sum_erase l k x (by simpa using h)
    simp; omega

theorem map_erase {α β : Type} (f : α → β) : ∀ (l : List α) (k : Nat), (l.eraseIdx k).map f = (l.map f).eraseIdx k
  | [], k => by simp
  | a :: l, 0 => by simp
  | a :: l, k + 1 => by simp [map_erase f l k]

/-- What comes of two members. -/
def joined (m n : Mem) : Mem := ⟨orB m.id n.id, maxT m.ev n.ev, fun j => m.past j || n.past j, m.peek && n.peek⟩

theorem share_halves (t : Tr Bool) (h : Nat) : shareP t (2 ^ (h + 1)) = shareP (halfL t) (2 ^ h) + shareP (halfR t) (2 ^ h) := by
  cases t using Tr.cs with
  | leaf a =>
    cases a
    · rfl
    · show 2 ^ (h + 1) = 2 ^ h + 2 ^ h; rw [Nat.pow_succ]; omega
  | pair l r => exact share_pair l r h
theorem share_merge (l r : Tr Bool) (h : Nat) : shareP (merge l r) (2 ^ (h + 1)) = shareP l (2 ^ h) + shareP r (2 ^ h) := by
  unfold merge
  by_cases e : same l r = true
  · rw [if_pos e]
    obtain ⟨a, rfl, rfl⟩ := same_leaves e
    exact share_halves (.leaf a) h
  · rw [if_neg e]; exact share_pair l r h

theorem share_or (a b : Tr Bool) : ∀ h, deepT a ≤ h → deepT b ≤ h → clash a b = false → shareP (orB a b) (2 ^ h) = shareP a (2 ^ h) + shareP b (2 ^ h) := by
  induction a, b using side_ind with
  | leaves a b =>
    intro h _ _ hc
    have hc : (a && b) = false := hc
    show shareP (.leaf (a || b)) _ = _
    cases a <;> cases b
    · rfl
    · show _ = 0 + _; rw [Nat.zero_add]; rfl
    · rfl
    · cases hc
  | halves a b hl L R =>
    intro h h1 h2 hc
    obtain ⟨k, rfl⟩ := deep_two hl h1 h2
    have e : orB a b = merge (orB (halfL a) (halfL b)) (orB (halfR a) (halfR b)) := side_halves _ _ a b hl
    have c1 : clash (halfL a) (halfL b) = false := by
      rw [clash_no] at hc ⊢; intro p hp; rw [val_halfL] at hp ⊢; exact hc _ hp
    have c2 : clash (halfR a) (halfR b) = false := by
      rw [clash_no] at hc ⊢; intro p hp; rw [val_halfR] at hp ⊢; exact hc _ hp
    rw [e, share_merge, L k (deep_halfL a k h1) (deep_halfL b k h2) c1, R k (deep_halfR a k h1) (deep_halfR b k h2) c2, share_halves a, share_halves b]
    omega

/-- A join of two members. -/
theorem GInv.joined {L : List Mem} {d : Nat} (g : GInv L d) {i k : Nat} {m n : Mem} (hm : L[i]? = some m) (hn : L[k]? = some n) (hne : i ≠ k) : GInv ((L.set i (joined m n)).eraseIdx k) d := by
  have P1 := g.pt i m hm
  have P2 := g.pt k n hn
  have PJ : PT (Go.Proofs.YtoebmfhgaalcdaaDoor.joined m n).id (Go.Proofs.YtoebmfhgaalcdaaDoor.joined m n).ev := P1.join P2
  have fr := g.free hm hn hne
  -- where a new one comes from
  have split : ∀ (j : Nat) (x : Mem), ((L.set i (Go.Proofs.YtoebmfhgaalcdaaDoor.joined m n)).eraseIdx k)[j]? = some x → ∃ j', j' ≠ k ∧ ((j < k ∧ j' = j) ∨ (k ≤ j ∧ j' = j + 1)) ∧ ((j' = i ∧ x = Go.Proofs.YtoebmfhgaalcdaaDoor.joined m n) ∨ (j' ≠ i ∧ L[j']? = some x)) := by
    intro j x h
    obtain ⟨j', h', h1, h2⟩ := erase_get h
    exact ⟨j', h1, h2, set_get h'⟩
  have at_i : ∃ j' : Nat, ((L.set i (Go.Proofs.YtoebmfhgaalcdaaDoor.joined m n)).eraseIdx k)[j']? = some (Go.Proofs.YtoebmfhgaalcdaaDoor.joined m n) := erase_at (set_at hm) hne
  have old : ∀ (j : Nat) (x : Mem), L[j]? = some x → j ≠ i → j ≠ k → ∃ j' : Nat, ((L.set i (Go.Proofs.YtoebmfhgaalcdaaDoor.joined m n)).eraseIdx k)[j']? = some x := fun j x h h1 h2 => erase_at (set_far h h1) h2
  have vj : ∀ p, (Go.Proofs.YtoebmfhgaalcdaaDoor.joined m n).id.val p = true → m.id.val p = true ∨ n.id.val p = true := by
    intro p hp
    have hp : (orB m.id n.id).val p = true := hp
    rw [orB_val, Bool.or_eq_true] at hp; exact hp
  have ve : ∀ p, (Go.Proofs.YtoebmfhgaalcdaaDoor.joined m n).ev.val p = max (m.ev.val p) (n.ev.val p) := fun p => maxT_val _ _ p
  have pj : ∀ j, (Go.Proofs.YtoebmfhgaalcdaaDoor.joined m n).past j = true ↔ m.past j = true ∨ n.past j = true := fun j => by
    show (m.past j || n.past j) = true ↔ _
    rw [Bool.or_eq_true]
  refine ⟨?_, ?_, g.dn, ?_, ?_, ?_, ?_, ?_, ?_, ?_, ?_⟩
  · intro j x h
    obtain ⟨j', _, _, ⟨_, rfl⟩ | ⟨_, h'⟩⟩ := split j x h
    · exact PJ
    · exact g.pt j' x h'
  · intro j x h
    obtain ⟨j', _, _, ⟨_, rfl⟩ | ⟨_, h'⟩⟩ := split j x h
    · exact maxT_high _ _ _ (g.high i m hm) (g.high k n hn)
    · exact g.high j' x h'
  · intro j x h
    obtain ⟨j', _, _, ⟨_, rfl⟩ | ⟨_, h'⟩⟩ := split j x h
    · show (m.peek && n.peek) = true ↔ orB m.id n.id = .leaf false
      rw [Bool.and_eq_true, g.pk i m hm, g.pk k n hn]
      constructor
      · rintro ⟨h1, h2⟩; rw [h1, h2]; rfl
      · intro h
        have hv : ∀ p, (m.id.val p || n.id.val p) = false := fun p => by rw [← orB_val, h]; rfl
        refine ⟨leaf_of_val false P1.pi fun p => ?_, leaf_of_val false P2.pi fun p => ?_⟩
        · have := hv p; rw [Bool.or_eq_false_iff] at this; exact this.1
        · have := hv p; rw [Bool.or_eq_false_iff] at this; exact this.2
    · exact g.pk j' x h'
  · intro j1 j2 x y h1 h2 hne2 p hp
    obtain ⟨a, ha, ha2, ha3⟩ := split j1 x h1
    obtain ⟨b, hb, hb2, hb3⟩ := split j2 y h2
    have hab : a ≠ b := by omega
    rcases ha3 with ⟨ea, rfl⟩ | ⟨ea, h1'⟩
    · rcases hb3 with ⟨eb, rfl⟩ | ⟨eb, h2'⟩
      · omega
      · rcases vj p hp with hv | hv
        · exact g.excl i b m y hm h2' (by omega) p hv
        · exact g.excl k b n y hn h2' (by omega) p hv
    · rcases hb3 with ⟨eb, rfl⟩ | ⟨eb, h2'⟩
      · have e1 := g.excl a i x m h1' hm ea p hp
        have e2 := g.excl a k x n h1' hn ha p hp
        show (orB m.id n.id).val p = false
        rw [orB_val, e1, e2]; rfl
      · exact g.excl a b x y h1' h2' hab p hp
  · intro p
    obtain ⟨j, x, h, hp⟩ := g.total p
    by_cases e1 : j = i
    · subst e1
      rw [hm] at h; injection h with h; subst h
      obtain ⟨j', hj'⟩ := at_i
      exact ⟨j', _, hj', by show (orB m.id n.id).val p = true; rw [orB_val, hp]; rfl⟩
    · by_cases e2 : j = k
      · subst e2
        rw [hn] at h; injection h with h; subst h
        obtain ⟨j', hj'⟩ := at_i
        exact ⟨j', _, hj', by show (orB m.id n.id).val p = true; rw [orB_val, hp, Bool.or_true]⟩
      · obtain ⟨j', hj'⟩ := old j x h e1 e2
        exact ⟨j', x, hj', hp⟩
  · have es : shareP (orB m.id n.id) 256 = shareP m.id 256 + shareP n.id 256 := share_or m.id n.id 8 P1.di P2.di fr
    have h1 := sum_set (L.map (fun m => shareP m.id 256)) i (shareP m.id 256) (shareP (orB m.id n.id) 256) (by rw [List.getElem?_map, hm]; rfl)
    have h2 := sum_erase ((L.map (fun m => shareP m.id 256)).set i (shareP (orB m.id n.id) 256)) k (shareP n.id 256) (by rw [List.getElem?_set, if_neg hne, List.getElem?_map, hn]; rfl)
    have h3 := g.sum
    have e : ((L.set i (Go.Proofs.YtoebmfhgaalcdaaDoor.joined m n)).eraseIdx k).map (fun m => shareP m.id 256) = ((L.map (fun m => shareP m.id 256)).set i (shareP (orB m.id n.id) 256)).eraseIdx k := by
      rw [map_erase, List.map_set]; rfl
    rw [e]; omega
  · intro j1 j2 x y h1 h2 p hp
    obtain ⟨a, ha, ha2, ha3⟩ := split j1 x h1
    obtain ⟨b, hb, hb2, hb3⟩ := split j2 y h2
    have toY : ∀ (c : Nat) (z : Mem), L[c]? = some z → z.id.val p = true → y.ev.val p ≤ z.ev.val p := by
      intro c z hz hv
      rcases hb3 with ⟨eb, rfl⟩ | ⟨eb, h2'⟩
      · rw [ve]
        have := g.top c i z m hz hm p hv
        have := g.top c k z n hz hn p hv
        omega
      · exact g.top c b z y hz h2' p hv
    rcases ha3 with ⟨ea, rfl⟩ | ⟨ea, h1'⟩
    · rw [ve]
      rcases vj p hp with hv | hv
      · have := toY i m hm hv; omega
      · have := toY k n hn hv; omega
    · exact toY a x h1' hp
  · intro j x h q hq
    obtain ⟨j', _, _, ⟨_, rfl⟩ | ⟨_, h'⟩⟩ := split j x h
    · rcases (pj q).1 hq with h1 | h1
      · exact g.fresh i m hm q h1
      · exact g.fresh k n hn q h1
    · exact g.fresh j' x h' q hq
  · intro q hq
    obtain ⟨p, c, hall, j, x, hx, hpx⟩ := g.mark q hq
    refine ⟨p, c, ?_, ?_⟩
    · intro j x h
      obtain ⟨j', _, _, ⟨_, rfl⟩ | ⟨_, h'⟩⟩ := split j x h
      · rw [pj, hall i m hm, hall k n hn, ve]; omega
      · exact hall j' x h'
    · by_cases e1 : j = i
      · subst e1
        rw [hm] at hx; injection hx with hx; subst hx
        obtain ⟨j', hj'⟩ := at_i
        exact ⟨j', _, hj', (pj q).2 (Or.inl hpx)⟩
      · by_cases e2 : j = k
        · subst e2
          rw [hn] at hx; injection hx with hx; subst hx
          obtain ⟨j', hj'⟩ := at_i
          exact ⟨j', _, hj', (pj q).2 (Or.inr hpx)⟩
        · obtain ⟨j', hj'⟩ := old j x hx e1 e2
          exact ⟨j', x, hj', hpx⟩
  · intro j x h p hp
    have key : ∀ (c : Nat) (z : Mem), L[c]? = some z → 0 < z.ev.val p → ∃ q, z.past q = true ∧ ∀ (k2 : Nat) (o : Mem), ((L.set i (Go.Proofs.YtoebmfhgaalcdaaDoor.joined m n)).eraseIdx k)[k2]? = some o → o.past q = true → z.ev.val p ≤ o.ev.val p := by
      intro c z hz hpz
      obtain ⟨q, hq, hall⟩ := g.why c z hz p hpz
      refine ⟨q, hq, fun k2 o ho hpo => ?_⟩
      obtain ⟨j', _, _, ⟨_, rfl⟩ | ⟨_, h'⟩⟩ := split k2 o ho
      · rw [ve]
        rcases (pj q).1 hpo with h1 | h1
        · have := hall i m hm h1; omega
        · have := hall k n hn h1; omega
      · exact hall j' o h' hpo
    obtain ⟨j', _, _, ⟨_, rfl⟩ | ⟨_, h'⟩⟩ := split j x h
    · rw [ve] at hp ⊢
      by_cases hc : n.ev.val p ≤ m.ev.val p
      · obtain ⟨q, hq, hall⟩ := key i m hm (by omega)
        exact ⟨q, (pj q).2 (Or.inl hq), fun k2 o ho hpo => by have := hall k2 o ho hpo; omega⟩
      · obtain ⟨q, hq, hall⟩ := key k n hn (by omega)
        exact ⟨q, (pj q).2 (Or.inr hq), fun k2 o ho hpo => by have := hall k2 o ho hpo; omega⟩
    · exact key j' x h' hp

end Go.Proofs.YtoebmfhgaalcdaaDoor

namespace Go.Proofs.YtoebmfhgaalcdaaDoor
open Go.RowKit

def mcells (m : Mem) : List Value := Value.string (tx m.id m.ev) :: ((List.range 60).map (fun j => Value.bool (m.past j)) ++ [Value.bool m.peek])
theorem mcells_len (m : Mem) : (mcells m).length = 62 := by simp [mcells]
theorem mcells_one (m : Mem) : ∀ v ∈ mcells m, v.oneCell' = true := by
  intro v hv
  unfold mcells at hv
  rw [List.mem_cons, List.mem_append, List.mem_map, List.mem_singleton] at hv
  rcases hv with rfl | ⟨j, _, rfl⟩ | rfl <;> rfl
def flatM : List Mem → List Value
  | [] => []
  | m :: L => mcells m ++ flatM L
theorem flatM_len : ∀ L, (flatM L).length = L.length * 62
  | [] => rfl
  | m :: L => by simp only [flatM, List.length_append, mcells_len, flatM_len L, List.length_cons]; omega
theorem flatM_one : ∀ L, ∀ v ∈ flatM L, v.oneCell' = true
  | [], v, h => by cases h
  | m :: L, v, h => by
    simp only [flatM, List.mem_append] at h
    rcases h with h | h
    · exact mcells_one m v h
    · exact flatM_one L v h
theorem flatM_append : ∀ L K, flatM (L ++ K) = flatM L ++ flatM K
  | [], K => rfl
  | m :: L, K => by simp only [List.cons_append, flatM, flatM_append L K, List.append_assoc]
theorem flatM_get : ∀ (L : List Mem) (i : Nat) (m : Mem), L[i]? = some m → ∀ j, j < 62 → (flatM L)[i * 62 + j]? = (mcells m)[j]?
  | [], i, m, h, j, hj => by simp at h
  | a :: L, 0, m, h, j, hj => by
    simp at h; subst h
    rw [flatM, List.getElem?_append_left (by rw [mcells_len]; omega)]; simp
  | a :: L, i + 1, m, h, j, hj => by
    rw [flatM, List.getElem?_append_right (by rw [mcells_len]; omega), mcells_len, show (i + 1) * 62 + j - 62 = i * 62 + j by omega]
    exact flatM_get L i m (by simpa using h) j hj
theorem flatM_set : ∀ (L : List Mem) (i : Nat) (m m' : Mem) (j : Nat) (v : Value), L[i]? = some m → j < 62 → mcells m' = (mcells m).set j v → flatM (L.set i m') = (flatM L).set (i * 62 + j) v
  | [], i, m, m', j, v, h, _, _ => by simp at h
  | a :: L, 0, m, m', j, v, h, hj, e => by
    simp at h; subst h
    simp only [List.set_cons_zero, flatM, e]
    rw [List.set_append_left _ _ (by rw [mcells_len]; omega)]
    simp
  | a :: L, i + 1, m, m', j, v, h, hj, e => by
    have := flatM_set L i m m' j v (by simpa using h) hj e
    simp only [List.set_cons_succ, flatM, this]
    rw [List.set_append_right _ _ (by rw [mcells_len]; omega), mcells_len, show (i + 1) * 62 + j - 62 = i * 62 + j by omega]
theorem flatM_split (L : List Mem) (i : Nat) (m m' : Mem) (h : L[i]? = some m) : flatM (L.set i m') = (flatM L).take (i * 62) ++ mcells m' ++ (flatM L).drop (i * 62 + 62) ∧ flatM (L.take i) = (flatM L).take (i * 62) ∧ flatM (L.drop (i + 1)) = (flatM L).drop (i * 62 + 62) := by
  induction L generalizing i with
  | nil => simp at h
  | cons a L ih =>
    cases i with
    | zero =>
      simp at h; subst h
      refine ⟨?_, by simp [flatM], ?_⟩
      · simp only [List.set_cons_zero, flatM]
        rw [Nat.zero_mul, List.take_zero, List.nil_append, Nat.zero_add, List.drop_append, mcells_len]
        simp [List.drop_eq_nil_of_le, mcells_len]
      · simp only [flatM, Nat.zero_mul, Nat.zero_add, List.drop_succ_cons, List.drop_zero]
        rw [List.drop_append, mcells_len]
        simp [List.drop_eq_nil_of_le, mcells_len]
    | succ i =>
      obtain ⟨h1, h2, h3⟩ := ih i (by simpa using h)
      have e1 : (i + 1) * 62 = (mcells a).length + i * 62 := by rw [mcells_len]; omega
      have e2 : (i + 1) * 62 + 62 = (mcells a).length + (i * 62 + 62) := by rw [mcells_len]; omega
      refine ⟨?_, ?_, ?_⟩
      · simp only [List.set_cons_succ, flatM]
        rw [h1, e2, e1, List.take_length_add_append, List.drop_length_add_append]
        simp only [List.append_assoc]
      · simp only [List.take_succ_cons, flatM]
        rw [h2, e1, List.take_length_add_append]
      · simp only [List.drop_succ_cons, flatM]
        rw [h3, e2, List.drop_length_add_append]

/-- A group in memory. -/
structure Gr (B gb : Nat) (w : World) (sv : Value) (L : List Mem) (d : Nat) : Prop where
  box : w.heap[gb]? = some (.cells #[sv, .int .i64 (d : Int)] 28)
  base : B ≤ gb
  row : w.ownsRow B 34 62 sv L.length (flatM L)

theorem Gr.keep {B gb : Nat} {w w' : World} {sv : Value} {L : List Mem} {d : Nat} (h : Gr B gb w sv L d) (hb : Below w.heap.size w w') : Gr B gb w' sv L d := by
  refine ⟨(hb.block gb (lt_of_heap h.box)).trans h.box, h.base, ?_⟩
  obtain ⟨h1, h2⟩ := h.row
  refine ⟨h1, ?_⟩
  rcases h2 with h2 | ⟨g, cap, cur, e1, e2, e3, e4, e5, e6, e7⟩
  · exact Or.inl h2
  · exact Or.inr ⟨g, cap, cur, e1, e2, (hb.block g (lt_of_heap e3)).trans e3, e4, e5, e6, e7⟩

theorem Gr.cells {B gb : Nat} {w : World} {sv : Value} {L : List Mem} {d : Nat} (h : Gr B gb w sv L d) : w.cell? ⟨gb, 0, none⟩ = some sv ∧ w.cell? ⟨gb, 1, none⟩ = some (.int .i64 (d : Int)) ∧ (∀ o, w.frozen? ⟨gb, o, none⟩ = false) :=
  ⟨(cells2 h.box).1, (cells2 h.box).2.1, (cells2 h.box).2.2⟩

/-- Its row, opened. -/
theorem Gr.form {B gb : Nat} {w : World} {sv : Value} {L : List Mem} {d : Nat} (h : Gr B gb w sv L d) (hp : 0 < L.length) : ∃ g cap, sv = .slice (some ⟨g, 0, none⟩) L.length cap ∧ B ≤ g ∧ g < w.heap.size ∧ g ≠ gb ∧ L.length ≤ cap ∧ cap ≤ maxLen ∧
    (∀ j v, (flatM L)[j]? = some v → w.cell? ⟨g, j, none⟩ = some v) ∧ (∀ o, w.frozen? ⟨g, o, none⟩ = false) ∧ (∀ i m, L[i]? = some m → w.rangeAt g (i * 62) (mcells m)) := by
  obtain ⟨h1, h2⟩ := h.row
  rcases h2 with ⟨_, h3⟩ | ⟨g, cap, cur, e1, e2, e3, e4, e5, e6, e7⟩
  · omega
  · have hc : ∀ j v, (flatM L)[j]? = some v → w.cell? ⟨g, j, none⟩ = some v := by
      intro j v hj
      have hlt := get_lt hj
      rw [flatM_len] at hlt
      have : cur[j]? = some v := by
        rw [← e7, List.getElem?_take_of_lt hlt] at hj
        simpa using hj
      simp only [World.cell?, e3]
      simpa using this
    refine ⟨g, cap, e1, e2, lt_of_heap e3, ?_, e4, e5, hc, ?_, ?_⟩
    · rintro rfl
      have hb := h.box
      rw [e3] at hb
      injection hb with hb
      injection hb with _ h9
      exact absurd h9 (by decide)
    · intro o; simp [World.frozen?, e3]
    · intro i m hm j v hj
      have hjl := get_lt hj
      rw [mcells_len] at hjl
      exact hc _ _ (by rw [flatM_get L i m hm j hjl]; exact hj)

theorem Tryd.member62 : (Tryd.prog.info? 34).map (·.size) = some 62 := by kernel_rfl
theorem Tryd.infoM : (Tryd.prog.info? 34).map (fun i => (i.size, i.bytes)) = some (62, 80) := by kernel_rfl

theorem below_setCells {B b : Nat} (hB : B ≤ b) : ∀ (vs : List Value) (o : Nat) (w : World), Below B w (w.setCells b o vs)
  | [], _, _ => Below.refl _ _
  | v :: vs, o, w => (below_set1 w hB v o).trans (below_setCells hB vs (o + 1) _)
theorem there_new (w : World) (cs : Array Value) (ty n : Nat) (h : cs.size = n) : (w.alloc (.cells cs ty)).there w.heap.size 0 n := by
  intro j hj
  have hb : (w.alloc (.cells cs ty)).heap[w.heap.size]? = some (.cells cs ty) := heap_new w _
  refine ⟨?_, ?_⟩
  · have hj2 : j < cs.size := by omega
    unfold World.cell?
    simp only [hb, Nat.zero_add, hj2, Array.getElem?_eq_getElem]
    rfl
  · unfold World.frozen?
    simp only [hb, Nat.zero_add]
    simp

theorem mcells_at (m : Mem) : (mcells m)[0]? = some (Value.string (tx m.id m.ev)) ∧ (mcells m)[61]? = some (Value.bool m.peek) ∧ ∀ j, j < 60 → (mcells m)[1 + j]? = some (Value.bool (m.past j)) := by
  refine ⟨rfl, ?_, ?_⟩
  · unfold mcells
    rw [List.getElem?_cons_succ, List.getElem?_append_right (by simp)]
    simp
  · intro j hj
    unfold mcells
    rw [Nat.add_comm 1 j, List.getElem?_cons_succ, List.getElem?_append_left (by simpa using hj)]
    simp [hj]

/-- Whatever a walk of play starts with: the member that is meant, in a box of its own. -/
structure Took (B gb M : Nat) (w0 w : World) (sv : Value) (L : List Mem) (d : Nat) (m : Mem) : Prop where
  gr : Gr B gb w sv L d
  rng : w.rangeAt M 0 (mcells m)
  thr : w.there M 0 62
  gl : gb < M
  bel : Below M w0 w

theorem Took.cells {B gb M : Nat} {w0 w : World} {sv : Value} {L : List Mem} {d : Nat} {m : Mem} (h : Took B gb M w0 w sv L d m) : w.cell? ⟨M, 0, none⟩ = some (.string (tx m.id m.ev)) ∧ w.cell? ⟨M, 61, none⟩ = some (.bool m.peek) := by
  obtain ⟨a, b, c⟩ := mcells_at m
  have h0 := h.rng 0 _ a
  have h1 := h.rng 61 _ b
  simp only [Nat.zero_add] at h0 h1
  exact ⟨h0, h1⟩

theorem Took.enter {B gb : Nat} {w : World} {sv : Value} {L : List Mem} {d : Nat} {m : Mem} (G : Gr B gb w sv L d) (z : Array Value) (hz : z.size = 62) : Took B gb w.heap.size w ((w.alloc (.cells z 34)).setCells w.heap.size 0 (mcells m)) sv L d m := by
  have b1 := below_alloc w (.cells z 34)
  have b2 : Below w.heap.size (w.alloc (.cells z 34)) ((w.alloc (.cells z 34)).setCells w.heap.size 0 (mcells m)) := below_setCells (Nat.le_refl _) _ _ _
  have t := there_new w z 34 62 hz
  exact ⟨G.keep (b1.trans b2), World.rangeAt_setCells_same _ _ _ _ (by rw [mcells_len]; exact t), World.there_setCells t _ _ _, lt_of_heap G.box, b1.trans b2⟩
theorem Took.keep {B gb M : Nat} {w0 w w' : World} {sv : Value} {L : List Mem} {d : Nat} {m : Mem} (h : Took B gb M w0 w sv L d m) (hM : M ≤ w.heap.size) (hb : Below w.heap.size w w') : Took B gb M w0 w' sv L d m := by
  refine ⟨h.gr.keep hb, fun j v hj => ?_, fun j hj => ?_, h.gl, h.bel.trans (hb.mono hM)⟩
  · have := h.rng j v hj
    rw [Nat.zero_add] at this ⊢
    exact cell_keep hb this
  · obtain ⟨h1, h2⟩ := h.thr j hj
    rw [Nat.zero_add] at h1 h2 ⊢
    obtain ⟨v, hv⟩ := Option.isSome_iff_exists.1 h1
    refine ⟨by rw [cell_keep hb hv]; rfl, ?_⟩
    rw [← h2]
    exact hb.frozen (p := ⟨M, j, none⟩) (World.block_lt_of_cell? _ _ hv)

/-- What play leaves. -/
def Played (B gb : Nat) (w : World) (e : Ending) (w' : World) : Prop := e = .returned (.bool true) ∧ Below B w w' ∧ ∃ sv' L' d', Gr B gb w' sv' L' d' ∧ GInv L' d' ∧ 0 < L'.length ∧ L'.length ≤ 31

end Go.Proofs.YtoebmfhgaalcdaaDoor

namespace Go.Proofs.YtoebmfhgaalcdaaDoor
open Go.RowKit

/-- A member with nothing in it. -/
def zeroM : Array Value := #[.string { data := #[] }, .bool false, .bool false, .bool false, .bool false, .bool false, .bool false, .bool false, .bool false, .bool false, .bool false, .bool false, .bool false, .bool false, .bool false, .bool false, .bool false, .bool false, .bool false, .bool false, .bool false, .bool false, .bool false, .bool false, .bool false, .bool false, .bool false, .bool false, .bool false, .bool false, .bool false, .bool false, .bool false, .bool false, .bool false, .bool false, .bool false, .bool false, .bool false, .bool false, .bool false, .bool false, .bool false, .bool false, .bool false, .bool false, .bool false, .bool false, .bool false, .bool false, .bool false, .bool false, .bool false, .bool false, .bool false, .bool false, .bool false, .bool false, .bool false, .bool false, .bool false, .bool false]

theorem store_member (m : Mem) (N : Nat) (W : World) (t : W.there N 0 62) : Sem.run Tryd.prog (storeCells ⟨N, 0, none⟩ (mcells m)) W = .ok () (W.setCells N 0 (mcells m)) := by
  have h := run_storeCells_cells (P := Tryd.prog) N 0 (mcells m) 0 W (fun j hj => by have := (t j (by rw [mcells_len] at hj; exact hj)).1; rw [Nat.add_zero]; exact this) (fun j hj => by have := (t j (by rw [mcells_len] at hj; exact hj)).2; rw [Nat.add_zero]; exact this) (mcells_one m)
  exact h

theorem store_member_new (m : Mem) (w : World) : Sem.run Tryd.prog (storeCells ⟨w.heap.size, 0, none⟩ (mcells m)) (w.alloc (.cells #[.string { data := #[] }, .bool false, .bool false, .bool false, .bool false, .bool false, .bool false, .bool false, .bool false, .bool false, .bool false, .bool false, .bool false, .bool false, .bool false, .bool false, .bool false, .bool false, .bool false, .bool false, .bool false, .bool false, .bool false, .bool false, .bool false, .bool false, .bool false, .bool false, .bool false, .bool false, .bool false, .bool false, .bool false, .bool false, .bool false, .bool false, .bool false, .bool false, .bool false, .bool false, .bool false, .bool false, .bool false, .bool false, .bool false, .bool false, .bool false, .bool false, .bool false, .bool false, .bool false, .bool false, .bool false, .bool false, .bool false, .bool false, .bool false, .bool false, .bool false, .bool false, .bool false, .bool false] 34)) = .ok () ((w.alloc (.cells zeroM 34)).setCells w.heap.size 0 (mcells m)) :=
  store_member m w.heap.size (w.alloc (.cells zeroM 34)) (there_new w zeroM 34 62 rfl)

/-- The 60 cells of what was ahead. -/
def pastCells (f : Nat → Bool) : List Value := (List.range 60).map (fun j => Value.bool (f j))
/-- A member's cells, told by what it is made of. -/
def memCells (S : ByteArray) (f : Nat → Bool) (pk : Bool) : List Value := Value.string S :: (pastCells f ++ [Value.bool pk])
theorem memCells_eq (m : Mem) : mcells m = memCells (tx m.id m.ev) m.past m.peek := rfl
theorem build_member (S : ByteArray) (f : Nat → Bool) (pk : Bool) (w : World) : Sem.run Tryd.prog (Instr.build 34 #[(0, Value.string S), (1, Value.agg (pastCells f).toArray), (2, Value.bool pk)]) w = .ok (Value.agg (memCells S f pk).toArray) w := by kernel_rfl
theorem build_member2 (S : ByteArray) (f : Nat → Bool) (w : World) : Sem.run Tryd.prog (Instr.build 34 #[(0, Value.string S), (1, Value.agg (pastCells f).toArray)]) w = .ok (Value.agg (memCells S f false).toArray) w := by kernel_rfl
theorem Tryd.infoMember : (Tryd.prog.info? 34).map (fun i => (i.zero, i.size, i.bytes)) = some (some (.agg zeroM), 62, 80) := by kernel_rfl
theorem Tryd.infoPast : (Tryd.prog.info? 32).map (·.size) = some 60 := by kernel_rfl

end Go.Proofs.YtoebmfhgaalcdaaDoor
