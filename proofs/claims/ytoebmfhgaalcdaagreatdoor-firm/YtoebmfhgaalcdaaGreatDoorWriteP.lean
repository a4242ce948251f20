/-
  Our own. Writing plain trees, as plain functions; what was written is read as it was. Cutting and counting pieces.
-/
import Derived.Test.YtoebmfhgaalcdaaGreatDoorEventP
import Derived.Test.YtoebmfhgaalcdaaGreatDoorKeepJoin
namespace Go.Proofs.YtoebmfhgaalcdaaGreatDoor

/-- An EV above a base. -/
def toEv : Tr Nat → Nat → Ev
  | ⟨.inl a⟩, base => .num (a - base)
  | ⟨.inr (l, r)⟩, base => .br (min (lowest l) (lowest r) - base) (toEv l (min (lowest l) (lowest r))) (toEv r (min (lowest l) (lowest r)))

theorem front_toEv (t : Tr Nat) (base : Nat) : front (toEv t base) = lowest t - base := by
  cases t using Tr.cs with
  | leaf a => rfl
  | pair l r => rfl
theorem toEv_deep (t : Tr Nat) : ∀ base, (toEv t base).deep = deepT t := by
  induction t using Tr.ind with
  | leaf a => intro base; rfl
  | pair l r ihl ihr => intro base; show max (toEv l _).deep (toEv r _).deep + 1 = max (deepT l) (deepT r) + 1; rw [ihl, ihr]
theorem evTree_toEv (t : Tr Nat) : ∀ base, base ≤ lowest t → evTree base (toEv t base) = t := by
  induction t using Tr.ind with
  | leaf a => intro base h; show Tr.leaf (base + (a - base)) = _; have : base ≤ a := h; rw [show base + (a - base) = a by omega]
  | pair l r ihl ihr =>
    intro base h
    have h : base ≤ min (lowest l) (lowest r) := h
    show Tr.pair (evTree (base + (min (lowest l) (lowest r) - base)) (toEv l _)) (evTree (base + (min (lowest l) (lowest r) - base)) (toEv r _)) = _
    rw [show base + (min (lowest l) (lowest r) - base) = min (lowest l) (lowest r) by omega, ihl _ (Nat.min_le_left _ _), ihr _ (Nat.min_le_right _ _)]
theorem isZero_toEv (t : Tr Nat) (base : Nat) (hb : base ≤ lowest t) (h : isZero (toEv t base) = true) : t = .leaf base := by
  cases t using Tr.cs with
  | leaf a =>
    rw [isZero_iff] at h
    have : a - base = 0 := (digs_zero _).1 h
    have hb : base ≤ a := hb
    rw [show a = base by omega]
  | pair l r =>
    rw [isZero_iff] at h
    simp [toEv, evText] at h
theorem plain_toEv (t : Tr Nat) : ∀ base, plainT t → base ≤ lowest t → highest t ≤ 1099511627776 → plainE (toEv t base) := by
  induction t using Tr.ind with
  | leaf a => intro base _ _ h; have h : a ≤ 1099511627776 := h; show a - base ≤ _; omega
  | pair l r ihl ihr =>
    intro base hp hb hh
    have hh : max (highest l) (highest r) ≤ 1099511627776 := hh
    have hl := low_high l
    refine ⟨by omega, ?_, ?_, ihl _ hp.2.1 (Nat.min_le_left _ _) (by omega), ihr _ hp.2.2 (Nat.min_le_right _ _) (by omega)⟩
    · rw [front_toEv, front_toEv]; omega
    · by_cases hz : (isZero (toEv l (min (lowest l) (lowest r))) && isZero (toEv r (min (lowest l) (lowest r)))) = true
      · exfalso
        rw [Bool.and_eq_true] at hz
        have e1 := isZero_toEv l _ (Nat.min_le_left _ _) hz.1
        have e2 := isZero_toEv r _ (Nat.min_le_right _ _) hz.2
        have hs := hp.1
        generalize min (lowest l) (lowest r) = m at e1 e2
        rw [e1, e2, same_leaf] at hs
        cases hs
      · simpa using hz

theorem evText_len (t : Tr Nat) : ∀ (h base : Nat), deepT t ≤ h → highest t ≤ 1099511627776 → (evText (toEv t base)).length + 17 ≤ 30 * 2 ^ h := by
  have D : ∀ n, n ≤ 1099511627776 → (digs n).length ≤ 13 := fun n hn => digs_len 12 n (by omega)
  induction t using Tr.ind with
  | leaf a =>
    intro h base _ hh
    have hh : a ≤ 1099511627776 := hh
    have := D (a - base) (by omega)
    have : 1 ≤ 2 ^ h := Nat.one_le_two_pow
    show (digs (a - base)).length + 17 ≤ _
    omega
  | pair l r ihl ihr =>
    intro h base hd hh
    have hh : max (highest l) (highest r) ≤ 1099511627776 := hh
    have hd : max (deepT l) (deepT r) + 1 ≤ h := hd
    have hl := low_high l
    cases h with
    | zero => omega
    | succ h =>
      have e : 2 ^ (h + 1) = 2 * 2 ^ h := by rw [Nat.pow_succ]; omega
      have a1 := ihl h (min (lowest l) (lowest r)) (by omega) (by omega)
      have a2 := ihr h (min (lowest l) (lowest r)) (by omega) (by omega)
      have a3 := D (min (lowest l) (lowest r) - base) (by omega)
      rw [e]
      simp only [toEv, evText, List.length_append, List.length_cons, List.length_nil]
      omega
theorem idText_len (t : Tr Bool) : ∀ (h : Nat), deepT t ≤ h → (idText t).length + 3 ≤ 4 * 2 ^ h := by
  induction t using Tr.ind with
  | leaf a =>
    intro h _
    have : 1 ≤ 2 ^ h := Nat.one_le_two_pow
    have e : (idText (.leaf a)).length = 1 := by cases a <;> rfl
    omega
  | pair l r ihl ihr =>
    intro h hd
    have hd : max (deepT l) (deepT r) + 1 ≤ h := hd
    cases h with
    | zero => omega
    | succ h =>
      have e : 2 ^ (h + 1) = 2 * 2 ^ h := by rw [Nat.pow_succ]; omega
      have a1 := ihl h (by omega)
      have a2 := ihr h (by omega)
      rw [e]
      simp only [idText, List.length_append, List.length_cons, List.length_nil]
      omega

theorem deep_same (t : Tr Bool) : t.deep = deepT t := by
  induction t using Tr.ind with
  | leaf a => rfl
  | pair l r ihl ihr => show max l.deep r.deep + 1 = max (deepT l) (deepT r) + 1; rw [ihl, ihr]
theorem sameB_same (a b : Tr Bool) : sameB a b = same a b := by
  cases a using Tr.cs with
  | leaf x =>
    cases b using Tr.cs with
    | leaf y => rfl
    | pair _ _ => rfl
  | pair _ _ => rfl
theorem sameI_same (a b : Tr Nat) : sameI a b = same a b := by
  cases a using Tr.cs with
  | leaf x =>
    cases b using Tr.cs with
    | leaf y => rfl
    | pair _ _ => rfl
  | pair _ _ => rfl
theorem plainB_same (t : Tr Bool) : plainB t ↔ plainT t := by
  induction t using Tr.ind with
  | leaf a => exact Iff.rfl
  | pair l r ihl ihr => show sameB l r = false ∧ plainB l ∧ plainB r ↔ same l r = false ∧ plainT l ∧ plainT r; rw [sameB_same, ihl, ihr]

/-- A plain stamp, as trees. -/
structure PT (id : Tr Bool) (ev : Tr Nat) : Prop where
  pi : plainT id
  di : deepT id ≤ 8
  pe : plainT ev
  de : deepT ev ≤ 8
  hi : highest ev ≤ 1099511627776

def wtext (id : Tr Bool) (ev : Tr Nat) : List UInt8 := whole id (toEv ev 0)

theorem PT.good {id : Tr Bool} {ev : Tr Nat} (h : PT id ev) : Good id (toEv ev 0) :=
  ⟨by rw [deep_same]; exact h.di, (plainB_same id).2 h.pi, by rw [toEv_deep]; exact h.de, plain_toEv ev 0 h.pe (Nat.zero_le _) h.hi, by rw [evTree_toEv ev 0 (Nat.zero_le _)]; exact h.hi⟩
theorem PT.len {id : Tr Bool} {ev : Tr Nat} (h : PT id ev) : (wtext id ev).length ≤ 8685 := by
  have a1 := idText_len id 8 h.di
  have a2 := evText_len ev 8 0 h.de h.hi
  rw [wtext, whole_len]
  omega
/-- What was written is read as it was. -/
theorem PT.read {id : Tr Bool} {ev : Tr Nat} (h : PT id ev) : readR (strOf (wtext id ev)) = .ok id ev := by
  have hl := h.len
  have H := has_prefix (wtext id ev) []
  rw [List.append_nil] at H
  have R := (readR_text (t := id) (e := toEv ev 0) (by rw [strOf_size]; omega) h.good H).1 (by rw [strOf_size, wtext, whole_len])
  rw [R, evTree_toEv ev 0 (Nat.zero_le _)]

/-- What is made of raw numbers is a plain stamp too. -/
theorem deepE : ∀ (e : Ev) (base : Nat), deepT (evTree base e) = e.deep
  | ⟨n, none⟩, base => rfl
  | ⟨n, some (l, r)⟩, base => by
    show max (deepT (evTree (base + n) l)) (deepT (evTree (base + n) r)) + 1 = max l.deep r.deep + 1
    rw [deepE l, deepE r]
theorem lowE : ∀ (e : Ev) (base : Nat), plainE e → lowest (evTree base e) = base + front e
  | ⟨n, none⟩, base, _ => rfl
  | ⟨n, some (l, r)⟩, base, h => by
    show min (lowest (evTree (base + n) l)) (lowest (evTree (base + n) r)) = base + n
    rw [lowE l _ h.2.2.2.1, lowE r _ h.2.2.2.2]
    have := h.2.1
    omega
theorem toEv_evTree : ∀ (e : Ev) (base : Nat), plainE e → toEv (evTree base e) base = e
  | ⟨n, none⟩, base, _ => by show Ev.num (base + n - base) = _; rw [show base + n - base = n by omega]
  | ⟨n, some (l, r)⟩, base, h => by
    have e1 := lowE l (base + n) h.2.2.2.1
    have e2 := lowE r (base + n) h.2.2.2.2
    have hm : min (lowest (evTree (base + n) l)) (lowest (evTree (base + n) r)) = base + n := by have := h.2.1; omega
    show Ev.br (min (lowest (evTree (base + n) l)) (lowest (evTree (base + n) r)) - base) (toEv (evTree (base + n) l) (min (lowest (evTree (base + n) l)) (lowest (evTree (base + n) r)))) (toEv (evTree (base + n) r) (min (lowest (evTree (base + n) l)) (lowest (evTree (base + n) r)))) = _
    rw [hm, toEv_evTree l _ h.2.2.2.1, toEv_evTree r _ h.2.2.2.2, show base + n - base = n by omega]
theorem plain_evTree : ∀ (e : Ev) (base : Nat), plainE e → plainT (evTree base e)
  | ⟨n, none⟩, base, _ => trivial
  | ⟨n, some (l, r)⟩, base, h => by
    have R := rough_no (base + n) l r h.2.1 h.2.2.1
    rw [Bool.or_eq_false_iff] at R
    exact ⟨by rw [← sameI_same]; exact R.2, plain_evTree l _ h.2.2.2.1, plain_evTree r _ h.2.2.2.2⟩
theorem Good.toPT {id : Tr Bool} {e : Ev} (G : Good id e) : PT id (evTree 0 e) ∧ wtext id (evTree 0 e) = whole id e := by
  refine ⟨⟨(plainB_same id).1 G.pt, by rw [← deep_same]; exact G.dt, plain_evTree e 0 G.pe, by rw [deepE]; exact G.de, G.hi⟩, ?_⟩
  rw [wtext, toEv_evTree e 0 G.pe]

/-- How many cells of a row. -/
def shareP : Tr Bool → Nat → Nat
  | ⟨.inl true⟩, n => n
  | ⟨.inl false⟩, _ => 0
  | ⟨.inr (l, r)⟩, n => shareP l (n / 2) + shareP r (n / 2)
def isNoneP : Tr Bool → Bool
  | ⟨.inl a⟩ => !a
  | ⟨.inr _⟩ => false
def cutP : Tr Bool → Tr Bool × Tr Bool
  | ⟨.inl a⟩ => (.pair (.leaf a) (.leaf false), .pair (.leaf false) (.leaf a))
  | ⟨.inr (l, r)⟩ =>
    if isNoneP l = true then (.pair (.leaf false) (cutP r).1, .pair (.leaf false) (cutP r).2)
    else if isNoneP r = true then (.pair (cutP l).1 (.leaf false), .pair (cutP l).2 (.leaf false))
    else (.pair l (.leaf false), .pair (.leaf false) r)

theorem isNone_iff (t : Tr Bool) : isNoneP t = true ↔ t = .leaf false := by
  cases t using Tr.cs with
  | leaf a => cases a <;> simp [isNoneP]
  | pair l r => simp [isNoneP]
theorem half_pow (h : Nat) : 2 ^ (h + 1) / 2 = 2 ^ h := by rw [Nat.pow_succ]; omega

theorem share_zero (t : Tr Bool) : ∀ h, deepT t ≤ h → plainT t → (shareP t (2 ^ h) = 0 ↔ t = .leaf false) := by
  induction t using Tr.ind with
  | leaf a =>
    intro h _ _
    have : 1 ≤ 2 ^ h := Nat.one_le_two_pow
    cases a
    · simp [shareP]
    · simp [shareP]
  | pair l r ihl ihr =>
    intro h hd hp
    have hd : max (deepT l) (deepT r) + 1 ≤ h := hd
    cases h with
    | zero => omega
    | succ h =>
      refine ⟨fun e => ?_, fun e => nomatch e⟩
      exfalso
      have e : shareP l (2 ^ (h + 1) / 2) + shareP r (2 ^ (h + 1) / 2) = 0 := e
      rw [half_pow] at e
      have e1 := (ihl h (by omega) hp.2.1).1 (by omega)
      have e2 := (ihr h (by omega) hp.2.2).1 (by omega)
      have := hp.1
      rw [e1, e2] at this; cases this
theorem share_le (t : Tr Bool) : ∀ h, deepT t ≤ h → shareP t (2 ^ h) ≤ 2 ^ h := by
  induction t using Tr.ind with
  | leaf a => intro h _; cases a <;> simp [shareP]
  | pair l r ihl ihr =>
    intro h hd
    have hd : max (deepT l) (deepT r) + 1 ≤ h := hd
    cases h with
    | zero => omega
    | succ h =>
      show shareP l (2 ^ (h + 1) / 2) + shareP r (2 ^ (h + 1) / 2) ≤ _
      rw [half_pow]
      have := ihl h (by omega)
      have := ihr h (by omega)
      rw [Nat.pow_succ]; omega
theorem share_full (t : Tr Bool) : ∀ h, deepT t ≤ h → plainT t → (shareP t (2 ^ h) = 2 ^ h ↔ t = .leaf true) := by
  induction t using Tr.ind with
  | leaf a =>
    intro h _ _
    have : 1 ≤ 2 ^ h := Nat.one_le_two_pow
    cases a
    · simp [shareP]; omega
    · simp [shareP]
  | pair l r ihl ihr =>
    intro h hd hp
    have hd : max (deepT l) (deepT r) + 1 ≤ h := hd
    cases h with
    | zero => omega
    | succ h =>
      refine ⟨fun e => ?_, fun e => nomatch e⟩
      exfalso
      have e : shareP l (2 ^ (h + 1) / 2) + shareP r (2 ^ (h + 1) / 2) = 2 ^ (h + 1) := e
      rw [half_pow, Nat.pow_succ] at e
      have l1 := share_le l h (by omega)
      have l2 := share_le r h (by omega)
      have e1 := (ihl h (by omega) hp.2.1).1 (by omega)
      have e2 := (ihr h (by omega) hp.2.2).1 (by omega)
      have := hp.1
      rw [e1, e2] at this; cases this

/-- Two pieces that one was cut into. -/
structure CutInto (h : Nat) (t a b : Tr Bool) : Prop where
  pa : plainT a
  pb : plainT b
  da : deepT a ≤ h
  db : deepT b ≤ h
  sum : shareP a (2 ^ h) + shareP b (2 ^ h) = shareP t (2 ^ h)
  a0 : 0 < shareP a (2 ^ h)
  b0 : 0 < shareP b (2 ^ h)
  val : ∀ p, (a.val p = true ∧ b.val p = false ∧ t.val p = true) ∨ (a.val p = false ∧ b.val p = true ∧ t.val p = true) ∨ (a.val p = false ∧ b.val p = false ∧ t.val p = false)

theorem share_pair (l r : Tr Bool) (h : Nat) : shareP (.pair l r) (2 ^ (h + 1)) = shareP l (2 ^ h) + shareP r (2 ^ h) := by
  show shareP l (2 ^ (h + 1) / 2) + shareP r (2 ^ (h + 1) / 2) = _
  rw [half_pow]
theorem share_false (n : Nat) : shareP (.leaf false) n = 0 := rfl
theorem share_true (n : Nat) : shareP (.leaf true) n = n := rfl
theorem plain_with_none {a : Tr Bool} (h : a ≠ .leaf false) : same a (.leaf false) = false ∧ same (.leaf false) a = false := by
  cases a using Tr.cs with
  | leaf x => cases x
              · exact absurd rfl h
              · exact ⟨rfl, rfl⟩
  | pair l r => exact ⟨rfl, rfl⟩
theorem ne_none {a : Tr Bool} {n : Nat} (h : 0 < shareP a n) : a ≠ .leaf false := by rintro rfl; rw [share_false] at h; omega

theorem cut_into (t : Tr Bool) : ∀ h, deepT t ≤ h → plainT t → 2 ≤ shareP t (2 ^ h) → CutInto h t (cutP t).1 (cutP t).2 := by
  induction t using Tr.ind with
  | leaf a =>
    intro h _ _ hs
    cases a
    · rw [share_false] at hs; omega
    · rw [share_true] at hs
      cases h with
      | zero => omega
      | succ h =>
        have h1 : 1 ≤ 2 ^ h := Nat.one_le_two_pow
        have d : ∀ x y : Bool, deepT (Tr.pair (Tr.leaf x) (Tr.leaf y)) = 1 := fun _ _ => rfl
        refine ⟨⟨rfl, trivial, trivial⟩, ⟨rfl, trivial, trivial⟩, ?_, ?_, ?_, ?_, ?_, ?_⟩
        · show deepT (Tr.pair (Tr.leaf true) (Tr.leaf false)) ≤ _; rw [d]; omega
        · show deepT (Tr.pair (Tr.leaf false) (Tr.leaf true)) ≤ _; rw [d]; omega
        · show shareP (Tr.pair (Tr.leaf true) (Tr.leaf false)) _ + shareP (Tr.pair (Tr.leaf false) (Tr.leaf true)) _ = _
          rw [share_pair, share_pair, share_true, share_true, share_false, Nat.pow_succ]; omega
        · show 0 < shareP (Tr.pair (Tr.leaf true) (Tr.leaf false)) _
          rw [share_pair, share_true, share_false]; omega
        · show 0 < shareP (Tr.pair (Tr.leaf false) (Tr.leaf true)) _
          rw [share_pair, share_true, share_false]; omega
        · intro p
          show ((Tr.pair (Tr.leaf true) (Tr.leaf false)).val p = true ∧ (Tr.pair (Tr.leaf false) (Tr.leaf true)).val p = false ∧ _) ∨ ((Tr.pair (Tr.leaf true) (Tr.leaf false)).val p = false ∧ (Tr.pair (Tr.leaf false) (Tr.leaf true)).val p = true ∧ _) ∨ _
          rw [val_pair, val_pair]
          by_cases h0 : p 0 = true
          · simp [h0, val_leaf]
          · simp [h0, val_leaf]
  | pair l r ihl ihr =>
    intro h hd hp hs
    have hd : max (deepT l) (deepT r) + 1 ≤ h := hd
    cases h with
    | zero => omega
    | succ h =>
      rw [share_pair] at hs
      by_cases nl : isNoneP l = true
      · have e : cutP (.pair l r) = (.pair (.leaf false) (cutP r).1, .pair (.leaf false) (cutP r).2) := by show (if isNoneP l = true then _ else _) = _; rw [if_pos nl]
        rw [e]
        have el := (isNone_iff l).1 nl
        rw [el, share_false] at hs
        have C := ihr h (by omega) hp.2.2 (by omega)
        rw [el]
        generalize (cutP r).1 = a at *
        generalize (cutP r).2 = b at *
        refine ⟨⟨(plain_with_none (ne_none C.a0)).2, trivial, C.pa⟩, ⟨(plain_with_none (ne_none C.b0)).2, trivial, C.pb⟩, ?_, ?_, ?_, ?_, ?_, ?_⟩
        · show max 0 (deepT a) + 1 ≤ _; have := C.da; omega
        · show max 0 (deepT b) + 1 ≤ _; have := C.db; omega
        · rw [share_pair, share_pair, share_pair, share_false]; have := C.sum; omega
        · rw [share_pair, share_false]; have := C.a0; omega
        · rw [share_pair, share_false]; have := C.b0; omega
        · intro p
          rw [val_pair, val_pair, val_pair]
          by_cases h0 : p 0 = true
          · simp only [h0, if_true]; exact C.val _
          · simp only [h0, val_leaf]; exact Or.inr (Or.inr ⟨rfl, rfl, rfl⟩)
      · by_cases nr : isNoneP r = true
        · have e : cutP (.pair l r) = (.pair (cutP l).1 (.leaf false), .pair (cutP l).2 (.leaf false)) := by show (if isNoneP l = true then _ else _) = _; rw [if_neg nl, if_pos nr]
          rw [e]
          have er := (isNone_iff r).1 nr
          rw [er, share_false] at hs
          have C := ihl h (by omega) hp.2.1 (by omega)
          rw [er]
          generalize (cutP l).1 = a at *
          generalize (cutP l).2 = b at *
          refine ⟨⟨(plain_with_none (ne_none C.a0)).1, C.pa, trivial⟩, ⟨(plain_with_none (ne_none C.b0)).1, C.pb, trivial⟩, ?_, ?_, ?_, ?_, ?_, ?_⟩
          · show max (deepT a) 0 + 1 ≤ _; have := C.da; omega
          · show max (deepT b) 0 + 1 ≤ _; have := C.db; omega
          · rw [share_pair, share_pair, share_pair, share_false]; have := C.sum; omega
          · rw [share_pair, share_false]; have := C.a0; omega
          · rw [share_pair, share_false]; have := C.b0; omega
          · intro p
            rw [val_pair, val_pair, val_pair]
            by_cases h0 : p 0 = true
            · simp only [h0, if_true, val_leaf]; exact Or.inr (Or.inr ⟨trivial, trivial, trivial⟩)
            · simp only [h0]; exact C.val _
        · have e : cutP (.pair l r) = (.pair l (.leaf false), .pair (.leaf false) r) := by show (if isNoneP l = true then _ else _) = _; rw [if_neg nl, if_neg nr]
          rw [e]
          have nl' : l ≠ .leaf false := fun e => nl ((isNone_iff l).2 e)
          have nr' : r ≠ .leaf false := fun e => nr ((isNone_iff r).2 e)
          have sl : shareP l (2 ^ h) ≠ 0 := fun e => nl' ((share_zero l h (by omega) hp.2.1).1 e)
          have sr : shareP r (2 ^ h) ≠ 0 := fun e => nr' ((share_zero r h (by omega) hp.2.2).1 e)
          refine ⟨⟨(plain_with_none nl').1, hp.2.1, trivial⟩, ⟨(plain_with_none nr').2, trivial, hp.2.2⟩, ?_, ?_, ?_, ?_, ?_, ?_⟩
          · show max (deepT l) 0 + 1 ≤ _; omega
          · show max 0 (deepT r) + 1 ≤ _; omega
          · rw [share_pair, share_pair, share_pair, share_false]; omega
          · rw [share_pair, share_false]; omega
          · rw [share_pair, share_false]; omega
          · intro p
            rw [val_pair, val_pair, val_pair]
            by_cases h0 : p 0 = true
            · simp only [h0, if_true, val_leaf]; cases r.val (fun k => p (k + 1)) <;> simp
            · simp only [h0, val_leaf]; cases l.val (fun k => p (k + 1)) <;> simp

end Go.Proofs.YtoebmfhgaalcdaaGreatDoor
