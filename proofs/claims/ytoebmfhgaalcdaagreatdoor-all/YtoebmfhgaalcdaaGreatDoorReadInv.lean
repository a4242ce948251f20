/-
  Our own. Whatever is read is the plain text of what it is read as.
-/
import Derived.Test.YtoebmfhgaalcdaaGreatDoorTreesAll
import Derived.Test.YtoebmfhgaalcdaaGreatDoorRefOneAll
namespace Go.Proofs.YtoebmfhgaalcdaaGreatDoor

/-- The bytes from i up to j. -/
def seg (s : ByteArray) (i j : Nat) : List UInt8 := (s.data.toList.drop i).take (j - i)

theorem seg_cat (s : ByteArray) {i j k : Nat} (h1 : i ≤ j) (h2 : j ≤ k) : seg s i j ++ seg s j k = seg s i k := by
  unfold seg
  rw [show k - i = (j - i) + (k - j) by omega, List.take_add, List.drop_drop, show i + (j - i) = j by omega]
theorem seg_self (s : ByteArray) (i : Nat) : seg s i i = [] := by unfold seg; rw [Nat.sub_self]; rfl
theorem seg_one (s : ByteArray) (i : Nat) (c : UInt8) (hi : i < s.size) (h : nx s i = c.toNat) : seg s i (i + 1) = [c] := by
  unfold seg nx at *
  have hl : i < s.data.toList.length := by simpa using hi
  rw [show i + 1 - i = 1 by omega, List.drop_eq_getElem_cons hl]
  rw [List.getD_eq_getElem?_getD, List.getElem?_eq_getElem hl] at h
  have h : (s.data.toList[i]).toNat = c.toNat := h
  rw [UInt8.toNat_inj.1 h]; rfl
theorem seg_len (s : ByteArray) (i j : Nat) (h : j ≤ s.size) : (seg s i j).length = j - i := by
  unfold seg
  rw [List.length_take, List.length_drop]
  have : s.data.toList.length = s.size := by simp
  omega
theorem seg_all (s : ByteArray) : strOf (seg s 0 s.size) = s := by
  unfold seg strOf
  rw [Nat.sub_zero, List.drop_zero, List.take_of_length_le (by simp)]

theorem digs_val_more : ∀ (ds : List UInt8) (n : Nat), 1 ≤ n → allD ds → digs (valD n ds) = digs n ++ ds
  | [], n, _, _ => by rw [valD_nil, List.append_nil]
  | c :: ds, n, hn, ha => by
    have hc := ha.1
    rw [valD_cons, digs_val_more ds (10 * n + (c.toNat - 48)) (by omega) ha.2, digs_more _ (by omega)]
    rw [show (10 * n + (c.toNat - 48)) / 10 = n by omega, show (10 * n + (c.toNat - 48)) % 10 = c.toNat - 48 by omega, show 48 + (c.toNat - 48) = c.toNat by omega]
    simp
theorem digs_of_val (c : UInt8) (ds : List UInt8) (ha : allD (c :: ds)) (hc : c.toNat ≠ 48) : digs (valD 0 (c :: ds)) = c :: ds := by
  have h := ha.1
  rw [valD_cons, digs_val_more ds _ (by omega) ha.2, digs_one _ (by omega), show 48 + (10 * 0 + (c.toNat - 48)) = c.toNat by omega]
  simp

theorem nx_byte (s : ByteArray) (i : Nat) : ∃ c : UInt8, nx s i = c.toNat := ⟨_, rfl⟩

theorem numGo_seg (s : ByteArray) : ∀ (f i n : Nat) (m j : Nat), i ≤ s.size → numGo s f i n = .ok m j → i ≤ j ∧ j ≤ s.size ∧ allD (seg s i j) ∧ m = valD n (seg s i j)
  | 0, i, n, m, j, hi, h => by
    rw [numGo] at h
    obtain ⟨rfl, rfl⟩ := Nm.ok_inj h
    rw [seg_self]
    exact ⟨Nat.le_refl _, hi, trivial, rfl⟩
  | f + 1, i, n, m, j, hi, h => by
    rw [numGo] at h
    by_cases hd : isDig (nx s i) = true
    · rw [if_pos hd] at h
      by_cases ho : 1099511627776 < 10 * n + (nx s i - 48)
      · rw [if_pos ho] at h; exact (Nm.bad_ok h).elim
      · rw [if_neg ho] at h
        have hl : i < s.size := lt_of_nx s i (by have := (isDig_iff _).1 hd; omega)
        obtain ⟨a, b, c, d⟩ := numGo_seg s f (i + 1) _ m j (by omega) h
        obtain ⟨x, hx⟩ := nx_byte s i
        have e := seg_one s i x hl hx
        rw [← seg_cat s (show i ≤ i + 1 by omega) a, e]
        refine ⟨by omega, b, ⟨by rw [← hx]; exact (isDig_iff _).1 hd, c⟩, ?_⟩
        rw [d]
        show _ = valD n (x :: seg s (i + 1) j)
        rw [valD_cons, ← hx]
    · rw [if_neg hd] at h
      obtain ⟨rfl, rfl⟩ := Nm.ok_inj h
      rw [seg_self]
      exact ⟨Nat.le_refl _, hi, trivial, rfl⟩

/-- A NUM that was read is written so. -/
theorem numR_seg {s : ByteArray} {i n j : Nat} (hi : i ≤ s.size) (h : numR s i = .ok n j) : i ≤ j ∧ j ≤ s.size ∧ seg s i j = digs n ∧ n ≤ 1099511627776 := by
  have hn := (numR_ok hi h).1
  unfold numR at h
  by_cases hd : isDig (nx s i) = false
  · rw [if_pos hd] at h; exact (Nm.bad_ok h).elim
  · rw [if_neg hd] at h
    have hd : isDig (nx s i) = true := by simpa using hd
    have hl : i < s.size := lt_of_nx s i (by have := (isDig_iff _).1 hd; omega)
    by_cases hz : nx s i = 48
    · rw [if_pos hz] at h
      obtain ⟨rfl, rfl⟩ := Nm.ok_inj h
      refine ⟨by omega, by omega, ?_, hn⟩
      rw [seg_one s i 48 hl (by rw [hz]; rfl)]
      rfl
    · rw [if_neg hz] at h
      rw [show s.size + 1 - i = (s.size - i) + 1 by omega, numGo, if_pos hd] at h
      have := (isDig_iff _).1 hd
      rw [if_neg (by omega)] at h
      obtain ⟨a, b, c, d⟩ := numGo_seg s _ (i + 1) _ n j (by omega) h
      obtain ⟨x, hx⟩ := nx_byte s i
      have e := seg_one s i x hl hx
      have e2 : seg s i j = x :: seg s (i + 1) j := by rw [← seg_cat s (show i ≤ i + 1 by omega) a, e]; rfl
      refine ⟨by omega, b, ?_, hn⟩
      rw [e2]
      have hv : n = valD 0 (x :: seg s (i + 1) j) := by rw [valD_cons, ← hx]; exact d
      rw [hv]
      exact (digs_of_val x _ ⟨by rw [← hx]; omega, c⟩ (by rw [← hx]; exact hz)).symm

/-- An ID that was read is written so; it is plain where no place was noted. -/
theorem idR_seg (s : ByteArray) : ∀ (h i r : Nat) (t : Tr Bool) (j q : Nat), idR s h i r = .ok t j q → i ≤ j ∧ j ≤ s.size ∧ seg s i j = idText t ∧ t.deep ≤ h ∧ (s.size ≤ q → plainB t ∧ s.size ≤ r) := by
  have leafCase : ∀ (h i r : Nat) (t : Tr Bool) (j q : Nat), ((nx s i = 48 ∧ t = .leaf false ∧ j = i + 1 ∧ q = r) ∨ (nx s i = 49 ∧ t = .leaf true ∧ j = i + 1 ∧ q = r)) → i ≤ j ∧ j ≤ s.size ∧ seg s i j = idText t ∧ t.deep ≤ h ∧ (s.size ≤ q → plainB t ∧ s.size ≤ r) := by
    rintro h i r t j q (⟨c, rfl, rfl, rfl⟩ | ⟨c, rfl, rfl, rfl⟩)
    · have := lt_of_nx s i (by omega)
      exact ⟨by omega, by omega, seg_one s i 48 this c, Nat.zero_le _, fun hq => ⟨trivial, hq⟩⟩
    · have := lt_of_nx s i (by omega)
      exact ⟨by omega, by omega, seg_one s i 49 this c, Nat.zero_le _, fun hq => ⟨trivial, hq⟩⟩
  intro h
  induction h with
  | zero =>
    intro i r t j q e
    rcases idR_inv s 0 i r t j q e with c | c | ⟨h', _, _, _, _, _, _, hh, _⟩
    · exact leafCase 0 i r t j q (Or.inl c)
    · exact leafCase 0 i r t j q (Or.inr c)
    · omega
  | succ h ih =>
    intro i r t j q e
    rcases idR_inv s (h + 1) i r t j q e with c | c | ⟨h', l, u, i2, r2, i4, r4, hh, c, f1, g1, f2, g2, rfl, rfl, rfl⟩
    · exact leafCase (h + 1) i r t j q (Or.inl c)
    · exact leafCase (h + 1) i r t j q (Or.inr c)
    · obtain rfl : h' = h := by omega
      obtain ⟨a1, a2, a3, a4, a5⟩ := ih _ _ _ _ _ f1
      obtain ⟨b1, b2, b3, b4, b5⟩ := ih _ _ _ _ _ f2
      have l0 := lt_of_nx s i (by omega)
      have l4 := lt_of_nx s i4 (by omega)
      have l2 := lt_of_nx s i2 (by omega)
      refine ⟨by omega, by omega, ?_, ?_, ?_⟩
      · rw [← seg_cat s (show i ≤ i + 1 by omega) (show i + 1 ≤ i4 + 1 by omega), ← seg_cat s a1 (show i2 ≤ i4 + 1 by omega), ← seg_cat s (show i2 ≤ i2 + 1 by omega) (show i2 + 1 ≤ i4 + 1 by omega), ← seg_cat s b1 (show i4 ≤ i4 + 1 by omega),
          seg_one s i 40 l0 c, seg_one s i2 44 l2 g1, seg_one s i4 41 l4 g2, a3, b3]
        simp [idText]
      · show max l.deep u.deep + 1 ≤ h' + 1; omega
      · intro hq
        by_cases hs : sameB l u = true
        · rw [if_pos hs] at hq; omega
        · rw [if_neg hs] at hq
          obtain ⟨p1, p2⟩ := b5 hq
          obtain ⟨p3, p4⟩ := a5 p2
          exact ⟨⟨by simpa using hs, p3, p1⟩, p4⟩

theorem isZero_num {e : Ev} (h : isZero e = true) : e = .num 0 := by
  cases e using Ev.cs with
  | num n =>
    rw [isZero_iff] at h
    have : n = 0 := (digs_zero n).1 h
    rw [this]
  | br n l r => rw [isZero_iff] at h; simp [evText] at h

/-- An EV that was read is written so. -/
theorem evR_seg (s : ByteArray) : ∀ (h base i r : Nat) (t : Tr Nat) (n j q : Nat), i ≤ s.size → evR s h base i r = .ok (t, n) j q →
    i ≤ j ∧ j ≤ s.size ∧ ∃ e : Ev, seg s i j = evText e ∧ evTree base e = t ∧ front e = n ∧ e.deep ≤ h ∧ (s.size ≤ q → plainE e ∧ s.size ≤ r) := by
  have leafCase : ∀ (h base i r : Nat) (t : Tr Nat) (n j q : Nat), i ≤ s.size → (nx s i ≠ 40 ∧ numR s i = .ok n j ∧ t = .leaf (base + n) ∧ q = r) →
      i ≤ j ∧ j ≤ s.size ∧ ∃ e : Ev, seg s i j = evText e ∧ evTree base e = t ∧ front e = n ∧ e.deep ≤ h ∧ (s.size ≤ q → plainE e ∧ s.size ≤ r) := by
    rintro h base i r t n j q hi ⟨_, f, rfl, rfl⟩
    obtain ⟨a, b, c, d⟩ := numR_seg hi f
    exact ⟨a, b, .num n, c, rfl, rfl, Nat.zero_le _, fun hq => ⟨d, hq⟩⟩
  intro h
  induction h with
  | zero =>
    intro base i r t n j q hi e
    rcases evR_inv s 0 base i r t n j q e with c | ⟨h', _, _, _, _, _, _, _, _, _, hh, _⟩
    · exact leafCase 0 base i r t n j q hi c
    · omega
  | succ h ih =>
    intro base i r t n j q hi e
    rcases evR_inv s (h + 1) base i r t n j q e with c | ⟨h', i1, l, ln, u, un, i2, r2, i4, r4, hh, c, f, g0, f1, g1, f2, g2, rfl, rfl, rfl⟩
    · exact leafCase (h + 1) base i r t n j q hi c
    · obtain rfl : h' = h := by omega
      have l0 := lt_of_nx s i (by omega)
      have l1 := lt_of_nx s i1 (by omega)
      have l2 := lt_of_nx s i2 (by omega)
      have l4 := lt_of_nx s i4 (by omega)
      obtain ⟨z1, z2, z3, z4⟩ := numR_seg (show i + 1 ≤ s.size by omega) f
      obtain ⟨a1, a2, e1, a3, a4, a5, a6, a7⟩ := ih _ _ _ _ _ _ _ (by omega) f1
      obtain ⟨b1, b2, e2, b3, b4, b5, b6, b7⟩ := ih _ _ _ _ _ _ _ (by omega) f2
      refine ⟨by omega, by omega, .br n e1 e2, ?_, ?_, rfl, ?_, ?_⟩
      · rw [← seg_cat s (show i ≤ i + 1 by omega) (show i + 1 ≤ i4 + 1 by omega), ← seg_cat s z1 (show i1 ≤ i4 + 1 by omega), ← seg_cat s (show i1 ≤ i1 + 1 by omega) (show i1 + 1 ≤ i4 + 1 by omega), ← seg_cat s a1 (show i2 ≤ i4 + 1 by omega),
          ← seg_cat s (show i2 ≤ i2 + 1 by omega) (show i2 + 1 ≤ i4 + 1 by omega), ← seg_cat s b1 (show i4 ≤ i4 + 1 by omega), seg_one s i 40 l0 c, seg_one s i1 44 l1 g0, seg_one s i2 44 l2 g1, seg_one s i4 41 l4 g2, z3, a3, b3]
        simp [evText]
      · show Tr.pair (evTree (base + n) e1) (evTree (base + n) e2) = _
        rw [a4, b4]
      · show max e1.deep e2.deep + 1 ≤ h' + 1; omega
      · intro hq
        by_cases hs : (decide (0 < ln) && decide (0 < un) || sameI l u) = true
        · rw [if_pos hs] at hq; omega
        · rw [if_neg hs] at hq
          obtain ⟨p1, p2⟩ := b7 hq
          obtain ⟨p3, p4⟩ := a7 p2
          have hs : (decide (0 < ln) && decide (0 < un) || sameI l u) = false := by simpa using hs
          rw [Bool.or_eq_false_iff, Bool.and_eq_false_iff] at hs
          refine ⟨⟨z4, ?_, ?_, p3, p1⟩, p4⟩
          · rw [a5, b5]
            rcases hs.1 with h9 | h9
            · left; have := of_decide_eq_false h9; omega
            · right; have := of_decide_eq_false h9; omega
          · by_cases hz : (isZero e1 && isZero e2) = true
            · exfalso
              rw [Bool.and_eq_true] at hz
              have x1 := isZero_num hz.1
              have x2 := isZero_num hz.2
              subst x1 x2
              rw [← a4, ← b4] at hs
              have := hs.2
              simp [evTree, sameI] at this
            · simpa using hz

/-- Whatever is read is the plain text of what it is read as. -/
theorem readR_inv {s : ByteArray} {id : Tr Bool} {ev : Tr Nat} (h : readR s = .ok id ev) : PT id ev ∧ s = strOf (wtext id ev) := by
  have NO : ∀ a b, Rd1.bad a b = Rd1.ok id ev → False := fun a b h => by injection h with h; injection h
  unfold readR at h
  by_cases hs : 20000 < s.size
  · rw [if_pos hs] at h; exact (NO _ _ h).elim
  rw [if_neg hs] at h
  cases f : idR s 8 0 s.size using Rs.cs with
  | bad j => simp only [f] at h; exact (NO _ _ h).elim
  | ok id' i1 r1 =>
    simp only [f] at h
    by_cases g : nx s i1 = 59
    · rw [if_pos g] at h
      cases f2 : evR s 8 0 (i1 + 1) r1 using Rs.cs with
      | bad j => simp only [f2] at h; exact (NO _ _ h).elim
      | ok o i2 r2 =>
        obtain ⟨ev', n⟩ := o
        simp only [f2] at h
        by_cases l : i2 < s.size
        · rw [if_pos l] at h; exact (NO _ _ h).elim
        rw [if_neg l] at h
        by_cases m : 1099511627776 < highest ev'
        · rw [if_pos m] at h; exact (NO _ _ h).elim
        rw [if_neg m] at h
        by_cases q : r2 < s.size
        · rw [if_pos q] at h; exact (NO _ _ h).elim
        rw [if_neg q] at h
        injection h with h
        injection h with h
        injection h with h1 h2
        subst h1 h2
        have l1 := lt_of_nx s i1 (by omega)
        obtain ⟨a1, a2, a3, a4, a5⟩ := idR_seg s 8 0 s.size id' i1 r1 f
        obtain ⟨b1, b2, e, b3, b4, b5, b6, b7⟩ := evR_seg s 8 0 (i1 + 1) r1 ev' n i2 r2 (by omega) f2
        obtain ⟨p1, p2⟩ := b7 (by omega)
        obtain ⟨p3, _⟩ := a5 p2
        have e2 : i2 = s.size := by omega
        subst b4 e2
        have G : Good id' e := ⟨a4, p3, b6, p1, by omega⟩
        obtain ⟨P, W⟩ := G.toPT
        refine ⟨P, ?_⟩
        rw [W]
        show s = strOf (idText id' ++ 59 :: evText e)
        rw [← a3, ← b3]
        have e3 : seg s 0 i1 ++ 59 :: seg s (i1 + 1) s.size = seg s 0 s.size := by
          rw [← seg_cat s (Nat.zero_le i1) (show i1 ≤ s.size by omega), ← seg_cat s (show i1 ≤ i1 + 1 by omega) (show i1 + 1 ≤ s.size by omega), seg_one s i1 59 l1 g]
          rfl
        rw [e3, seg_all]
    · rw [if_neg g] at h; exact (NO _ _ h).elim

end Go.Proofs.YtoebmfhgaalcdaaGreatDoor
