/-
  Our own. What reading comes to at texts that were written, whole or cut off.
-/
import Derived.Test.YtoebmfhgaalcdaaGreatDoorKeepPlain3
namespace Go.Proofs.YtoebmfhgaalcdaaGreatDoor

/-- From i on, as far as it goes, the text has t. -/
def Has (s : ByteArray) (i : Nat) (t : List UInt8) : Prop := ∀ j, j < t.length → i + j < s.size → nx s (i + j) = (t.getD j 0).toNat

theorem nx_past (s : ByteArray) (i : Nat) (h : s.size ≤ i) : nx s i = 0 := by
  unfold nx
  rw [List.getD_eq_getElem?_getD, List.getElem?_eq_none (by simpa using h)]; rfl

theorem Has.head {s : ByteArray} {i : Nat} {c : UInt8} {t : List UInt8} (h : Has s i (c :: t)) (hi : i < s.size) : nx s i = c.toNat := by
  have := h 0 (by simp) (by simpa using hi)
  simpa using this
theorem Has.tail {s : ByteArray} {i : Nat} {c : UInt8} {t : List UInt8} (h : Has s i (c :: t)) : Has s (i + 1) t := by
  intro j hj hi
  have := h (j + 1) (by simp; omega) (by omega)
  rw [show i + 1 + j = i + (j + 1) by omega, this]
  simp
theorem Has.left {s : ByteArray} {i : Nat} {t u : List UInt8} (h : Has s i (t ++ u)) : Has s i t := by
  intro j hj hi
  rw [h j (by simp; omega) hi]
  simp only [List.getD_eq_getElem?_getD]
  rw [List.getElem?_append_left hj]
theorem Has.right {s : ByteArray} {i : Nat} {t u : List UInt8} (h : Has s i (t ++ u)) : Has s (i + t.length) u := by
  intro j hj hi
  rw [show i + t.length + j = i + (t.length + j) by omega, h (t.length + j) (by simp; omega) (by omega)]
  simp only [List.getD_eq_getElem?_getD]
  rw [List.getElem?_append_right (by omega)]
  simp

/-- How deep, and plain, and the like. -/
def Tr.deep : Tr Bool → Nat
  | ⟨.inl _⟩ => 0
  | ⟨.inr (l, r)⟩ => max l.deep r.deep + 1
def plainB : Tr Bool → Prop
  | ⟨.inl _⟩ => True
  | ⟨.inr (l, r)⟩ => sameB l r = false ∧ plainB l ∧ plainB r

theorem idR_text (s : ByteArray) : ∀ (t : Tr Bool) (h i r : Nat), t.deep ≤ h → plainB t → Has s i (idText t) → i ≤ s.size →
    (i + (idText t).length ≤ s.size → idR s h i r = .ok t (i + (idText t).length) r) ∧ (s.size < i + (idText t).length → idR s h i r = .bad s.size)
  | ⟨.inl x⟩, h, i, r, _, _, ht, hi => by
    have hl : (idText (.leaf x)).length = 1 := by cases x <;> rfl
    rw [hl]
    refine ⟨fun h1 => ?_, fun h1 => ?_⟩
    · cases x
      · exact idR_zero h (ht.head (by omega))
      · exact idR_one h (ht.head (by omega))
    · have e : i = s.size := by omega
      have e0 : nx s i = 0 := nx_past s i (by omega)
      rw [← e]
      cases h with
      | zero => exact idR_deep (by omega) (by omega)
      | succ h => exact idR_bad0 (by omega) (by omega) (by omega)
  | ⟨.inr (a, c)⟩, 0, i, r, hd, _, _, _ => by simp [Tr.deep] at hd
  | ⟨.inr (a, c)⟩, h + 1, i, r, hd, hp, ht, hi => by
    have hd1 : a.deep ≤ h := by simp only [Tr.deep] at hd; omega
    have hd2 : c.deep ≤ h := by simp only [Tr.deep] at hd; omega
    have hl : (idText (.pair a c)).length = (idText a).length + (idText c).length + 3 := by simp [idText]; omega
    have hT : idText (.pair a c) = 40 :: (idText a ++ (44 :: (idText c ++ [41]))) := by simp [idText]
    rw [hT] at ht
    have t1 := ht.tail
    have t2 := t1.right
    have t3 := t2.tail
    have t4 := t3.right
    rw [hl]
    by_cases g0 : i < s.size
    · have e0 : nx s i = 40 := ht.head g0
      have A := idR_text s a h (i + 1) r hd1 hp.2.1 t1.left (by omega)
      by_cases g1 : i + 1 + (idText a).length ≤ s.size
      · have f1 := A.1 g1
        by_cases g2 : i + 1 + (idText a).length < s.size
        · have e1 : nx s (i + 1 + (idText a).length) = 44 := t2.head g2
          have C := idR_text s c h (i + 1 + (idText a).length + 1) r hd2 hp.2.2 t3.left (by omega)
          by_cases g3 : i + 1 + (idText a).length + 1 + (idText c).length ≤ s.size
          · have f2 := C.1 g3
            by_cases g4 : i + 1 + (idText a).length + 1 + (idText c).length < s.size
            · have e2 : nx s (i + 1 + (idText a).length + 1 + (idText c).length) = 41 := t4.head g4
              refine ⟨fun _ => ?_, fun h1 => by omega⟩
              rw [idR_pair e0 f1 e1 f2 e2, hp.1, show i + ((idText a).length + (idText c).length + 3) = i + 1 + (idText a).length + 1 + (idText c).length + 1 by omega]
              rfl
            · have e2 : nx s (i + 1 + (idText a).length + 1 + (idText c).length) = 0 := nx_past s _ (by omega)
              refine ⟨fun h1 => by omega, fun _ => ?_⟩
              rw [idR_bad4 e0 f1 e1 f2 (by omega)]
              congr 1; omega
          · exact ⟨fun h1 => by omega, fun _ => idR_bad3 e0 f1 e1 (C.2 (by omega))⟩
        · have e1 : nx s (i + 1 + (idText a).length) = 0 := nx_past s _ (by omega)
          refine ⟨fun h1 => by omega, fun _ => ?_⟩
          rw [idR_bad2 e0 f1 (by omega)]
          congr 1; omega
      · exact ⟨fun h1 => by omega, fun _ => idR_bad1 e0 (A.2 (by omega))⟩
    · have e0 : nx s i = 0 := nx_past s i (by omega)
      refine ⟨fun h1 => by omega, fun _ => ?_⟩
      rw [idR_bad0 (by omega) (by omega) (by omega)]
      congr 1; omega

/-- What digits come to. -/
def valD (n : Nat) (ds : List UInt8) : Nat := ds.foldl (fun a c => 10 * a + (c.toNat - 48)) n
theorem valD_nil (n : Nat) : valD n [] = n := by simp only [valD, List.foldl_nil]
theorem valD_cons (n : Nat) (c : UInt8) (ds : List UInt8) : valD n (c :: ds) = valD (10 * n + (c.toNat - 48)) ds := by simp only [valD, List.foldl_cons]
def allD : List UInt8 → Prop
  | [] => True
  | c :: ds => (48 ≤ c.toNat ∧ c.toNat ≤ 57) ∧ allD ds

theorem valD_le : ∀ (ds : List UInt8) (n : Nat), n ≤ valD n ds
  | [], n => by rw [valD_nil]; exact Nat.le_refl _
  | c :: ds, n => by
    have := valD_le ds (10 * n + (c.toNat - 48))
    rw [valD_cons]; omega
theorem valD_snoc (ds : List UInt8) (n : Nat) (c : UInt8) : valD n (ds ++ [c]) = 10 * valD n ds + (c.toNat - 48) := by
  simp only [valD, List.foldl_append, List.foldl_cons, List.foldl_nil]
theorem allD_snoc : ∀ (ds : List UInt8) (c : UInt8), allD ds → 48 ≤ c.toNat ∧ c.toNat ≤ 57 → allD (ds ++ [c])
  | [], _, _, h => ⟨h, trivial⟩
  | _ :: ds, c, h, hc => ⟨h.1, allD_snoc ds c h.2 hc⟩

theorem dig_nat (n : Nat) (h : n < 10) : (UInt8.ofNat (48 + n)).toNat = 48 + n := UInt8.toNat_ofNat_of_lt' (by show 48 + n < 256; omega)

theorem digs_val (n : Nat) : valD 0 (digs n) = n ∧ allD (digs n) ∧ (0 < n → ∃ c ds, digs n = c :: ds ∧ c.toNat ≠ 48) := by
  induction n using Nat.strongRecOn with
  | _ n ih =>
    by_cases h : n < 10
    · rw [digs_one n h]
      have e := dig_nat n h
      refine ⟨?_, ⟨by omega, trivial⟩, fun hp => ⟨_, [], rfl, by omega⟩⟩
      rw [valD_cons, valD_nil]; omega
    · rw [digs_more n h]
      obtain ⟨h1, h2, h3⟩ := ih (n / 10) (by omega)
      have e := dig_nat (n % 10) (by omega)
      refine ⟨?_, allD_snoc _ _ h2 (by omega), fun _ => ?_⟩
      · rw [valD_snoc, h1, e]; omega
      · obtain ⟨c, ds, hc, hn⟩ := h3 (by omega)
        exact ⟨c, ds ++ [UInt8.ofNat (48 + n % 10)], by rw [hc]; rfl, hn⟩

theorem numGo_text (s : ByteArray) : ∀ (ds : List UInt8) (n i : Nat), allD ds → Has s i ds → i ≤ s.size → valD n ds ≤ 1099511627776 →
    (i + ds.length ≤ s.size → isDig (nx s (i + ds.length)) = false → numGo s (s.size + 1 - i) i n = .ok (valD n ds) (i + ds.length)) ∧
    (s.size < i + ds.length → ∃ m, m ≤ 1099511627776 ∧ numGo s (s.size + 1 - i) i n = .ok m s.size)
  | [], n, i, _, _, hi, _ => by rw [valD_nil]; exact ⟨fun _ h2 => numGo_end s i n hi h2, fun h => by simp at h; omega⟩
  | c :: ds, n, i, hd, ht, hi, hv => by
    by_cases g : i < s.size
    · have e := ht.head g
      have hg : isDig (nx s i) = true := (isDig_iff _).2 (by rw [e]; exact hd.1)
      have hle := valD_le ds (10 * n + (c.toNat - 48))
      rw [valD_cons] at hv
      have hno : ¬ 1099511627776 < 10 * n + (nx s i - 48) := by rw [e]; omega
      have R := numGo_text s ds (10 * n + (c.toNat - 48)) (i + 1) hd.2 ht.tail (by omega) hv
      rw [numGo_step s i n g hg hno, e, valD_cons]
      simp only [List.length_cons]
      rw [show i + (ds.length + 1) = i + 1 + ds.length by omega]
      exact R
    · have e0 : nx s i = 0 := nx_past s i (by omega)
      have hg : isDig (nx s i) = false := by rw [e0]; rfl
      simp only [List.length_cons]
      refine ⟨fun h => by omega, fun _ => ⟨n, ?_, ?_⟩⟩
      · have := valD_le (c :: ds) n; omega
      · rw [numGo_end s i n hi hg]; congr 1; omega

theorem numR_text (s : ByteArray) (n i : Nat) (hn : n ≤ 1099511627776) (ht : Has s i (digs n)) (hi : i ≤ s.size) :
    (i + (digs n).length ≤ s.size → isDig (nx s (i + (digs n).length)) = false → numR s i = .ok n (i + (digs n).length)) ∧
    (s.size < i + (digs n).length → (i = s.size → numR s i = .bad s.size) ∧ (i < s.size → ∃ m, m ≤ 1099511627776 ∧ numR s i = .ok m s.size)) := by
  obtain ⟨v1, v2, v3⟩ := digs_val n
  have hp := digs_pos n
  by_cases g : i < s.size
  · by_cases z : n = 0
    · subst z
      have ed : digs 0 = [48] := (digs_zero 0).2 rfl
      rw [ed] at ht ⊢
      have e := ht.head g
      have e' : nx s i = 48 := e
      have R : numR s i = .ok 0 (i + 1) := by
        unfold numR; rw [if_neg (by rw [e']; decide), if_pos e']
      refine ⟨fun _ _ => R, fun h => ?_⟩
      simp at h; omega
    · obtain ⟨c, ds, hc, hne⟩ := v3 (by omega)
      have e : nx s i = c.toNat := by rw [hc] at ht; exact ht.head g
      have hd : 48 ≤ c.toNat ∧ c.toNat ≤ 57 := by rw [hc] at v2; exact v2.1
      have R : numR s i = numGo s (s.size + 1 - i) i 0 := by
        unfold numR; rw [if_neg (by rw [(isDig_iff _).2 (by omega)]; decide), if_neg (by omega)]
      have N := numGo_text s (digs n) 0 i v2 ht hi (by omega)
      rw [R, v1] at *
      exact ⟨N.1, fun h => ⟨fun h2 => by omega, fun _ => N.2 h⟩⟩
  · have e0 : nx s i = 0 := nx_past s i (by omega)
    refine ⟨fun h => by omega, fun _ => ⟨fun h2 => ?_, fun h2 => by omega⟩⟩
    unfold numR; rw [if_pos (by rw [e0]; rfl), h2]

/-- The number in front. -/
def front : Ev → Nat
  | ⟨n, _⟩ => n
def Ev.deep : Ev → Nat
  | ⟨_, none⟩ => 0
  | ⟨_, some (l, r)⟩ => max l.deep r.deep + 1
/-- Plain, all numbers within the bound. -/
def plainE : Ev → Prop
  | ⟨n, none⟩ => n ≤ 1099511627776
  | ⟨n, some (l, r)⟩ => n ≤ 1099511627776 ∧ (front l = 0 ∨ front r = 0) ∧ (isZero l && isZero r) = false ∧ plainE l ∧ plainE r
/-- The cells' numbers. -/
def evTree (base : Nat) : Ev → Tr Nat
  | ⟨n, none⟩ => .leaf (base + n)
  | ⟨n, some (l, r)⟩ => .pair (evTree (base + n) l) (evTree (base + n) r)

theorem rough_no (base : Nat) (l r : Ev) (h1 : front l = 0 ∨ front r = 0) (h2 : (isZero l && isZero r) = false) : (decide (0 < front l) && decide (0 < front r) || sameI (evTree base l) (evTree base r)) = false := by
  rw [Bool.or_eq_false_iff]
  refine ⟨?_, ?_⟩
  · rw [Bool.and_eq_false_iff]; simp only [decide_eq_false_iff_not]; omega
  · cases l using Ev.cs with
    | br n a b => rfl
    | num n =>
      cases r using Ev.cs with
      | br m a b => rfl
      | num m =>
        simp only [front] at h1
        have hnm : n ≠ m := by
          rintro rfl
          have : n = 0 := by omega
          subst this; simp [isZero] at h2
        simp only [evTree, sameI, beq_eq_false_iff_ne]
        omega

theorem evText_head (e : Ev) : ∃ c t, evText e = c :: t ∧ ((∃ n, e = .num n) → c.toNat ≠ 40 ) ∧ ((∃ n l r, e = .br n l r) → c = 40) := by
  cases e using Ev.cs with
  | num n =>
    obtain ⟨v1, v2, v3⟩ := digs_val n
    cases hd : digs n with
    | nil => have := digs_pos n; rw [hd] at this; simp at this
    | cons c t =>
      refine ⟨c, t, hd, fun _ => ?_, ?_⟩
      · rw [hd] at v2; have := v2.1; omega
      · rintro ⟨n, l, r, h⟩; cases h
  | br n l r =>
    refine ⟨40, digs n ++ 44 :: evText l ++ 44 :: evText r ++ [41], by simp [evText], ?_, fun _ => rfl⟩
    rintro ⟨n, h⟩; cases h

theorem evR_text (s : ByteArray) : ∀ (e : Ev) (h base i r : Nat), e.deep ≤ h → plainE e → Has s i (evText e) → i ≤ s.size →
    (i + (evText e).length ≤ s.size → isDig (nx s (i + (evText e).length)) = false → evR s h base i r = .ok (evTree base e, front e) (i + (evText e).length) r) ∧
    (s.size < i + (evText e).length → evR s h base i r = .bad s.size ∨ (i < s.size ∧ (∃ n, e = .num n) ∧ ∃ m, m ≤ 1099511627776 ∧ evR s h base i r = .ok (.leaf (base + m), m) s.size r))
  | ⟨n, none⟩, h, base, i, r, _, hp, ht, hi => by
    have N := numR_text s n i hp ht hi
    have n40 : nx s i ≠ 40 := by
      by_cases g : i < s.size
      · obtain ⟨c, t, hc, h1, _⟩ := evText_head (.num n)
        rw [hc] at ht
        rw [ht.head g]; exact h1 ⟨n, rfl⟩
      · rw [nx_past s i (by omega)]; omega
    refine ⟨fun h1 h2 => evR_num h n40 (N.1 h1 h2), fun h1 => ?_⟩
    by_cases g : i < s.size
    · obtain ⟨m, hm, f⟩ := (N.2 h1).2 g
      exact Or.inr ⟨g, ⟨n, rfl⟩, m, hm, evR_num h n40 f⟩
    · exact Or.inl (evR_numbad h n40 ((N.2 h1).1 (by omega)))
  | ⟨n, some (a, c)⟩, 0, base, i, r, hd, _, _, _ => by simp [Ev.deep] at hd
  | ⟨n, some (a, c)⟩, h + 1, base, i, r, hd, hp, ht, hi => by
    have hd1 : a.deep ≤ h := by simp only [Ev.deep] at hd; omega
    have hd2 : c.deep ≤ h := by simp only [Ev.deep] at hd; omega
    have hl : (evText (.br n a c)).length = (digs n).length + (evText a).length + (evText c).length + 4 := by simp [evText]; omega
    have hT : evText (.br n a c) = 40 :: (digs n ++ (44 :: (evText a ++ (44 :: (evText c ++ [41]))))) := by simp [evText]
    rw [hT] at ht
    have t1 := ht.tail
    have t2 := t1.right
    have t3 := t2.tail
    have t4 := t3.right
    have t5 := t4.tail
    have t6 := t5.right
    rw [hl]
    have nd : ∀ j, s.size ≤ j → isDig (nx s j) = false := fun j hj => by rw [nx_past s j hj]; rfl
    have n0 : ∀ j, s.size ≤ j → ∀ c : Nat, 0 < c → nx s j ≠ c := fun j hj c hc => by rw [nx_past s j hj]; omega
    by_cases g0 : i < s.size
    · have e0 : nx s i = 40 := ht.head g0
      have N := numR_text s n (i + 1) hp.1 t1.left (by omega)
      by_cases g1 : i + 1 + (digs n).length ≤ s.size
      · by_cases g2 : i + 1 + (digs n).length < s.size
        · have e1 : nx s (i + 1 + (digs n).length) = 44 := t2.head g2
          have f := N.1 g1 (by rw [e1]; rfl)
          have A := evR_text s a h (base + n) (i + 1 + (digs n).length + 1) r hd1 hp.2.2.2.1 t3.left (by omega)
          by_cases g3 : i + 1 + (digs n).length + 1 + (evText a).length < s.size
          · have e2 : nx s (i + 1 + (digs n).length + 1 + (evText a).length) = 44 := t4.head g3
            have f2 := A.1 (by omega) (by rw [e2]; rfl)
            have C := evR_text s c h (base + n) (i + 1 + (digs n).length + 1 + (evText a).length + 1) r hd2 hp.2.2.2.2 t5.left (by omega)
            by_cases g4 : i + 1 + (digs n).length + 1 + (evText a).length + 1 + (evText c).length < s.size
            · have e3 : nx s (i + 1 + (digs n).length + 1 + (evText a).length + 1 + (evText c).length) = 41 := t6.head g4
              have f3 := C.1 (by omega) (by rw [e3]; rfl)
              refine ⟨fun _ _ => ?_, fun h1 => by omega⟩
              rw [evR_pair e0 f e1 f2 e2 f3 e3, rough_no _ _ _ hp.2.1 hp.2.2.1,
                show i + ((digs n).length + (evText a).length + (evText c).length + 4) = i + 1 + (digs n).length + 1 + (evText a).length + 1 + (evText c).length + 1 by omega]
              rfl
            · refine ⟨fun h1 => by omega, fun _ => Or.inl ?_⟩
              by_cases g5 : i + 1 + (digs n).length + 1 + (evText a).length + 1 + (evText c).length = s.size
              · have f3 := C.1 (by omega) (nd _ (by omega))
                rw [evR_bad5 e0 f e1 f2 e2 f3 (n0 _ (by omega) 41 (by omega)), g5]
              · rcases C.2 (by omega) with f3 | ⟨_, _, m, _, f3⟩
                · exact evR_bad4 e0 f e1 f2 e2 f3
                · exact evR_bad5 e0 f e1 f2 e2 f3 (n0 _ (by omega) 41 (by omega))
          · refine ⟨fun h1 => by omega, fun _ => Or.inl ?_⟩
            by_cases g5 : i + 1 + (digs n).length + 1 + (evText a).length = s.size
            · have f2 := A.1 (by omega) (nd _ (by omega))
              rw [evR_bad3 e0 f e1 f2 (n0 _ (by omega) 44 (by omega)), g5]
            · rcases A.2 (by omega) with f2 | ⟨_, _, m, _, f2⟩
              · exact evR_bad2 e0 f e1 f2
              · exact evR_bad3 e0 f e1 f2 (n0 _ (by omega) 44 (by omega))
        · have f := N.1 g1 (nd _ (by omega))
          refine ⟨fun h1 => by omega, fun _ => Or.inl ?_⟩
          rw [evR_bad1 e0 f (n0 _ (by omega) 44 (by omega))]
          congr 1; omega
      · refine ⟨fun h1 => by omega, fun _ => Or.inl ?_⟩
        by_cases g5 : i + 1 = s.size
        · exact evR_bad0 e0 ((N.2 (by omega)).1 g5)
        · obtain ⟨m, _, f⟩ := (N.2 (by omega)).2 (by omega)
          exact evR_bad1 e0 f (n0 _ (by omega) 44 (by omega))
    · refine ⟨fun h1 => by omega, fun _ => Or.inl ?_⟩
      have e0 : nx s i = 0 := nx_past s i (by omega)
      refine evR_numbad (h + 1) (by omega) ?_
      unfold numR; rw [if_pos (by rw [e0]; rfl)]; congr 1; omega

end Go.Proofs.YtoebmfhgaalcdaaGreatDoor
