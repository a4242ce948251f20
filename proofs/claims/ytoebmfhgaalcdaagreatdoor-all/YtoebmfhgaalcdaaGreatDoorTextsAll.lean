/-
  Our own. What reading comes to at texts that were written, whole or cut off.
-/
import Derived.Test.YtoebmfhgaalcdaaGreatDoorKeepAll
import Derived.Test.YtoebmfhgaalcdaaGreatDoorWalkCheck
namespace Go.Proofs.YtoebmfhgaalcdaaGreatDoor

/-- From i on, as far as it goes, the text has t. -/
def Has (s : ByteArray) (i : Nat) (t : List UInt8) : Prop := ∀ j, j < t.length → i + j < s.size → nx s (i + j) = (t.getD j 0).toNat

theorem nx_past (s : ByteArray) (i : Nat) (h : s.size ≤ i) : nx s i = 0 := by
  unfold nx
  rw [List.getD_eq_getElem?_getD, List.getElem?_eq_none (by simpa using h)]; rfl

theorem Has.head {s : ByteArray} {i : Nat} {c : UInt8} {t : List UInt8} (h : Has s i (c :: t)) (hi : i < s.size) : nx s i = c.toNat := by
  have := h 0 (by simp) (by simpa using hi)
  simpa using this
theorem Has.tail {s : ByteArray} {i : Nat} {c : UInt8} {t : List UInt8} (h : Has s i (c :: t)) : Has s (i + 1) t := by
  intro j hj hi
  have := h (j + 1) (by simp; omega) (by omega)
  rw [show i + 1 + j = i + (j + 1) by omega, this]
  simp
theorem Has.left {s : ByteArray} {i : Nat} {t u : List UInt8} (h : Has s i (t ++ u)) : Has s i t := by
  intro j hj hi
  rw [h j (by simp; omega) hi]
  simp only [List.getD_eq_getElem?_getD]
  rw [List.getElem?_append_left hj]
theorem Has.right {s : ByteArray} {i : Nat} {t u : List UInt8} (h : Has s i (t ++ u)) : Has s (i + t.length) u := by
  intro j hj hi
  rw [show i + t.length + j = i + (t.length + j) by omega, h (t.length + j) (by simp; omega) (by omega)]
  simp only [List.getD_eq_getElem?_getD]
  rw [List.getElem?_append_right (by omega)]
  simp

/-- How deep, and plain, and the like. -/
def Tr.deep : Tr Bool → Nat
  | ⟨.inl _⟩ => 0
  | ⟨.inr (l, r)⟩ => max l.deep r.deep + 1
def plainB : Tr Bool → Prop
  | ⟨.inl _⟩ => True
  | ⟨.inr (l, r)⟩ => sameB l r = false ∧ plainB l ∧ plainB r

theorem idR_text (s : ByteArray) : ∀ (t : Tr Bool) (h i r : Nat), t.deep ≤ h → plainB t → Has s i (idText t) → i ≤ s.size →
    (i + (idText t).length ≤ s.size → idR s h i r = .ok t (i + (idText t).length) r) ∧ (s.size < i + (idText t).length → idR s h i r = .bad s.size)
  | ⟨.inl x⟩, h, i, r, _, _, ht, hi => by
    have hl : (idText (.leaf x)).length = 1 := by cases x <;> rfl
    rw [hl]
    refine ⟨fun h1 => ?_, fun h1 => ?_⟩
    · cases x
      · exact idR_zero h (ht.head (by omega))
      · exact idR_one h (ht.head (by omega))
    · have e : i = s.size := by omega
      have e0 : nx s i = 0 := nx_past s i (by omega)
      rw [← e]
      cases h with
      | zero => exact idR_deep (by omega) (by omega)
      | succ h => exact idR_bad0 (by omega) (by omega) (by omega)
  | ⟨.inr (a, c)⟩, 0, i, r, hd, _, _, _ => by simp [Tr.deep] at hd
  | ⟨.inr (a, c)⟩, h + 1, i, r, hd, hp, ht, hi => by
    have hd1 : a.deep ≤ h := by simp only [Tr.deep] at hd; omega
    have hd2 : c.deep ≤ h := by simp only [Tr.deep] at hd; omega
    have hl : (idText (.pair a c)).length = (idText a).length + (idText c).length + 3 := by simp [idText]; omega
    have hT : idText (.pair a c) = 40 :: (idText a ++ (44 :: (idText c ++ [41]))) := by simp [idText]
    rw [hT] at ht
    have t1 := ht.tail
    have t2 := t1.right
    have t3 := t2.tail
    have t4 := t3.right
    rw [hl]
    by_cases g0 : i < s.size
    · have e0 : nx s i = 40 := ht.head g0
      have A := idR_text s a h (i + 1) r hd1 hp.2.1 t1.left (by omega)
      by_cases g1 : i + 1 + (idText a).length ≤ s.size
      · have f1 := A.1 g1
        by_cases g2 : i + 1 + (idText a).length < s.size
        · have e1 : nx s (i + 1 + (idText a).length) = 44 := t2.head g2
          have C := idR_text s c h (i + 1 + (idText a).length + 1) r hd2 hp.2.2 t3.left (by omega)
          by_cases g3 : i + 1 + (idText a).length + 1 + (idText c).length ≤ s.size
          · have f2 := C.1 g3
            by_cases g4 : i + 1 + (idText a).length + 1 + (idText c).length < s.size
            · have e2 : nx s (i + 1 + (idText a).length + 1 + (idText c).length) = 41 := t4.head g4
              refine ⟨fun _ => ?_, fun h1 => by omega⟩
              rw [idR_pair e0 f1 e1 f2 e2, hp.1, show i + ((idText a).length + (idText c).length + 3) = i + 1 + (idText a).length + 1 + (idText c).length + 1 by omega]
              rfl
            · have e2 : nx s (i + 1 + (idText a).length + 1 + (idText c).length) = 0 := nx_past s _ (by omega)
              refine ⟨fun h1 => by omega, fun _ => ?_⟩
              rw [idR_bad4 e0 f1 e1 f2 (by omega)]
              congr 1; omega
          · exact ⟨fun h1 => by omega, fun _ => idR_bad3 e0 f1 e1 (C.2 (by omega))⟩
        · have e1 : nx s (i + 1 + (idText a).length) = 0 := nx_past s _ (by omega)
          refine ⟨fun h1 => by omega, fun _ => ?_⟩
          rw [idR_bad2 e0 f1 (by omega)]
          congr 1; omega
      · exact ⟨fun h1 => by omega, fun _ => idR_bad1 e0 (A.2 (by omega))⟩
    · have e0 : nx s i = 0 := nx_past s i (by omega)
      refine ⟨fun h1 => by omega, fun _ => ?_⟩
      rw [idR_bad0 (by omega) (by omega) (by omega)]
      congr 1; omega

/-- What digits come to. -/
def valD (n : Nat) (ds : List UInt8) : Nat := ds.foldl (fun a c => 10 * a + (c.toNat - 48)) n
theorem valD_nil (n : Nat) : valD n [] = n := by simp only [valD, List.foldl_nil]
theorem valD_cons (n : Nat) (c : UInt8) (ds : List UInt8) : valD n (c :: ds) = valD (10 * n + (c.toNat - 48)) ds := by simp only [valD, List.foldl_cons]
def allD : List UInt8 → Prop
  | [] => True
  | c :: ds => (48 ≤ c.toNat ∧ c.toNat ≤ 57) ∧ allD ds

theorem valD_le : ∀ (ds : List UInt8) (n : Nat), n ≤ valD n ds
  | [], n => by rw [valD_nil]; exact Nat.le_refl _
  | c :: ds, n => by
    have := valD_le ds (10 * n + (c.toNat - 48))
    rw [valD_cons]; omega
theorem valD_snoc (ds : List UInt8) (n : Nat) (c : UInt8) : valD n (ds ++ [c]) = 10 * valD n ds + (c.toNat - 48) := by
  simp only [valD, List.foldl_append, List.foldl_cons, List.foldl_nil]
theorem allD_snoc : ∀ (ds : List UInt8) (c : UInt8), allD ds → 48 ≤ c.toNat ∧ c.toNat ≤ 57 → allD (ds ++ [c])
  | [], _, _, h => ⟨h, trivial⟩
  | _ :: ds, c, h, hc => ⟨h.1, allD_snoc ds c h.2 hc⟩

theorem dig_nat (n : Nat) (h : n < 10) : (UInt8.ofNat (48 + n)).toNat = 48 + n := UInt8.toNat_ofNat_of_lt' (by show 48 + n < 256; omega)

theorem digs_val (n : Nat) : valD 0 (digs n) = n ∧ allD (digs n) ∧ (0 < n → ∃ c ds, digs n = c :: ds ∧ c.toNat ≠ 48) := by
  induction n using Nat.strongRecOn with
  | _ n ih =>
    by_cases h : n < 10
    · rw [digs_one n h]
      have e := dig_nat n h
      refine ⟨?_, ⟨by omega, trivial⟩, fun hp => ⟨_, [], rfl, by omega⟩⟩
      rw [valD_cons, valD_nil]; omega
    · rw [digs_more n h]
      obtain ⟨h1, h2, h3⟩ := ih (n / 10) (by omega)
      have e := dig_nat (n % 10) (by omega)
      refine ⟨?_, allD_snoc _ _ h2 (by omega), fun _ => ?_⟩
      · rw [valD_snoc, h1, e]; omega
      · obtain ⟨c, ds, hc, hn⟩ := h3 (by omega)
        exact ⟨c, ds ++ [UInt8.ofNat (48 + n % 10)], by rw [hc]; rfl, hn⟩

theorem numGo_text (s : ByteArray) : ∀ (ds : List UInt8) (n i : Nat), allD ds → Has s i ds → i ≤ s.size → valD n ds ≤ 1099511627776 →
    (i + ds.length ≤ s.size → isDig (nx s (i + ds.length)) = false → numGo s (s.size + 1 - i) i n = .ok (valD n ds) (i + ds.length)) ∧
    (s.size < i + ds.length → ∃ m, m ≤ 1099511627776 ∧ numGo s (s.size + 1 - i) i n = .ok m s.size)
  | [], n, i, _, _, hi, _ => by rw [valD_nil]; exact ⟨fun _ h2 => numGo_end s i n hi h2, fun h => by simp at h; omega⟩
  | c :: ds, n, i, hd, ht, hi, hv => by
    by_cases g : i < s.size
    · have e := ht.head g
      have hg : isDig (nx s i) = true := (isDig_iff _).2 (by rw [e]; exact hd.1)
      have hle := valD_le ds (10 * n + (c.toNat - 48))
      rw [valD_cons] at hv
      have hno : ¬ 1099511627776 < 10 * n + (nx s i - 48) := by rw [e]; omega
      have R := numGo_text s ds (10 * n + (c.toNat - 48)) (i + 1) hd.2 ht.tail (by omega) hv
      rw [numGo_step s i n g hg hno, e, valD_cons]
      simp only [List.length_cons]
      rw [show i + (ds.length + 1) = i + 1 + ds.length by omega]
      exact R
    · have e0 : nx s i = 0 := nx_past s i (by omega)
      have hg : isDig (nx s i) = false := by rw [e0]; rfl
      simp only [List.length_cons]
      refine ⟨fun h => by omega, fun _ => ⟨n, ?_, ?_⟩⟩
      · have := valD_le (c :: ds) n; omega
      · rw [numGo_end s i n hi hg]; congr 1; omega

theorem numR_text (s : ByteArray) (n i : Nat) (hn : n ≤ 1099511627776) (ht : Has s i (digs n)) (hi : i ≤ s.size) :
    (i + (digs n).length ≤ s.size → isDig (nx s (i + (digs n).length)) = false → numR s i = .ok n (i + (digs n).length)) ∧
    (s.size < i + (digs n).length → (i = s.size → numR s i = .bad s.size) ∧ (i < s.size → ∃ m, m ≤ 1099511627776 ∧ numR s i = .ok m s.size)) := by
  obtain ⟨v1, v2, v3⟩ := digs_val n
  have hp := digs_pos n
  by_cases g : i < s.size
  · by_cases z : n = 0
    · subst z
      have ed : digs 0 = [48] := (digs_zero 0).2 rfl
      rw [ed] at ht ⊢
      have e := ht.head g
      have e' : nx s i = 48 := e
      have R : numR s i = .ok 0 (i + 1) := by
        unfold numR; rw [if_neg (by rw [e']; decide), if_pos e']
      refine ⟨fun _ _ => R, fun h => ?_⟩
      simp at h; omega
    · obtain ⟨c, ds, hc, hne⟩ := v3 (by omega)
      have e : nx s i = c.toNat := by rw [hc] at ht; exact ht.head g
      have hd : 48 ≤ c.toNat ∧ c.toNat ≤ 57 := by rw [hc] at v2; exact v2.1
      have R : numR s i = numGo s (s.size + 1 - i) i 0 := by
        unfold numR; rw [if_neg (by rw [(isDig_iff _).2 (by omega)]; decide), if_neg (by omega)]
      have N := numGo_text s (digs n) 0 i v2 ht hi (by omega)
      rw [R, v1] at *
      exact ⟨N.1, fun h => ⟨fun h2 => by omega, fun _ => N.2 h⟩⟩
  · have e0 : nx s i = 0 := nx_past s i (by omega)
    refine ⟨fun h => by omega, fun _ => ⟨fun h2 => ?_, fun h2 => by omega⟩⟩
    unfold numR; rw [if_pos (by rw [e0]; rfl), h2]

/-- The number in front. -/
def front : Ev → Nat
  | ⟨n, _⟩ => n
def Ev.deep : Ev → Nat
  | ⟨_, none⟩ => 0
  | ⟨_, some (l, r)⟩ => max l.deep r.deep + 1
/-- Plain, all numbers within the bound. -/
def plainE : Ev → Prop
  | ⟨n, none⟩ => n ≤ 1099511627776
  | ⟨n, some (l, r)⟩ => n ≤ 1099511627776 ∧ (front l = 0 ∨ front r = 0) ∧ (isZero l && isZero r) = false ∧ plainE l ∧ plainE r
/-- The cells' numbers. -/
def evTree (base : Nat) : Ev → Tr Nat
  | ⟨n, none⟩ => .leaf (base + n)
  | ⟨n, some (l, r)⟩ => .pair (evTree (base + n) l) (evTree (base + n) r)

theorem rough_no (base : Nat) (l r : Ev) (h1 : front l = 0 ∨ front r = 0) (h2 : (isZero l && isZero r) = false) : (decide (0 < front l) && decide (0 < front r) || sameI (evTree base l) (evTree base r)) = false := by
  rw [Bool.or_eq_false_iff]
  refine ⟨?_, ?_⟩
  · rw [Bool.and_eq_false_iff]; simp only [decide_eq_false_iff_not]; omega
  · cases l using Ev.cs with
    | br n a b => rfl
    | num n =>
      cases r using Ev.cs with
      | br m a b => rfl
      | num m =>
        simp only [front] at h1
        have hnm : n ≠ m := by
          rintro rfl
          have : n = 0 := by omega
          subst this; simp [isZero] at h2
        simp only [evTree, sameI, beq_eq_false_iff_ne]
        omega

theorem evText_head (e : Ev) : ∃ c t, evText e = c :: t ∧ ((∃ n, e = .num n) → c.toNat ≠ 40 ) ∧ ((∃ n l r, e = .br n l r) → c = 40) := by
  cases e using Ev.cs with
  | num n =>
    obtain ⟨v1, v2, v3⟩ := digs_val n
    cases hd : digs n with
    | nil => have := digs_pos n; rw [hd] at this; simp at this
    | cons c t =>
      refine ⟨c, t, hd, fun _ => ?_, ?_⟩
      · rw [hd] at v2; have := v2.1; omega
      · rintro ⟨n, l, r, h⟩; cases h
  | br n l r =>
    refine ⟨40, digs n ++ 44 :: evText l ++ 44 :: evText r ++ [41], by simp [evText], ?_, fun _ => rfl⟩
    rintro ⟨n, h⟩; cases h

theorem evR_text (s : ByteArray) : ∀ (e : Ev) (h base i r : Nat), e.deep ≤ h → plainE e → Has s i (evText e) → i ≤ s.size →
    (i + (evText e).length ≤ s.size → isDig (nx s (i + (evText e).length)) = false → evR s h base i r = .ok (evTree base e, front e) (i + (evText e).length) r) ∧
    (s.size < i + (evText e).length → evR s h base i r = .bad s.size ∨ (i < s.size ∧ (∃ n, e = .num n) ∧ ∃ m, m ≤ 1099511627776 ∧ evR s h base i r = .ok (.leaf (base + m), m) s.size r))
  | ⟨n, none⟩, h, base, i, r, _, hp, ht, hi => by
    have N := numR_text s n i hp ht hi
    have n40 : nx s i ≠ 40 := by
      by_cases g : i < s.size
      · obtain ⟨c, t, hc, h1, _⟩ := evText_head (.num n)
        rw [hc] at ht
        rw [ht.head g]; exact h1 ⟨n, rfl⟩
      · rw [nx_past s i (by omega)]; omega
    refine ⟨fun h1 h2 => evR_num h n40 (N.1 h1 h2), fun h1 => ?_⟩
    by_cases g : i < s.size
    · obtain ⟨m, hm, f⟩ := (N.2 h1).2 g
      exact Or.inr ⟨g, ⟨n, rfl⟩, m, hm, evR_num h n40 f⟩
    · exact Or.inl (evR_numbad h n40 ((N.2 h1).1 (by omega)))
  | ⟨n, some (a, c)⟩, 0, base, i, r, hd, _, _, _ => by simp [Ev.deep] at hd
  | ⟨n, some (a, c)⟩, h + 1, base, i, r, hd, hp, ht, hi => by
    have hd1 : a.deep ≤ h := by simp only [Ev.deep] at hd; omega
    have hd2 : c.deep ≤ h := by simp only [Ev.deep] at hd; omega
    have hl : (evText (.br n a c)).length = (digs n).length + (evText a).length + (evText c).length + 4 := by simp [evText]; omega
    have hT : evText (.br n a c) = 40 :: (digs n ++ (44 :: (evText a ++ (44 :: (evText c ++ [41]))))) := by simp [evText]
    rw [hT] at ht
    have t1 := ht.tail
    have t2 := t1.right
    have t3 := t2.tail
    have t4 := t3.right
    have t5 := t4.tail
    have t6 := t5.right
    rw [hl]
    have nd : ∀ j, s.size ≤ j → isDig (nx s j) = false := fun j hj => by rw [nx_past s j hj]; rfl
    have n0 : ∀ j, s.size ≤ j → ∀ c : Nat, 0 < c → nx s j ≠ c := fun j hj c hc => by rw [nx_past s j hj]; omega
    by_cases g0 : i < s.size
    · have e0 : nx s i = 40 := ht.head g0
      have N := numR_text s n (i + 1) hp.1 t1.left (by omega)
      by_cases g1 : i + 1 + (digs n).length ≤ s.size
      · by_cases g2 : i + 1 + (digs n).length < s.size
        · have e1 : nx s (i + 1 + (digs n).length) = 44 := t2.head g2
          have f := N.1 g1 (by rw [e1]; rfl)
          have A := evR_text s a h (base + n) (i + 1 + (digs n).length + 1) r hd1 hp.2.2.2.1 t3.left (by omega)
          by_cases g3 : i + 1 + (digs n).length + 1 + (evText a).length < s.size
          · have e2 : nx s (i + 1 + (digs n).length + 1 + (evText a).length) = 44 := t4.head g3
            have f2 := A.1 (by omega) (by rw [e2]; rfl)
            have C := evR_text s c h (base + n) (i + 1 + (digs n).length + 1 + (evText a).length + 1) r hd2 hp.2.2.2.2 t5.left (by omega)
            by_cases g4 : i + 1 + (digs n).length + 1 + (evText a).length + 1 + (evText c).length < s.size
            · have e3 : nx s (i + 1 + (digs n).length + 1 + (evText a).length + 1 + (evText c).length) = 41 := t6.head g4
              have f3 := C.1 (by omega) (by rw [e3]; rfl)
              refine ⟨fun _ _ => ?_, fun h1 => by omega⟩
              rw [evR_pair e0 f e1 f2 e2 f3 e3, rough_no _ _ _ hp.2.1 hp.2.2.1,
                show i + ((digs n).length + (evText a).length + (evText c).length + 4) = i + 1 + (digs n).length + 1 + (evText a).length + 1 + (evText c).length + 1 by omega]
              rfl
            · refine ⟨fun h1 => by omega, fun _ => Or.inl ?_⟩
              by_cases g5 : i + 1 + (digs n).length + 1 + (evText a).length + 1 + (evText c).length = s.size
              · have f3 := C.1 (by omega) (nd _ (by omega))
                rw [evR_bad5 e0 f e1 f2 e2 f3 (n0 _ (by omega) 41 (by omega)), g5]
              · rcases C.2 (by omega) with f3 | ⟨_, _, m, _, f3⟩
                · exact evR_bad4 e0 f e1 f2 e2 f3
                · exact evR_bad5 e0 f e1 f2 e2 f3 (n0 _ (by omega) 41 (by omega))
          · refine ⟨fun h1 => by omega, fun _ => Or.inl ?_⟩
            by_cases g5 : i + 1 + (digs n).length + 1 + (evText a).length = s.size
            · have f2 := A.1 (by omega) (nd _ (by omega))
              rw [evR_bad3 e0 f e1 f2 (n0 _ (by omega) 44 (by omega)), g5]
            · rcases A.2 (by omega) with f2 | ⟨_, _, m, _, f2⟩
              · exact evR_bad2 e0 f e1 f2
              · exact evR_bad3 e0 f e1 f2 (n0 _ (by omega) 44 (by omega))
        · have f := N.1 g1 (nd _ (by omega))
          refine ⟨fun h1 => by omega, fun _ => Or.inl ?_⟩
          rw [evR_bad1 e0 f (n0 _ (by omega) 44 (by omega))]
          congr 1; omega
      · refine ⟨fun h1 => by omega, fun _ => Or.inl ?_⟩
        by_cases g5 : i + 1 = s.size
        · exact evR_bad0 e0 ((N.2 (by omega)).1 g5)
        · obtain ⟨m, _, f⟩ := (N.2 (by omega)).2 (by omega)
          exact evR_bad1 e0 f (n0 _ (by omega) 44 (by omega))
    · refine ⟨fun h1 => by omega, fun _ => Or.inl ?_⟩
      have e0 : nx s i = 0 := nx_past s i (by omega)
      refine evR_numbad (h + 1) (by omega) ?_
      unfold numR; rw [if_pos (by rw [e0]; rfl)]; congr 1; omega

end Go.Proofs.YtoebmfhgaalcdaaGreatDoor

namespace Go.Proofs.YtoebmfhgaalcdaaGreatDoor

theorem joinB_deep (a b : Tr Bool) (h : Nat) (ha : a.deep ≤ h) (hb : b.deep ≤ h) : (joinB a b).deep ≤ h + 1 := by
  by_cases g : idText a = idText b ∧ (idText a).length = 1
  · obtain ⟨x, rfl⟩ := idText_leaf a g.2
    obtain ⟨y, rfl⟩ := idText_leaf b (by rw [← g.1]; exact g.2)
    cases x <;> cases y <;> simp [joinB, Tr.deep]
  · rw [joinB_diff a b g]; simp only [Tr.deep]; omega
theorem joinB_plain (a b : Tr Bool) (ha : plainB a) (hb : plainB b) : plainB (joinB a b) := by
  cases a using Tr.cs with
  | pair l r => exact ⟨rfl, ha, hb⟩
  | leaf x =>
    cases b using Tr.cs with
    | pair l r => exact ⟨rfl, ha, hb⟩
    | leaf y =>
      by_cases e : x = y
      · simp [joinB, e, plainB]
      · simp only [joinB, if_neg e]
        refine ⟨?_, trivial, trivial⟩
        simp only [sameB, beq_eq_false_iff_ne]; exact e

theorem anIdP_deep (l : List Int) : ∀ (h i : Nat), (anIdP l h i).1.deep ≤ h ∧ plainB (anIdP l h i).1
  | 0, i => ⟨Nat.le_refl _, trivial⟩
  | h + 1, i => by
    rw [anIdP]
    split
    · exact ⟨by simp [Tr.deep], trivial⟩
    · have h1 := anIdP_deep l h (rawI l i)
      have h2 := anIdP_deep l h (anIdP l h (rawI l i)).2
      exact ⟨joinB_deep _ _ _ h1.1 h2.1, joinB_plain _ _ h1.2 h2.2⟩

/-- All numbers are small. -/
def small : Ev → Prop
  | ⟨n, none⟩ => n < 60
  | ⟨n, some (l, r)⟩ => n < 60 ∧ small l ∧ small r

theorem high_small : ∀ (e : Ev) (base : Nat), small e → highest (evTree base e) ≤ base + 60 * (e.deep + 1)
  | ⟨n, none⟩, base, h => by simp only [evTree, highest, Ev.deep, small] at *; omega
  | ⟨n, some (l, r)⟩, base, h => by
    have h1 := high_small l (base + n) h.2.1
    have h2 := high_small r (base + n) h.2.2
    have h0 := h.1
    simp only [evTree, highest, Ev.deep]
    omega

theorem front_joinE (n : Nat) (a b : Ev) : front (joinE n a b) = n := by unfold joinE; split <;> rfl
theorem joinE_props (n : Nat) (a b : Ev) (h : Nat) (hn : n < 60) (ha : a.deep ≤ h) (hb : b.deep ≤ h) (sa : small a) (sb : small b) (pa : plainE a) (pb : plainE b) (hf : front a = 0 ∨ front b = 0) :
    (joinE n a b).deep ≤ h + 1 ∧ small (joinE n a b) ∧ plainE (joinE n a b) := by
  unfold joinE
  split
  · exact ⟨by simp [Ev.deep], hn, by simp only [plainE]; omega⟩
  · rename_i g
    exact ⟨by simp only [Ev.deep]; omega, ⟨hn, sa, sb⟩, by omega, hf, by simpa using g, pa, pb⟩

theorem anEvP_props (l : List Int) : ∀ (h : Nat) (low : Bool) (i : Nat), (anEvP l h low i).1.deep ≤ h ∧ small (anEvP l h low i).1 ∧ plainE (anEvP l h low i).1 ∧ (low = true → front (anEvP l h low i).1 = 0)
  | 0, low, i => by
    have := low60 low l i
    refine ⟨Nat.le_refl _, this, by simp only [anEvP, plainE]; omega, fun e => by simp [anEvP, front, e]⟩
  | h + 1, low, i => by
    have hn := low60 low l i
    rw [anEvP]
    split
    · exact ⟨by simp [Ev.deep], hn, by simp only [plainE]; omega, fun e => by simp [front, e]⟩
    · have h1 := anEvP_props l h (rawP l (rawI l (rawI l i)) 2 == 0) (rawI l (rawI l (rawI l i)))
      have h2 := anEvP_props l h (!(rawP l (rawI l (rawI l i)) 2 == 0)) (anEvP l h (rawP l (rawI l (rawI l i)) 2 == 0) (rawI l (rawI l (rawI l i)))).2
      have hf : front (anEvP l h (rawP l (rawI l (rawI l i)) 2 == 0) (rawI l (rawI l (rawI l i)))).1 = 0 ∨ front (anEvP l h (!(rawP l (rawI l (rawI l i)) 2 == 0)) (anEvP l h (rawP l (rawI l (rawI l i)) 2 == 0) (rawI l (rawI l (rawI l i)))).2).1 = 0 := by
        cases g : (rawP l (rawI l (rawI l i)) 2 == 0)
        · right; have := h2.2.2.2; rw [g] at this; exact this rfl
        · left; have := h1.2.2.2; rw [g] at this; exact this rfl
      have J := joinE_props _ _ _ h hn h1.1 h2.1 h1.2.1 h2.2.1 h1.2.2.1 h2.2.2.1 hf
      exact ⟨J.1, J.2.1, J.2.2, fun e => by simp only [front_joinE, e, if_true]⟩

/-- What is needed of an ID and an EV that are read. -/
structure Good (t : Tr Bool) (e : Ev) : Prop where
  dt : t.deep ≤ 8
  pt : plainB t
  de : e.deep ≤ 8
  pe : plainE e
  hi : highest (evTree 0 e) ≤ 1099511627776

theorem stamp_good (l : List Int) : Good (stampId l) (stampEv l) := by
  have h1 := anIdP_deep l 8 0
  have h2 := anEvP_props l 8 false (anIdP l 8 0).2
  refine ⟨h1.1, h1.2, h2.1, h2.2.2.1, ?_⟩
  have h3 := high_small _ 0 h2.2.1
  have h4 := h2.1
  show highest (evTree 0 (anEvP l 8 false (anIdP l 8 0).2).1) ≤ _
  omega

theorem evText_pos (e : Ev) : 1 ≤ (evText e).length := by
  obtain ⟨c, t, h, _⟩ := evText_head e
  rw [h]; simp

/-- Reading a text that begins so, as far as it goes. -/
theorem readR_text {s : ByteArray} {t : Tr Bool} {e : Ev} (hs : s.size ≤ 20000) (G : Good t e) (H : Has s 0 (idText t ++ 59 :: evText e)) :
    (s.size = (idText t).length + 1 + (evText e).length → readR s = .ok t (evTree 0 e)) ∧
    ((idText t).length + 1 + (evText e).length < s.size → isDig (nx s ((idText t).length + 1 + (evText e).length)) = false → readR s = .bad 2 ((idText t).length + 1 + (evText e).length)) ∧
    (s.size < (idText t).length + 1 + (evText e).length → readR s = .bad 2 s.size ∨ ((∃ n, e = .num n) ∧ (idText t).length + 1 < s.size ∧ ∃ id ev, readR s = .ok id ev)) := by
  have I := idR_text s t 8 0 s.size G.dt G.pt H.left (by omega)
  have H2 := H.right
  simp only [Nat.zero_add] at I H2
  have hp := evText_pos e
  by_cases g0 : (idText t).length < s.size
  · have f := I.1 (by omega)
    have e0 : nx s (idText t).length = 59 := H2.head g0
    have E := evR_text s e 8 0 ((idText t).length + 1) s.size G.de G.pe H2.tail (by omega)
    refine ⟨fun h1 => ?_, fun h1 h2 => ?_, fun h1 => ?_⟩
    · have f2 := E.1 (by omega) (by rw [nx_past s _ (by omega)]; rfl)
      exact readR_ok hs f e0 f2 (by omega) (by have := G.hi; omega) (by omega)
    · exact readR_bad3 hs f e0 (E.1 (by omega) h2) h1
    · rcases E.2 h1 with f2 | ⟨g1, g2, m, hm, f2⟩
      · exact Or.inl (readR_bad2 hs f e0 f2)
      · refine Or.inr ⟨g2, g1, _, _, readR_ok hs f e0 f2 (by omega) ?_ (by omega)⟩
        simp only [highest]; omega
  · refine ⟨fun h1 => by omega, fun h1 => by omega, fun _ => Or.inl ?_⟩
    by_cases g1 : (idText t).length = s.size
    · have f := I.1 (by omega)
      rw [readR_bad1 hs f (by rw [nx_past s _ (by omega)]; omega), g1]
    · exact readR_bad0 hs (I.2 (by omega))

theorem nx_strOf (T : List UInt8) (i : Nat) : nx (strOf T) i = (T.getD i 0).toNat := rfl

theorem has_prefix (U V : List UInt8) : Has (strOf (U ++ V)) 0 U := by
  intro j hj _
  rw [nx_strOf, Nat.zero_add]
  simp only [List.getD_eq_getElem?_getD]
  rw [List.getElem?_append_left hj]
theorem has_take (T : List UInt8) (k : Nat) : Has (strOf (T.take k)) 0 T := by
  intro j hj hi
  rw [strOf_size, List.length_take] at hi
  rw [nx_strOf, Nat.zero_add]
  simp only [List.getD_eq_getElem?_getD]
  rw [List.getElem?_take_of_lt (by omega)]

theorem chk_of_ok {s : ByteArray} {id : Tr Bool} {ev : Tr Nat} (h : readR s = .ok id ev) : chk s = (0, 0) := by unfold chk; rw [h]
theorem chk_of_bad {s : ByteArray} {e p : Nat} (h : readR s = .bad e p) : chk s = (e, p) := by unfold chk; rw [h]

variable {t : Tr Bool} {e : Ev}

/-- The whole text. -/
def whole (t : Tr Bool) (e : Ev) : List UInt8 := idText t ++ 59 :: evText e
theorem whole_len (t : Tr Bool) (e : Ev) : (whole t e).length = (idText t).length + 1 + (evText e).length := by simp [whole]; omega

theorem chk_whole (G : Good t e) (hl : (whole t e).length ≤ 20000) : chk (strOf (whole t e)) = (0, 0) := by
  have H := has_prefix (whole t e) []
  rw [List.append_nil] at H
  have R := readR_text (by rw [strOf_size]; exact hl) G H
  exact chk_of_ok (R.1 (by rw [strOf_size, whole_len]))

theorem allD_getD : ∀ (ds : List UInt8) (j : Nat), allD ds → j < ds.length → 48 ≤ (ds.getD j 0).toNat ∧ (ds.getD j 0).toNat ≤ 57
  | [], j, _, h => by simp at h
  | c :: ds, 0, h, _ => by simpa using h.1
  | c :: ds, j + 1, h, hj => by simpa using allD_getD ds j h.2 (by simpa using hj)

theorem whole_getD (t : Tr Bool) (e : Ev) (j : Nat) : (whole t e).getD ((idText t).length + 1 + j) 0 = (evText e).getD j 0 := by
  simp only [whole, List.getD_eq_getElem?_getD]
  rw [List.getElem?_append_right (by omega)]
  rw [show (idText t).length + 1 + j - (idText t).length = j + 1 by omega]
  simp

/-- Cut off. -/
theorem chk_cut (G : Good t e) (hl : (whole t e).length ≤ 20000) (k : Nat) (hk : k < (whole t e).length) :
    chk (strOf ((whole t e).take k)) = (2, k) ∨ (chk (strOf ((whole t e).take k)) = (0, 0) ∧ 1 ≤ k ∧ (48 ≤ ((whole t e).getD (k - 1) 0).toNat ∧ ((whole t e).getD (k - 1) 0).toNat ≤ 57) ∧ (48 ≤ ((whole t e).getD k 0).toNat ∧ ((whole t e).getD k 0).toNat ≤ 57)) := by
  have H := has_take (whole t e) k
  have hz : (strOf ((whole t e).take k)).size = k := by rw [strOf_size, List.length_take]; omega
  have R := (readR_text (by omega) G H).2.2 (by rw [hz]; rw [whole_len] at hk; exact hk)
  rcases R with R | ⟨⟨n, rfl⟩, R1, id, ev, R2⟩
  · left; rw [chk_of_bad R, hz]
  · right
    rw [hz] at R1
    obtain ⟨v1, v2, v3⟩ := digs_val n
    rw [whole_len] at hk
    have a1 := allD_getD (digs n) (k - 1 - ((idText t).length + 1)) v2 (by simp only [evText] at hk; omega)
    have a2 := allD_getD (digs n) (k - ((idText t).length + 1)) v2 (by simp only [evText] at hk; omega)
    have b1 := whole_getD t (.num n) (k - 1 - ((idText t).length + 1))
    have b2 := whole_getD t (.num n) (k - ((idText t).length + 1))
    rw [show (idText t).length + 1 + (k - 1 - ((idText t).length + 1)) = k - 1 by omega] at b1
    rw [show (idText t).length + 1 + (k - ((idText t).length + 1)) = k by omega] at b2
    simp only [evText] at b1 b2
    refine ⟨chk_of_ok R2, by omega, ?_, ?_⟩
    · rw [b1]; exact a1
    · rw [b2]; exact a2

/-- A byte more. -/
theorem chk_more (G : Good t e) (hl : (whole t e).length ≤ 19999) : chk (strOf (whole t e ++ [41])) = (2, (whole t e).length) := by
  have H := has_prefix (whole t e) [41]
  have hz : (strOf (whole t e ++ [41])).size = (whole t e).length + 1 := by rw [strOf_size]; simp
  have R := (readR_text (by omega) G H).2.1 (by rw [hz, ← whole_len]; omega) (by
    rw [← whole_len, nx_strOf]
    simp only [List.getD_eq_getElem?_getD]
    rw [List.getElem?_append_right (Nat.le_refl _)]
    simp [isDig])
  rw [chk_of_bad R, whole_len]

end Go.Proofs.YtoebmfhgaalcdaaGreatDoor

namespace Go.Proofs.YtoebmfhgaalcdaaGreatDoor
variable {t : Tr Bool} {e : Ev}

/-- Brackets whose two EVs both have a number above 0 in front. -/
theorem evR_rough {s : ByteArray} {n : Nat} {a c : Ev} {h base i r : Nat} (hd1 : a.deep ≤ h) (hd2 : c.deep ≤ h) (hn : n ≤ 1099511627776) (pa : plainE a) (pc : plainE c) (fa : 0 < front a) (fc : 0 < front c)
    (ht : Has s i (evText (.br n a c))) (hi : i + (evText (.br n a c)).length ≤ s.size) :
    evR s (h + 1) base i r = .ok (evTree base (.br n a c), n) (i + (evText (.br n a c)).length) (min r i) := by
  have hl : (evText (.br n a c)).length = (digs n).length + (evText a).length + (evText c).length + 4 := by simp [evText]; omega
  have hT : evText (.br n a c) = 40 :: (digs n ++ (44 :: (evText a ++ (44 :: (evText c ++ [41]))))) := by simp [evText]
  rw [hT] at ht
  rw [hl] at hi ⊢
  have t1 := ht.tail
  have t2 := t1.right
  have t3 := t2.tail
  have t4 := t3.right
  have t5 := t4.tail
  have t6 := t5.right
  have e0 : nx s i = 40 := ht.head (by omega)
  have e1 : nx s (i + 1 + (digs n).length) = 44 := t2.head (by omega)
  have f := (numR_text s n (i + 1) hn t1.left (by omega)).1 (by omega) (by rw [e1]; rfl)
  have e2 : nx s (i + 1 + (digs n).length + 1 + (evText a).length) = 44 := t4.head (by omega)
  have f2 := (evR_text s a h (base + n) (i + 1 + (digs n).length + 1) r hd1 pa t3.left (by omega)).1 (by omega) (by rw [e2]; rfl)
  have e3 : nx s (i + 1 + (digs n).length + 1 + (evText a).length + 1 + (evText c).length) = 41 := t6.head (by omega)
  have f3 := (evR_text s c h (base + n) (i + 1 + (digs n).length + 1 + (evText a).length + 1) r hd2 pc t5.left (by omega)).1 (by omega) (by rw [e3]; rfl)
  rw [evR_pair e0 f e1 f2 e2 f3 e3, if_pos (by simp [fa, fc]),
    show i + ((digs n).length + (evText a).length + (evText c).length + 4) = i + 1 + (digs n).length + 1 + (evText a).length + 1 + (evText c).length + 1 by omega]
  rfl

/-- An ID, and an EV that is not plain at its outermost brackets. -/
theorem chk_rough (n : Nat) (a c : Ev) (dt : t.deep ≤ 8) (pt : plainB t) (hd1 : a.deep ≤ 7) (hd2 : c.deep ≤ 7) (hn : n ≤ 1099511627776) (pa : plainE a) (pc : plainE c) (fa : 0 < front a) (fc : 0 < front c)
    (hh : highest (evTree 0 (.br n a c)) ≤ 1099511627776) (hl : (whole t (.br n a c)).length ≤ 20000) : chk (strOf (whole t (.br n a c))) = (3, (idText t).length + 1) := by
  have H := has_prefix (whole t (.br n a c)) []
  rw [List.append_nil] at H
  have hz : (strOf (whole t (.br n a c))).size = (idText t).length + 1 + (evText (.br n a c)).length := by rw [strOf_size, whole_len]
  have hs : (strOf (whole t (.br n a c))).size ≤ 20000 := by rw [strOf_size]; exact hl
  have hp := evText_pos (.br n a c)
  generalize strOf (whole t (.br n a c)) = s at *
  have I := idR_text s t 8 0 s.size dt pt H.left (by omega)
  have H2 := H.right
  simp only [Nat.zero_add] at I H2
  have f := I.1 (by omega)
  have e0 : nx s (idText t).length = 59 := H2.head (by omega)
  have f2 := evR_rough (base := 0) (r := s.size) hd1 hd2 hn pa pc fa fc H2.tail (by omega)
  have R := readR_bad5 hs f e0 f2 (by omega) (by omega) (by omega)
  rw [chk_of_bad R]
  congr 1; omega

/-- '(1,1)' in the ID's place. -/
theorem chk_ones (G : Good t e) (hl : (evText e).length ≤ 19990) : chk (strOf ([40, 49, 44, 49, 41] ++ 59 :: evText e)) = (3, 0) := by
  have H := has_prefix ([40, 49, 44, 49, 41] ++ 59 :: evText e) []
  rw [List.append_nil] at H
  have hz : (strOf ([40, 49, 44, 49, 41] ++ 59 :: evText e)).size = 6 + (evText e).length := by rw [strOf_size]; simp; omega
  have hp := evText_pos e
  generalize strOf ([40, 49, 44, 49, 41] ++ 59 :: evText e) = s at *
  have c0 : nx s 0 = 40 := H.head (by omega)
  have c1 : nx s 1 = 49 := H.tail.head (by omega)
  have c2 : nx s 2 = 44 := H.tail.tail.head (by omega)
  have c3 : nx s 3 = 49 := H.tail.tail.tail.head (by omega)
  have c4 : nx s 4 = 41 := H.tail.tail.tail.tail.head (by omega)
  have c5 : nx s 5 = 59 := H.tail.tail.tail.tail.tail.head (by omega)
  have H6 : Has s 6 (evText e) := H.tail.tail.tail.tail.tail.tail
  have i1 : idR s 7 (0 + 1) s.size = .ok (.leaf true) 2 s.size := idR_one 7 c1
  have i2 : idR s 7 (2 + 1) s.size = .ok (.leaf true) 4 s.size := idR_one 7 c3
  have i3 := idR_pair c0 i1 c2 i2 c4
  have f2 := (evR_text s e 8 0 6 (min s.size 0) G.de G.pe H6 (by omega)).1 (by omega) (by rw [nx_past s _ (by omega)]; rfl)
  have R := readR_bad5 (id := .pair (.leaf true) (.leaf true)) (by omega) i3 c5 f2 (by omega) (by have := G.hi; omega) (by omega)
  rw [chk_of_bad R]
  congr 1; omega

/-- A nought ahead. -/
theorem chk_nought (G : Good t e) (hl : (whole t e).length ≤ 19999) : chk (strOf (idText t ++ 59 :: 48 :: evText e)) = (2, (idText t).length + 2) := by
  have H := has_prefix (idText t ++ 59 :: 48 :: evText e) []
  rw [List.append_nil] at H
  have hz : (strOf (idText t ++ 59 :: 48 :: evText e)).size = (idText t).length + 2 + (evText e).length := by rw [strOf_size]; simp; omega
  rw [whole_len] at hl
  have hp := evText_pos e
  generalize strOf (idText t ++ 59 :: 48 :: evText e) = s at *
  have I := idR_text s t 8 0 s.size G.dt G.pt H.left (by omega)
  have H2 := H.right
  simp only [Nat.zero_add] at I H2
  have f := I.1 (by omega)
  have e0 : nx s (idText t).length = 59 := H2.head (by omega)
  have e1 : nx s ((idText t).length + 1) = 48 := H2.tail.head (by omega)
  have N : numR s ((idText t).length + 1) = .ok 0 ((idText t).length + 1 + 1) := by
    unfold numR; rw [if_neg (by rw [e1]; decide), if_pos e1]
  have f2 := evR_num (r := s.size) (base := 0) 8 (by omega) N
  have R := readR_bad3 (by omega) f e0 f2 (by omega)
  rw [chk_of_bad R]

theorem idText_no59 : ∀ (t : Tr Bool) (j : Nat), j < (idText t).length → ((idText t).getD j 0).toNat ≠ 59
  | ⟨.inl false⟩, 0, _ => by decide
  | ⟨.inl true⟩, 0, _ => by decide
  | ⟨.inl false⟩, j + 1, h => by simp [idText] at h
  | ⟨.inl true⟩, j + 1, h => by simp [idText] at h
  | ⟨.inr (a, c)⟩, j, h => by
    have hT : idText (.pair a c) = [40] ++ (idText a ++ ([44] ++ (idText c ++ [41]))) := by simp [idText]
    have hl : (idText (.pair a c)).length = (idText a).length + (idText c).length + 3 := by simp [idText]; omega
    rw [hl] at h
    rw [hT]
    simp only [List.getD_eq_getElem?_getD]
    by_cases g0 : j < 1
    · have : j = 0 := by omega
      subst this; simp
    · rw [List.getElem?_append_right (by simp; omega)]
      by_cases g1 : j - 1 < (idText a).length
      · rw [List.getElem?_append_left (by simpa using g1)]
        have := idText_no59 a (j - 1) g1
        simpa [List.getD_eq_getElem?_getD] using this
      · rw [List.getElem?_append_right (by simp; omega)]
        by_cases g2 : j - 1 - (idText a).length < 1
        · rw [List.getElem?_append_left (by simpa using g2)]
          have : j - 1 - (idText a).length = 0 := by omega
          simp [this]
        · rw [List.getElem?_append_right (by simp; omega)]
          by_cases g3 : j - 1 - (idText a).length - 1 < (idText c).length
          · rw [List.getElem?_append_left (by simpa using g3)]
            have := idText_no59 c (j - 1 - (idText a).length - 1) g3
            simpa [List.getD_eq_getElem?_getD] using this
          · rw [List.getElem?_append_right (by simp; omega)]
            have : j - 1 - (idText a).length - 1 - (idText c).length = 0 := by omega
            simp [this]

theorem whole_before (t : Tr Bool) (e : Ev) (j : Nat) (h : j < (idText t).length) : ((whole t e).getD j 0).toNat ≠ 59 := by
  have := idText_no59 t j h
  simp only [whole, List.getD_eq_getElem?_getD] at *
  rw [List.getElem?_append_left h]
  exact this
theorem whole_at (t : Tr Bool) (e : Ev) : (whole t e).getD (idText t).length 0 = 59 := by
  simp only [whole, List.getD_eq_getElem?_getD]
  rw [List.getElem?_append_right (Nat.le_refl _)]
  simp

end Go.Proofs.YtoebmfhgaalcdaaGreatDoor
