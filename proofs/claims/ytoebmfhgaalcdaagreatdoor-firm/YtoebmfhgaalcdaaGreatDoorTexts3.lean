/-
  Our own. Check at texts that are not plain, and at a nought ahead.
-/
import Derived.Test.YtoebmfhgaalcdaaGreatDoorTexts2
namespace Go.Proofs.YtoebmfhgaalcdaaGreatDoor
variable {t : Tr Bool} {e : Ev}

/-- Brackets whose two EVs both have a number above 0 in front. -/
theorem evR_rough {s : ByteArray} {n : Nat} {a c : Ev} {h base i r : Nat} (hd1 : a.deep ≤ h) (hd2 : c.deep ≤ h) (hn : n ≤ 1099511627776) (pa : plainE a) (pc : plainE c) (fa : 0 < front a) (fc : 0 < front c)
    (ht : Has s i (evText (.br n a c))) (hi : i + (evText (.br n a c)).length ≤ s.size) :
    evR s (h + 1) base i r = .ok (evTree base (.br n a c), n) (i + (evText (.br n a c)).length) (min r i) := by
  have hl : (evText (.br n a c)).length = (digs n).length + (evText a).length + (evText c).length + 4 := by simp [evText]; omega
  have hT : evText (.br n a c) = 40 :: (digs n ++ (44 :: (evText a ++ (44 :: (evText c ++ [41]))))) := by simp [evText]
  rw [hT] at ht
  rw [hl] at hi ⊢
  have t1 := ht.tail
  have t2 := t1.right
  have t3 := t2.tail
  have t4 := t3.right
  have t5 := t4.tail
  have t6 := t5.right
  have e0 : nx s i = 40 := ht.head (by omega)
  have e1 : nx s (i + 1 + (digs n).length) = 44 := t2.head (by omega)
  have f := (numR_text s n (i + 1) hn t1.left (by omega)).1 (by omega) (by rw [e1]; rfl)
  have e2 : nx s (i + 1 + (digs n).length + 1 + (evText a).length) = 44 := t4.head (by omega)
  have f2 := (evR_text s a h (base + n) (i + 1 + (digs n).length + 1) r hd1 pa t3.left (by omega)).1 (by omega) (by rw [e2]; rfl)
  have e3 : nx s (i + 1 + (digs n).length + 1 + (evText a).length + 1 + (evText c).length) = 41 := t6.head (by omega)
  have f3 := (evR_text s c h (base + n) (i + 1 + (digs n).length + 1 + (evText a).length + 1) r hd2 pc t5.left (by omega)).1 (by omega) (by rw [e3]; rfl)
  rw [evR_pair e0 f e1 f2 e2 f3 e3, if_pos (by simp [fa, fc]),
    show i + ((digs n).length + (evText a).length + (evText c).length + 4) = i + 1 + (digs n).length + 1 + (evText a).length + 1 + (evText c).length + 1 by omega]
  rfl

/-- An ID, and an EV that is not plain at its outermost brackets. -/
theorem chk_rough (n : Nat) (a c : Ev) (dt : t.deep ≤ 8) (pt : plainB t) (hd1 : a.deep ≤ 7) (hd2 : c.deep ≤ 7) (hn : n ≤ 1099511627776) (pa : plainE a) (pc : plainE c) (fa : 0 < front a) (fc : 0 < front c)
    (hh : highest (evTree 0 (.br n a c)) ≤ 1099511627776) (hl : (whole t (.br n a c)).length ≤ 20000) : chk (strOf (whole t (.br n a c))) = (3, (idText t).length + 1) := by
  have H := has_prefix (whole t (.br n a c)) []
  rw [List.append_nil] at H
  have hz : (strOf (whole t (.br n a c))).size = (idText t).length + 1 + (evText (.br n a c)).length := by rw [strOf_size, whole_len]
  have hs : (strOf (whole t (.br n a c))).size ≤ 20000 := by rw [strOf_size]; exact hl
  have hp := evText_pos (.br n a c)
  generalize strOf (whole t (.br n a c)) = s at *
  have I := idR_text s t 8 0 s.size dt pt H.left (by omega)
  have H2 := H.right
  simp only [Nat.zero_add] at I H2
  have f := I.1 (by omega)
  have e0 : nx s (idText t).length = 59 := H2.head (by omega)
  have f2 := evR_rough (base := 0) (r := s.size) hd1 hd2 hn pa pc fa fc H2.tail (by omega)
  have R := readR_bad5 hs f e0 f2 (by omega) (by omega) (by omega)
  rw [chk_of_bad R]
  congr 1; omega

/-- '(1,1)' in the ID's place. -/
theorem chk_ones (G : Good t e) (hl : (evText e).length ≤ 19990) : chk (strOf ([40, 49, 44, 49, 41] ++ 59 :: evText e)) = (3, 0) := by
  have H := has_prefix ([40, 49, 44, 49, 41] ++ 59 :: evText e) []
  rw [List.append_nil] at H
  have hz : (strOf ([40, 49, 44, 49, 41] ++ 59 :: evText e)).size = 6 + (evText e).length := by rw [strOf_size]; simp; omega
  have hp := evText_pos e
  generalize strOf ([40, 49, 44, 49, 41] ++ 59 :: evText e) = s at *
  have c0 : nx s 0 = 40 := H.head (by omega)
  have c1 : nx s 1 = 49 := H.tail.head (by omega)
  have c2 : nx s 2 = 44 := H.tail.tail.head (by omega)
  have c3 : nx s 3 = 49 := H.tail.tail.tail.head (by omega)
  have c4 : nx s 4 = 41 := H.tail.tail.tail.tail.head (by omega)
  have c5 : nx s 5 = 59 := H.tail.tail.tail.tail.tail.head (by omega)
  have H6 : Has s 6 (evText e) := H.tail.tail.tail.tail.tail.tail
  have i1 : idR s 7 (0 + 1) s.size = .ok (.leaf true) 2 s.size := idR_one 7 c1
  have i2 : idR s 7 (2 + 1) s.size = .ok (.leaf true) 4 s.size := idR_one 7 c3
  have i3 := idR_pair c0 i1 c2 i2 c4
  have f2 := (evR_text s e 8 0 6 (min s.size 0) G.de G.pe H6 (by omega)).1 (by omega) (by rw [nx_past s _ (by omega)]; rfl)
  have R := readR_bad5 (id := .pair (.leaf true) (.leaf true)) (by omega) i3 c5 f2 (by omega) (by have := G.hi; omega) (by omega)
  rw [chk_of_bad R]
  congr 1; omega

/-- A nought ahead. -/
theorem chk_nought (G : Good t e) (hl : (whole t e).length ≤ 19999) : chk (strOf (idText t ++ 59 :: 48 :: evText e)) = (2, (idText t).length + 2) := by
  have H := has_prefix (idText t ++ 59 :: 48 :: evText e) []
  rw [List.append_nil] at H
  have hz : (strOf (idText t ++ 59 :: 48 :: evText e)).size = (idText t).length + 2 + (evText e).length := by rw [strOf_size]; simp; omega
  rw [whole_len] at hl
  have hp := evText_pos e
  generalize strOf (idText t ++ 59 :: 48 :: evText e) = s at *
  have I := idR_text s t 8 0 s.size G.dt G.pt H.left (by omega)
  have H2 := H.right
  simp only [Nat.zero_add] at I H2
  have f := I.1 (by omega)
  have e0 : nx s (idText t).length = 59 := H2.head (by omega)
  have e1 : nx s ((idText t).length + 1) = 48 := H2.tail.head (by omega)
  have N : numR s ((idText t).length + 1) = .ok 0 ((idText t).length + 1 + 1) := by
    unfold numR; rw [if_neg (by rw [e1]; decide), if_pos e1]
  have f2 := evR_num (r := s.size) (base := 0) 8 (by omega) N
  have R := readR_bad3 (by omega) f e0 f2 (by omega)
  rw [chk_of_bad R]

theorem idText_no59 : ∀ (t : Tr Bool) (j : Nat), j < (idText t).length → ((idText t).getD j 0).toNat ≠ 59
  | ⟨.inl false⟩, 0, _ => by decide
  | ⟨.inl true⟩, 0, _ => by decide
  | ⟨.inl false⟩, j + 1, h => by simp [idText] at h
  | ⟨.inl true⟩, j + 1, h => by simp [idText] at h
  | ⟨.inr (a, c)⟩, j, h => by
    have hT : idText (.pair a c) = [40] ++ (idText a ++ ([44] ++ (idText c ++ [41]))) := by simp [idText]
    have hl : (idText (.pair a c)).length = (idText a).length + (idText c).length + 3 := by simp [idText]; omega
    rw [hl] at h
    rw [hT]
    simp only [List.getD_eq_getElem?_getD]
    by_cases g0 : j < 1
    · have : j = 0 := by omega
      subst this; simp
    · rw [List.getElem?_append_right (by simp; omega)]
      by_cases g1 : j - 1 < (idText a).length
      · rw [List.getElem?_append_left (by simpa using g1)]
        have := idText_no59 a (j - 1) g1
        simpa [List.getD_eq_getElem?_getD] using this
      · rw [List.getElem?_append_right (by simp; omega)]
        by_cases g2 : j - 1 - (idText a).length < 1
        · rw [List.getElem?_append_left (by simpa using g2)]
          have : j - 1 - (idText a).length = 0 := by omega
          simp [this]
        · rw [List.getElem?_append_right (by simp; omega)]
          by_cases g3 : j - 1 - (idText a).length - 1 < (idText c).length
          · rw [List.getElem?_append_left (by simpa using g3)]
            have := idText_no59 c (j - 1 - (idText a).length - 1) g3
            simpa [List.getD_eq_getElem?_getD] using this
          · rw [List.getElem?_append_right (by simp; omega)]
            have : j - 1 - (idText a).length - 1 - (idText c).length = 0 := by omega
            simp [this]

theorem whole_before (t : Tr Bool) (e : Ev) (j : Nat) (h : j < (idText t).length) : ((whole t e).getD j 0).toNat ≠ 59 := by
  have := idText_no59 t j h
  simp only [whole, List.getD_eq_getElem?_getD] at *
  rw [List.getElem?_append_left h]
  exact this
theorem whole_at (t : Tr Bool) (e : Ev) : (whole t e).getD (idText t).length 0 = 59 := by
  simp only [whole, List.getD_eq_getElem?_getD]
  rw [List.getElem?_append_right (Nat.le_refl _)]
  simp

end Go.Proofs.YtoebmfhgaalcdaaGreatDoor
