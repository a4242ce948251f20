/-
  Our own. What Check answers at the texts that sprigskeep.Written asks for.
-/
import Derived.Test.YtoebmfhgaalcdaaGreatDoorTexts
import Derived.Test.YtoebmfhgaalcdaaGreatDoorWalkCheck
namespace Go.Proofs.YtoebmfhgaalcdaaGreatDoor

theorem joinB_deep (a b : Tr Bool) (h : Nat) (ha : a.deep ≤ h) (hb : b.deep ≤ h) : (joinB a b).deep ≤ h + 1 := by
  by_cases g : idText a = idText b ∧ (idText a).length = 1
  · obtain ⟨x, rfl⟩ := idText_leaf a g.2
    obtain ⟨y, rfl⟩ := idText_leaf b (by rw [← g.1]; exact g.2)
    cases x <;> cases y <;> simp [joinB, Tr.deep]
  · rw [joinB_diff a b g]; simp only [Tr.deep]; omega
theorem joinB_plain (a b : Tr Bool) (ha : plainB a) (hb : plainB b) : plainB (joinB a b) := by
  cases a using Tr.cs with
  | pair l r => exact ⟨rfl, ha, hb⟩
  | leaf x =>
    cases b using Tr.cs with
    | pair l r => exact ⟨rfl, ha, hb⟩
    | leaf y =>
      by_cases e : x = y
      · simp [joinB, e, plainB]
      · simp only [joinB, if_neg e]
        refine ⟨?_, trivial, trivial⟩
        simp only [sameB, beq_eq_false_iff_ne]; exact e

theorem anIdP_deep (l : List Int) : ∀ (h i : Nat), (anIdP l h i).1.deep ≤ h ∧ plainB (anIdP l h i).1
  | 0, i => ⟨Nat.le_refl _, trivial⟩
  | h + 1, i => by
    rw [anIdP]
    split
    · exact ⟨by simp [Tr.deep], trivial⟩
    · have h1 := anIdP_deep l h (rawI l i)
      have h2 := anIdP_deep l h (anIdP l h (rawI l i)).2
      exact ⟨joinB_deep _ _ _ h1.1 h2.1, joinB_plain _ _ h1.2 h2.2⟩

/-- All numbers are small. -/
def small : Ev → Prop
  | ⟨n, none⟩ => n < 60
  | ⟨n, some (l, r)⟩ => n < 60 ∧ small l ∧ small r

theorem high_small : ∀ (e : Ev) (base : Nat), small e → highest (evTree base e) ≤ base + 60 * (e.deep + 1)
  | ⟨n, none⟩, base, h => by simp only [evTree, highest, Ev.deep, small] at *; omega
  | ⟨n, some (l, r)⟩, base, h => by
    have h1 := high_small l (base + n) h.2.1
    have h2 := high_small r (base + n) h.2.2
    have h0 := h.1
    simp only [evTree, highest, Ev.deep]
    omega

theorem front_joinE (n : Nat) (a b : Ev) : front (joinE n a b) = n := by unfold joinE; split <;> rfl
theorem joinE_props (n : Nat) (a b : Ev) (h : Nat) (hn : n < 60) (ha : a.deep ≤ h) (hb : b.deep ≤ h) (sa : small a) (sb : small b) (pa : plainE a) (pb : plainE b) (hf : front a = 0 ∨ front b = 0) :
    (joinE n a b).deep ≤ h + 1 ∧ small (joinE n a b) ∧ plainE (joinE n a b) := by
  unfold joinE
  split
  · exact ⟨by simp [Ev.deep], hn, by simp only [plainE]; omega⟩
  · rename_i g
    exact ⟨by simp only [Ev.deep]; omega, ⟨hn, sa, sb⟩, by omega, hf, by simpa using g, pa, pb⟩

theorem anEvP_props (l : List Int) : ∀ (h : Nat) (low : Bool) (i : Nat), (anEvP l h low i).1.deep ≤ h ∧ small (anEvP l h low i).1 ∧ plainE (anEvP l h low i).1 ∧ (low = true → front (anEvP l h low i).1 = 0)
  | 0, low, i => by
    have := low60 low l i
    refine ⟨Nat.le_refl _, this, by simp only [anEvP, plainE]; omega, fun e => by simp [anEvP, front, e]⟩
  | h + 1, low, i => by
    have hn := low60 low l i
    rw [anEvP]
    split
    · exact ⟨by simp [Ev.deep], hn, by simp only [plainE]; omega, fun e => by simp [front, e]⟩
    · have h1 := anEvP_props l h (rawP l (rawI l (rawI l i)) 2 == 0) (rawI l (rawI l (rawI l i)))
      have h2 := anEvP_props l h (!(rawP l (rawI l (rawI l i)) 2 == 0)) (anEvP l h (rawP l (rawI l (rawI l i)) 2 == 0) (rawI l (rawI l (rawI l i)))).2
      have hf : front (anEvP l h (rawP l (rawI l (rawI l i)) 2 == 0) (rawI l (rawI l (rawI l i)))).1 = 0 ∨ front (anEvP l h (!(rawP l (rawI l (rawI l i)) 2 == 0)) (anEvP l h (rawP l (rawI l (rawI l i)) 2 == 0) (rawI l (rawI l (rawI l i)))).2).1 = 0 := by
        cases g : (rawP l (rawI l (rawI l i)) 2 == 0)
        · right; have := h2.2.2.2; rw [g] at this; exact this rfl
        · left; have := h1.2.2.2; rw [g] at this; exact this rfl
      have J := joinE_props _ _ _ h hn h1.1 h2.1 h1.2.1 h2.2.1 h1.2.2.1 h2.2.2.1 hf
      exact ⟨J.1, J.2.1, J.2.2, fun e => by simp only [front_joinE, e, if_true]⟩

/-- What is needed of an ID and an EV that are read. -/
structure Good (t : Tr Bool) (e : Ev) : Prop where
  dt : t.deep ≤ 8
  pt : plainB t
  de : e.deep ≤ 8
  pe : plainE e
  hi : highest (evTree 0 e) ≤ 1099511627776

theorem stamp_good (l : List Int) : Good (stampId l) (stampEv l) := by
  have h1 := anIdP_deep l 8 0
  have h2 := anEvP_props l 8 false (anIdP l 8 0).2
  refine ⟨h1.1, h1.2, h2.1, h2.2.2.1, ?_⟩
  have h3 := high_small _ 0 h2.2.1
  have h4 := h2.1
  show highest (evTree 0 (anEvP l 8 false (anIdP l 8 0).2).1) ≤ _
  omega

theorem evText_pos (e : Ev) : 1 ≤ (evText e).length := by
  obtain ⟨c, t, h, _⟩ := evText_head e
  rw [h]; simp

/-- Reading a text that begins so, as far as it goes. -/
theorem readR_text {s : ByteArray} {t : Tr Bool} {e : Ev} (hs : s.size ≤ 20000) (G : Good t e) (H : Has s 0 (idText t ++ 59 :: evText e)) :
    (s.size = (idText t).length + 1 + (evText e).length → readR s = .ok t (evTree 0 e)) ∧
    ((idText t).length + 1 + (evText e).length < s.size → isDig (nx s ((idText t).length + 1 + (evText e).length)) = false → readR s = .bad 2 ((idText t).length + 1 + (evText e).length)) ∧
    (s.size < (idText t).length + 1 + (evText e).length → readR s = .bad 2 s.size ∨ ((∃ n, e = .num n) ∧ (idText t).length + 1 < s.size ∧ ∃ id ev, readR s = .ok id ev)) := by
  have I := idR_text s t 8 0 s.size G.dt G.pt H.left (by omega)
  have H2 := H.right
  simp only [Nat.zero_add] at I H2
  have hp := evText_pos e
  by_cases g0 : (idText t).length < s.size
  · have f := I.1 (by omega)
    have e0 : nx s (idText t).length = 59 := H2.head g0
    have E := evR_text s e 8 0 ((idText t).length + 1) s.size G.de G.pe H2.tail (by omega)
    refine ⟨fun h1 => ?_, fun h1 h2 => ?_, fun h1 => ?_⟩
    · have f2 := E.1 (by omega) (by rw [nx_past s _ (by omega)]; rfl)
      exact readR_ok hs f e0 f2 (by omega) (by have := G.hi; omega) (by omega)
    · exact readR_bad3 hs f e0 (E.1 (by omega) h2) h1
    · rcases E.2 h1 with f2 | ⟨g1, g2, m, hm, f2⟩
      · exact Or.inl (readR_bad2 hs f e0 f2)
      · refine Or.inr ⟨g2, g1, _, _, readR_ok hs f e0 f2 (by omega) ?_ (by omega)⟩
        simp only [highest]; omega
  · refine ⟨fun h1 => by omega, fun h1 => by omega, fun _ => Or.inl ?_⟩
    by_cases g1 : (idText t).length = s.size
    · have f := I.1 (by omega)
      rw [readR_bad1 hs f (by rw [nx_past s _ (by omega)]; omega), g1]
    · exact readR_bad0 hs (I.2 (by omega))

theorem nx_strOf (T : List UInt8) (i : Nat) : nx (strOf T) i = (T.getD i 0).toNat := rfl

theorem has_prefix (U V : List UInt8) : Has (strOf (U ++ V)) 0 U := by
  intro j hj _
  rw [nx_strOf, Nat.zero_add]
  simp only [List.getD_eq_getElem?_getD]
  rw [List.getElem?_append_left hj]
theorem has_take (T : List UInt8) (k : Nat) : Has (strOf (T.take k)) 0 T := by
  intro j hj hi
  rw [strOf_size, List.length_take] at hi
  rw [nx_strOf, Nat.zero_add]
  simp only [List.getD_eq_getElem?_getD]
  rw [List.getElem?_take_of_lt (by omega)]

theorem chk_of_ok {s : ByteArray} {id : Tr Bool} {ev : Tr Nat} (h : readR s = .ok id ev) : chk s = (0, 0) := by unfold chk; rw [h]
theorem chk_of_bad {s : ByteArray} {e p : Nat} (h : readR s = .bad e p) : chk s = (e, p) := by unfold chk; rw [h]

variable {t : Tr Bool} {e : Ev}

/-- The whole text. -/
def whole (t : Tr Bool) (e : Ev) : List UInt8 := idText t ++ 59 :: evText e
theorem whole_len (t : Tr Bool) (e : Ev) : (whole t e).length = (idText t).length + 1 + (evText e).length := by simp [whole]; omega

theorem chk_whole (G : Good t e) (hl : (whole t e).length ≤ 20000) : chk (strOf (whole t e)) = (0, 0) := by
  have H := has_prefix (whole t e) []
  rw [List.append_nil] at H
  have R := readR_text (by rw [strOf_size]; exact hl) G H
  exact chk_of_ok (R.1 (by rw [strOf_size, whole_len]))

theorem allD_getD : ∀ (ds : List UInt8) (j : Nat), allD ds → j < ds.length → 48 ≤ (ds.getD j 0).toNat ∧ (ds.getD j 0).toNat ≤ 57
  | [], j, _, h => by simp at h
  | c :: ds, 0, h, _ => by simpa using h.1
  | c :: ds, j + 1, h, hj => by simpa using allD_getD ds j h.2 (by simpa using hj)

theorem whole_getD (t : Tr Bool) (e : Ev) (j : Nat) : (whole t e).getD ((idText t).length + 1 + j) 0 = (evText e).getD j 0 := by
  simp only [whole, List.getD_eq_getElem?_getD]
  rw [List.getElem?_append_right (by omega)]
  rw [show (idText t).length + 1 + j - (idText t).length = j + 1 by omega]
  simp

/-- Cut off. -/
theorem chk_cut (G : Good t e) (hl : (whole t e).length ≤ 20000) (k : Nat) (hk : k < (whole t e).length) :
    chk (strOf ((whole t e).take k)) = (2, k) ∨ (chk (strOf ((whole t e).take k)) = (0, 0) ∧ 1 ≤ k ∧ (48 ≤ ((whole t e).getD (k - 1) 0).toNat ∧ ((whole t e).getD (k - 1) 0).toNat ≤ 57) ∧ (48 ≤ ((whole t e).getD k 0).toNat ∧ ((whole t e).getD k 0).toNat ≤ 57)) := by
  have H := has_take (whole t e) k
  have hz : (strOf ((whole t e).take k)).size = k := by rw [strOf_size, List.length_take]; omega
  have R := (readR_text (by omega) G H).2.2 (by rw [hz]; rw [whole_len] at hk; exact hk)
  rcases R with R | ⟨⟨n, rfl⟩, R1, id, ev, R2⟩
  · left; rw [chk_of_bad R, hz]
  · right
    rw [hz] at R1
    obtain ⟨v1, v2, v3⟩ := digs_val n
    rw [whole_len] at hk
    have a1 := allD_getD (digs n) (k - 1 - ((idText t).length + 1)) v2 (by simp only [evText] at hk; omega)
    have a2 := allD_getD (digs n) (k - ((idText t).length + 1)) v2 (by simp only [evText] at hk; omega)
    have b1 := whole_getD t (.num n) (k - 1 - ((idText t).length + 1))
    have b2 := whole_getD t (.num n) (k - ((idText t).length + 1))
    rw [show (idText t).length + 1 + (k - 1 - ((idText t).length + 1)) = k - 1 by omega] at b1
    rw [show (idText t).length + 1 + (k - ((idText t).length + 1)) = k by omega] at b2
    simp only [evText] at b1 b2
    refine ⟨chk_of_ok R2, by omega, ?_, ?_⟩
    · rw [b1]; exact a1
    · rw [b2]; exact a2

/-- A byte more. -/
theorem chk_more (G : Good t e) (hl : (whole t e).length ≤ 19999) : chk (strOf (whole t e ++ [41])) = (2, (whole t e).length) := by
  have H := has_prefix (whole t e) [41]
  have hz : (strOf (whole t e ++ [41])).size = (whole t e).length + 1 := by rw [strOf_size]; simp
  have R := (readR_text (by omega) G H).2.1 (by rw [hz, ← whole_len]; omega) (by
    rw [← whole_len, nx_strOf]
    simp only [List.getD_eq_getElem?_getD]
    rw [List.getElem?_append_right (Nat.le_refl _)]
    simp [isDig])
  rw [chk_of_bad R, whole_len]

end Go.Proofs.YtoebmfhgaalcdaaGreatDoor
