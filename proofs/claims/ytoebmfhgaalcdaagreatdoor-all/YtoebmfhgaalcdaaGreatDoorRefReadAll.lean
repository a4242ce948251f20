/-
  Our own. The document's reader of codes: (*sprigsref.Bits).next, fail, last.
-/
import Derived.Test.YtoebmfhgaalcdaaGreatDoorCodeAll
import Derived.Test.YtoebmfhgaalcdaaGreatDoorWalk1
import Derived.Deep.LoopGhost
import Derived.Test.YtoebmfhgaalcdaaGreatDoorReadInv
import Derived.Test.YtoebmfhgaalcdaaGreatDoorRefTextAll
import Derived.Deep.RegionHeld3
namespace Go.Proofs.YtoebmfhgaalcdaaGreatDoor
open Go.RowKit

/-- The reader's box: the bytes, how many bits are read, the place at which it failed or -1, the text so far. -/
def btObj (s : ByteArray) (n : Nat) (bad : Int) (t : ByteArray) : Obj := .cells #[.string s, .int .i64 n, .int .i64 bad, .string t] 132
def Bt (b : Nat) (s : ByteArray) (n : Nat) (bad : Int) (t : ByteArray) (w : World) : Prop := w.heap[b]? = some (btObj s n bad t)
theorem Bt.cells {b : Nat} {s : ByteArray} {n : Nat} {bad : Int} {t : ByteArray} {w : World} (h : Bt b s n bad t w) :
    w.cell? ⟨b, 0, none⟩ = some (.string s) ∧ w.cell? ⟨b, 1, none⟩ = some (.int .i64 n) ∧ w.cell? ⟨b, 2, none⟩ = some (.int .i64 bad) ∧ w.cell? ⟨b, 3, none⟩ = some (.string t) ∧ (∀ o, w.frozen? ⟨b, o, none⟩ = false) := by
  unfold Bt btObj at h
  refine ⟨?_, ?_, ?_, ?_, ?_⟩
  · simp [World.cell?, h]
  · simp [World.cell?, h]
  · simp [World.cell?, h]
  · simp [World.cell?, h]
  · intro o; simp [World.frozen?, h]
theorem Bt.drewN {b : Nat} {s : ByteArray} {n : Nat} {bad : Int} {t : ByteArray} {w : World} (h : Bt b s n bad t w) (k : Nat) : Bt b s n bad t (w.drewN k) := h
theorem Bt.setAt {b : Nat} {s : ByteArray} {n : Nat} {bad : Int} {t : ByteArray} {w : World} (h : Bt b s n bad t w) (j : Nat) : Bt b s j bad t (w.setCell ⟨b, 1, none⟩ (.int .i64 j)) := by
  unfold Bt btObj at *
  simp [World.setCell, Array.getElem?_modify, h]
theorem Bt.setBad {b : Nat} {s : ByteArray} {n : Nat} {bad : Int} {t : ByteArray} {w : World} (h : Bt b s n bad t w) (j : Int) : Bt b s n j t (w.setCell ⟨b, 2, none⟩ (.int .i64 j)) := by
  unfold Bt btObj at *
  simp [World.setCell, Array.getElem?_modify, h]
theorem Bt.setText {b : Nat} {s : ByteArray} {n : Nat} {bad : Int} {t : ByteArray} {w : World} (h : Bt b s n bad t w) (u : ByteArray) : Bt b s n bad u (w.setCell ⟨b, 3, none⟩ (.string u)) := by
  unfold Bt btObj at *
  simp [World.setCell, Array.getElem?_modify, h]

set_option maxHeartbeats 400000 in
theorem bfail_first (b : Nat) (s : ByteArray) (n at_ : Nat) (t : ByteArray) (w : World) (h : Bt b s n (-1) t w) :
    Calls Tryz.prog 95 #[.pointer (some ⟨b, 0, none⟩), .int .i64 (at_ : Nat)] w fun e w' => e = .returned (.tuple #[]) ∧ Bt b s n (at_ : Nat) t w' ∧ Apart b w w' := by
  obtain ⟨c0, c1, c2, c3, cf⟩ := h.cells
  go_enter Tryz.func95, Tryz.ntmps95
  go_wp2_with fail
  go_end0
  exact ⟨rfl, h.setBad _, (Apart.refl b w).setCell rfl _⟩

set_option maxHeartbeats 400000 in
theorem bfail_later (b : Nat) (s : ByteArray) (n at_ j : Nat) (t : ByteArray) (w : World) (h : Bt b s n (j : Nat) t w) :
    Calls Tryz.prog 95 #[.pointer (some ⟨b, 0, none⟩), .int .i64 (at_ : Nat)] w fun e w' => e = .returned (.tuple #[]) ∧ w' = w := by
  obtain ⟨c0, c1, c2, c3, cf⟩ := h.cells
  have j0 : ¬ (j : Int) < 0 := by omega
  go_enter Tryz.func95, Tryz.ntmps95
  go_wp2_with fail
  go_end0
  exact ⟨rfl, rfl⟩

set_option maxHeartbeats 400000 in
theorem blast_any (b : Nat) (s : ByteArray) (n : Nat) (bad : Int) (t : ByteArray) (w : World) (h : Bt b s (n + 1) bad t w) (hn : n < 200000) :
    Calls Tryz.prog 96 #[.pointer (some ⟨b, 0, none⟩)] w fun e w' => e = .returned (.int .i64 ((n / 8 : Nat) : Int)) ∧ w' = w := by
  obtain ⟨c0, c1, c2, c3, cf⟩ := h.cells
  obtain ⟨j, hj, hj2⟩ : ∃ j, j = n + 1 ∧ 1 ≤ j := ⟨n + 1, rfl, by omega⟩
  rw [← hj] at c1
  obtain ⟨q, hq⟩ : ∃ q, n / 8 = q := ⟨_, rfl⟩
  rw [hq]
  have e3 : Hid (((j : Int) - 1) / 8 = (q : Int)) := hide (by omega)
  have jb : j ≤ 200000 := by omega
  clear hj hq
  go_enter Tryz.func96, Tryz.ntmps96
  go_wp2_with fail
  go_ret
  rw [unhide e3]
  exact ⟨rfl, rfl⟩

set_option maxHeartbeats 800000 in
/-- Behind a failure. -/
theorem bnext_failed (b : Nat) (s : ByteArray) (n j : Nat) (t : ByteArray) (w : World) (h : Bt b s n (j : Nat) t w) (hs : s.size ≤ 20000) (hn : n ≤ 8 * s.size) :
    Calls Tryz.prog 94 #[.pointer (some ⟨b, 0, none⟩)] w fun e w' => e = .returned (.int .i64 0) ∧ Bt b s n (j : Nat) t w' ∧ Apart b w w' := by
  obtain ⟨c0, c1, c2, c3, cf⟩ := h.cells
  have j0 : (0 : Int) ≤ (j : Int) := by omega
  have e1 : IntKind.i64.wrap (8 * (s.size : Int)) = 8 * (s.size : Int) := by rw [IntKind.wrap_i64]; omega
  by_cases hk : n = 8 * s.size
  · have e2 : ((n : Nat) : Int) = 8 * (s.size : Int) := by omega
    have F := hide (fun w1 h1 => bfail_later b s n s.size j t w1 h1)
    replace h := hide h
    clear hk hn
    go_enter Tryz.func94, Tryz.ntmps94
    go_wp2_with fail
    go_quiet (fail)
    go_wp2_with fail
    refine (unhide F _ ((unhide h).drewN _)).mono ?_
    rintro e w1 ⟨rfl, hw⟩
    subst hw
    go_wp2_with fail
    go_ret
    exact ⟨rfl, (unhide h).drewN _, Apart.drewN b w _⟩
  · have e2 : ¬ ((n : Nat) : Int) = 8 * (s.size : Int) := by omega
    replace h := hide h
    clear hk hn
    go_enter Tryz.func94, Tryz.ntmps94
    go_wp2_with fail
    go_quiet (fail)
    go_wp2_with fail
    go_ret
    exact ⟨rfl, (unhide h).drewN _, Apart.drewN b w _⟩

set_option maxHeartbeats 800000 in
/-- At the end. -/
theorem bnext_end (b : Nat) (s : ByteArray) (n : Nat) (t : ByteArray) (w : World) (h : Bt b s n (-1) t w) (hs : s.size ≤ 20000) (hk : n = 8 * s.size) :
    Calls Tryz.prog 94 #[.pointer (some ⟨b, 0, none⟩)] w fun e w' => e = .returned (.int .i64 0) ∧ Bt b s n (s.size : Nat) t w' ∧ Apart b w w' := by
  obtain ⟨c0, c1, c2, c3, cf⟩ := h.cells
  have e1 : IntKind.i64.wrap (8 * (s.size : Int)) = 8 * (s.size : Int) := by rw [IntKind.wrap_i64]; omega
  have e2 : ((n : Nat) : Int) = 8 * (s.size : Int) := by omega
  have F := hide (fun w1 h1 => bfail_first b s n s.size t w1 h1)
  replace h := hide h
  clear hk
  go_enter Tryz.func94, Tryz.ntmps94
  go_wp2_with fail
  go_quiet (fail)
  go_wp2_with fail
  refine (unhide F _ ((unhide h).drewN _)).mono ?_
  rintro e w1 ⟨rfl, h1, a1⟩
  obtain ⟨d0, d1, d2, d3, df⟩ := h1.cells
  have s0 : (0 : Int) ≤ (s.size : Int) := by omega
  replace h1 := hide h1
  replace a1 := hide a1
  clear c0 c1 c2 c3 cf
  go_wp2_with fail
  go_ret
  exact ⟨rfl, unhide h1, (Apart.drewN b w _).trans (unhide a1)⟩

theorem half_bit (c k : Nat) (p : Nat) (h : k + p = 7) : (c / 2 ^ p) % 2 = (c.testBit (7 - k)).toNat := by
  rw [show 7 - k = p by omega, Nat.testBit_eq_decide_div_mod_eq]
  rcases (show c / 2 ^ p % 2 = 0 ∨ c / 2 ^ p % 2 = 1 by omega) with h | h <;> rw [h] <;> rfl

set_option maxRecDepth 100000 in
set_option maxHeartbeats 2000000 in
theorem bnext_ok (b : Nat) (s : ByteArray) (n : Nat) (t : ByteArray) (w : World) (h : Bt b s n (-1) t w) (hs : s.size ≤ 20000) (hk : n < 8 * s.size) :
    Calls Tryz.prog 94 #[.pointer (some ⟨b, 0, none⟩)] w fun e w' => e = .returned (.int .i64 (((bitAt s n).toNat : Nat) : Int)) ∧ Bt b s (n + 1) (-1) t w' ∧ Apart b w w' := by
  obtain ⟨c0, c1, c2, c3, cf⟩ := h.cells
  have e1 : IntKind.i64.wrap (8 * (s.size : Int)) = 8 * (s.size : Int) := by rw [IntKind.wrap_i64]; omega
  have e2 : ¬ ((n : Nat) : Int) = 8 * (s.size : Int) := by omega
  obtain ⟨q, k0, hq, hp, hk2⟩ : ∃ q k0, n / 8 = q ∧ n % 8 = k0 ∧ q < s.size := ⟨_, _, rfl, rfl, by omega⟩
  obtain ⟨j, hj, hj2⟩ : ∃ j, j = n + 1 ∧ 1 ≤ j := ⟨n + 1, rfl, by omega⟩
  have jn : ((n : Int) + 1) = (j : Int) := by omega
  have e0 : IntKind.i64.wrap ((n : Int) + 1) = (j : Int) := by rw [IntKind.wrap_i64]; omega
  have e5 : IntKind.i64.wrap ((j : Int) - 1) = (n : Int) := by rw [IntKind.wrap_i64]; omega
  have e3 : IntKind.i64.wrap ((n : Int) / 8) = (q : Int) := by rw [IntKind.wrap_i64]; omega
  have e4 : IntKind.i64.wrap ((n : Int) % 8) = (k0 : Int) := by rw [IntKind.wrap_i64]; omega
  have e6 : (q : Int) < (s.size : Int) := by omega
  have nq0 := nx_in s q hk2
  have cb : s[q].toNat < 256 := UInt8.toNat_lt _
  have BI : Hid (bitAt s n = (nx s q).testBit (7 - k0)) := hide (by unfold bitAt; rw [hq, hp])
  have HB := hide (half_bit (nx s q))
  have k7 : k0 < 8 := by omega
  rw [unhide BI, nq0]
  rw [nq0] at HB
  have DS : Hid (∀ p, s[q].toNat / 2 ^ (p + 1) = s[q].toNat / 2 ^ p / 2) := hide (fun p => by rw [Nat.pow_succ, Nat.div_div_eq_div_mul])
  have D0 : Hid (s[q].toNat / 2 ^ 0 = s[q].toNat) := hide (by simp)
  have DB : Hid (∀ p, s[q].toNat / 2 ^ p ≤ s[q].toNat) := hide (fun p => Nat.div_le_self _ _)
  have HJ := hide hj
  have KM : Hid ((n : Int) % 8 = (k0 : Int)) := hide (by omega)
  replace h := hide h
  clear hq hp hj nq0 BI
  go_enter Tryz.func94, Tryz.ntmps94
  go_wp2_with fail
  go_quiet (fail)
  go_wp2_with fail
  go_quiet (fail)
  go_wp2_with fail
  go_loopg [3, 4] 8 (fun r c k wr => ∃ p v : Nat, p + r = 8 ∧ k0 + p ≤ 7 ∧ s[q].toNat / 2 ^ p = v ∧ c = .int .i64 (v : Nat) ∧ k = .int .i64 ((k0 + p : Nat) : Int) ∧ Bt b s (n + 1) (-1) t wr ∧ Apart b w wr)
  case atStart =>
    refine ⟨0, _, by omega, by omega, unhide D0, rfl, ?_, ?_, ?_⟩
    · rw [unhide KM]; rfl
    · rw [← unhide HJ]
      exact Bt.drewN (Bt.setAt (Bt.drewN (unhide h) _) j) _
    · exact ((Apart.drewN b w _).setCell rfl _).trans (Apart.drewN b _ _)
  case round =>
    obtain ⟨p, v, hp, hp7, hv, rfl, rfl, hb, ha⟩ := hrel
    have HP := hide hp
    have HV := hide hv
    have vb := unhide DB p
    rw [hv] at vb
    replace hb := hide hb
    replace ha := hide ha
    by_cases hlt : k0 + p < 7
    · have l1 : ((k0 + p : Nat) : Int) < 7 := by omega
      have q2 : Hid ((v : Int) / 2 = ((v / 2 : Nat) : Int)) := hide (by omega)
      clear hp hv hlt
      go_wp2_with fail
      go_roundg (gk - 1)
      case measure => have := unhide HP; omega
      case rel => have := unhide HP; exact ⟨p + 1, v / 2, by omega, by omega, by rw [unhide DS, unhide HV], by rw [unhide q2], by go_num, unhide hb, unhide ha⟩
    · have e : k0 + p = 7 := by omega
      have l1 : ¬ ((k0 + p : Nat) : Int) < 7 := by omega
      have fb := unhide HB k0 p e
      rw [hv] at fb
      have q2 : Hid ((v : Int) % 2 = ((v % 2 : Nat) : Int)) := hide (by omega)
      replace fb := hide fb
      clear hp hv hlt
      go_wp2_with fail
      go_ret
      rw [unhide q2, unhide fb]
      exact ⟨rfl, unhide hb, unhide ha⟩

end Go.Proofs.YtoebmfhgaalcdaaGreatDoor

namespace Go.Proofs.YtoebmfhgaalcdaaGreatDoor

def roughB : Tr Bool → Bool
  | ⟨.inl _⟩ => false
  | ⟨.inr (l, r)⟩ => roughB l || roughB r || sameB l r
def roughE : Nat → Ev → Bool
  | _, ⟨_, none⟩ => false
  | base, ⟨n, some (l, r)⟩ => roughE (base + n) l || roughE (base + n) r || (decide (0 < front l) && decide (0 < front r) || sameI (evTree (base + n) l) (evTree (base + n) r))
/-- All numbers are within the bound. -/
def fitE : Ev → Prop
  | ⟨n, none⟩ => n ≤ 1099511627776
  | ⟨n, some (l, r)⟩ => n ≤ 1099511627776 ∧ fitE l ∧ fitE r

theorem less_if (c : Bool) (q i N : Nat) (hq : q ≤ N) (hi : i < N) : (if c = true then min q i else q) ≤ N ∧ decide ((if c = true then min q i else q) < N) = (decide (q < N) || c) := by
  cases c with
  | true => rw [if_pos rfl, Bool.or_true]; exact ⟨by omega, decide_eq_true (by omega)⟩
  | false => rw [if_neg Bool.false_ne_true, Bool.or_false]; exact ⟨hq, rfl⟩

theorem idR_raw (s : ByteArray) (t : Tr Bool) : ∀ (h i r : Nat), deepT t ≤ h → Has s i (idText t) → i + (idText t).length ≤ s.size → r ≤ s.size →
    ∃ q, idR s h i r = .ok t (i + (idText t).length) q ∧ q ≤ s.size ∧ decide (q < s.size) = (decide (r < s.size) || roughB t) := by
  induction t using Tr.ind with
  | leaf x =>
    intro h i r _ ht hl hr
    have e1 : (idText (.leaf x)).length = 1 := by cases x <;> rfl
    rw [e1] at hl ⊢
    refine ⟨r, ?_, hr, by show _ = (decide (r < s.size) || false); rw [Bool.or_false]⟩
    cases x
    · exact idR_zero h (ht.head (by omega))
    · exact idR_one h (ht.head (by omega))
  | pair a c iha ihc =>
    intro h i r hd ht hl hr
    have hd : max (deepT a) (deepT c) + 1 ≤ h := hd
    cases h with
    | zero => omega
    | succ h =>
      have el : (idText (.pair a c)).length = (idText a).length + (idText c).length + 3 := by simp [idText]; omega
      have hT : idText (.pair a c) = 40 :: (idText a ++ (44 :: (idText c ++ [41]))) := by simp [idText]
      rw [hT] at ht
      rw [el] at hl ⊢
      have t1 := ht.tail
      have t2 := t1.right
      have t3 := t2.tail
      have t4 := t3.right
      have e0 : nx s i = 40 := ht.head (by omega)
      obtain ⟨q1, f1, b1, d1⟩ := iha h (i + 1) r (by omega) t1.left (by omega) hr
      have e1 : nx s (i + 1 + (idText a).length) = 44 := t2.head (by omega)
      obtain ⟨q2, f2, b2, d2⟩ := ihc h (i + 1 + (idText a).length + 1) q1 (by omega) t3.left (by omega) b1
      have e2 : nx s (i + 1 + (idText a).length + 1 + (idText c).length) = 41 := t4.head (by omega)
      have L := less_if (sameB a c) q2 i s.size b2 (by omega)
      refine ⟨_, ?_, L.1, ?_⟩
      · rw [idR_pair e0 f1 e1 f2 e2, show i + ((idText a).length + (idText c).length + 3) = i + 1 + (idText a).length + 1 + (idText c).length + 1 by omega]
      · rw [L.2, d2, d1]
        show _ = (decide (r < s.size) || (roughB a || roughB c || sameB a c))
        simp only [Bool.or_assoc]

theorem evR_raw (s : ByteArray) : ∀ (e : Ev) (h base i r : Nat), e.deep ≤ h → fitE e → Has s i (evText e) → i + (evText e).length ≤ s.size → isDig (nx s (i + (evText e).length)) = false → r ≤ s.size →
    ∃ q, evR s h base i r = .ok (evTree base e, front e) (i + (evText e).length) q ∧ q ≤ s.size ∧ decide (q < s.size) = (decide (r < s.size) || roughE base e)
  | ⟨n, none⟩, h, base, i, r, _, hp, ht, hl, hg, hr => by
    have hpos := digs_pos n
    have hl2 : i + (digs n).length ≤ s.size := hl
    have N := numR_text s n i hp ht (by omega)
    have n40 : nx s i ≠ 40 := by
      obtain ⟨c, t, hc, h1, _⟩ := evText_head (.num n)
      have ht2 := ht
      rw [hc] at ht2
      rw [ht2.head (by omega)]; exact h1 ⟨n, rfl⟩
    exact ⟨r, evR_num h n40 (N.1 hl hg), hr, by rw [roughE, Bool.or_false]⟩
  | ⟨n, some (a, c)⟩, 0, base, i, r, hd, _, _, _, _, _ => by simp [Ev.deep] at hd
  | ⟨n, some (a, c)⟩, h + 1, base, i, r, hd, hp, ht, hl, hg, hr => by
    have hd1 : a.deep ≤ h := by simp only [Ev.deep] at hd; omega
    have hd2 : c.deep ≤ h := by simp only [Ev.deep] at hd; omega
    have el : (evText (.br n a c)).length = (digs n).length + (evText a).length + (evText c).length + 4 := by simp [evText]; omega
    have hT : evText (.br n a c) = 40 :: (digs n ++ (44 :: (evText a ++ (44 :: (evText c ++ [41]))))) := by simp [evText]
    rw [hT] at ht
    rw [el] at hl ⊢
    have t1 := ht.tail
    have t2 := t1.right
    have t3 := t2.tail
    have t4 := t3.right
    have t5 := t4.tail
    have t6 := t5.right
    have e0 : nx s i = 40 := ht.head (by omega)
    have N := numR_text s n (i + 1) hp.1 t1.left (by omega)
    have e1 : nx s (i + 1 + (digs n).length) = 44 := t2.head (by omega)
    have f := N.1 (by omega) (by rw [e1]; rfl)
    have e2 : nx s (i + 1 + (digs n).length + 1 + (evText a).length) = 44 := t4.head (by omega)
    obtain ⟨q1, f2, b1, d1⟩ := evR_raw s a h (base + n) (i + 1 + (digs n).length + 1) r hd1 hp.2.1 t3.left (by omega) (by rw [e2]; rfl) hr
    have e3 : nx s (i + 1 + (digs n).length + 1 + (evText a).length + 1 + (evText c).length) = 41 := t6.head (by omega)
    obtain ⟨q2, f3, b2, d2⟩ := evR_raw s c h (base + n) (i + 1 + (digs n).length + 1 + (evText a).length + 1) q1 hd2 hp.2.2 t5.left (by omega) (by rw [e3]; rfl) b1
    have L := less_if (decide (0 < front a) && decide (0 < front c) || sameI (evTree (base + n) a) (evTree (base + n) c)) q2 i s.size b2 (by omega)
    refine ⟨_, ?_, L.1, ?_⟩
    · rw [evR_pair e0 f e1 f2 e2 f3 e3, show i + ((digs n).length + (evText a).length + (evText c).length + 4) = i + 1 + (digs n).length + 1 + (evText a).length + 1 + (evText c).length + 1 by omega]
      rfl
    · rw [L.2, d2, d1, roughE]
      simp only [Bool.or_assoc]

theorem Has_strOf (l : List UInt8) : Has (strOf l) 0 l := by
  intro j hj _
  rw [Nat.zero_add]
  unfold nx strOf
  simp

theorem idText_le (t : Tr Bool) : ∀ h, deepT t ≤ h → (idText t).length + 3 ≤ 4 * 2 ^ h := by
  induction t using Tr.ind with
  | leaf x => intro h _; have e1 : (idText (.leaf x)).length = 1 := by cases x <;> rfl
              have : 1 ≤ 2 ^ h := Nat.one_le_two_pow
              omega
  | pair a c iha ihc =>
    intro h hd
    have hd : max (deepT a) (deepT c) + 1 ≤ h := hd
    cases h with
    | zero => omega
    | succ h =>
      have a1 := iha h (by omega)
      have a2 := ihc h (by omega)
      have el : (idText (.pair a c)).length = (idText a).length + (idText c).length + 3 := by simp [idText]; omega
      rw [el, Nat.pow_succ]; omega
theorem digs_le (n : Nat) (h : n ≤ 1099511627776) : (digs n).length ≤ 13 := by
  have H : ∀ (d n : Nat), n < 10 ^ (d + 1) → (digs n).length ≤ d + 1 := by
    intro d
    induction d with
    | zero => intro n h; rw [digs_one n (by simpa using h)]; simp
    | succ d ih =>
      intro n h
      by_cases g : n < 10
      · rw [digs_one n g]; simp
      · rw [digs_more n g, List.length_append, List.length_singleton]
        have := ih (n / 10) (by rw [Nat.div_lt_iff_lt_mul (by omega)]; rw [Nat.pow_succ] at h; exact h)
        omega
  exact H 12 n (by omega)
theorem evText_le : ∀ (e : Ev) (h : Nat), e.deep ≤ h → fitE e → (evText e).length + 17 ≤ 30 * 2 ^ h
  | ⟨n, none⟩, h, _, hp => by
    have := digs_le n hp
    have : 1 ≤ 2 ^ h := Nat.one_le_two_pow
    show (digs n).length + 17 ≤ _
    omega
  | ⟨n, some (a, c)⟩, 0, hd, _ => by simp [Ev.deep] at hd
  | ⟨n, some (a, c)⟩, h + 1, hd, hp => by
    have a1 := evText_le a h (by simp only [Ev.deep] at hd; omega) hp.2.1
    have a2 := evText_le c h (by simp only [Ev.deep] at hd; omega) hp.2.2
    have a3 := digs_le n hp.1
    have el : (evText (.br n a c)).length = (digs n).length + (evText a).length + (evText c).length + 4 := by simp [evText]; omega
    show (evText (.br n a c)).length + 17 ≤ _
    rw [el, Nat.pow_succ]; omega

/-- The text of any two trees, read. -/
theorem readR_raw (id : Tr Bool) (e : Ev) (hd : deepT id ≤ 8) (he : e.deep ≤ 8) (hp : fitE e) :
    (1099511627776 < highest (evTree 0 e) → ∃ p, readR (strOf (idText id ++ 59 :: evText e)) = .bad 7 p) ∧
    (¬ 1099511627776 < highest (evTree 0 e) → (roughB id || roughE 0 e) = true → ∃ p, readR (strOf (idText id ++ 59 :: evText e)) = .bad 3 p) ∧
    (¬ 1099511627776 < highest (evTree 0 e) → (roughB id || roughE 0 e) = false → readR (strOf (idText id ++ 59 :: evText e)) = .ok id (evTree 0 e)) := by
  have a1 := idText_le id 8 hd
  have a2 := evText_le e 8 he hp
  have hl : (strOf (idText id ++ 59 :: evText e)).size = (idText id).length + 1 + (evText e).length := by rw [strOf_size, List.length_append, List.length_cons]; omega
  have ht := Has_strOf (idText id ++ 59 :: evText e)
  generalize strOf (idText id ++ 59 :: evText e) = T at *
  have t2 := ht.right
  rw [Nat.zero_add] at t2
  obtain ⟨q1, f1, b1, d1⟩ := idR_raw T id 8 0 T.size hd ht.left (by omega) (Nat.le_refl _)
  rw [Nat.zero_add] at f1
  have e1 : nx T (idText id).length = 59 := t2.head (by omega)
  obtain ⟨q2, f2, b2, d2⟩ := evR_raw T e 8 0 ((idText id).length + 1) q1 he hp t2.tail (by omega) (by rw [nx_past T _ (by omega)]; rfl) b1
  have dq : decide (q2 < T.size) = (roughB id || roughE 0 e) := by rw [d2, d1, decide_eq_false (Nat.lt_irrefl _), Bool.false_or]
  have R : readR T = if 1099511627776 < highest (evTree 0 e) then .bad 7 T.size else if q2 < T.size then .bad 3 q2 else .ok id (evTree 0 e) := by
    unfold readR
    rw [if_neg (by omega)]
    simp only [f1]
    rw [if_pos e1]
    simp only [f2]
    rw [if_neg (by omega)]
  rw [R]
  refine ⟨fun h => ⟨_, if_pos h⟩, fun h g => ?_, fun h g => ?_⟩
  · rw [if_neg h]
    rw [g] at dq
    exact ⟨_, if_pos (by simpa using dq)⟩
  · rw [if_neg h]
    rw [g] at dq
    exact if_neg (by simpa using dq)

/-- What idC tells of what is read. -/
theorem idC_rough (s : ByteArray) : ∀ (h k : Nat) (r : Bool) (t : Tr Bool) (k' : Nat) (r' : Bool), idC s h k r = .ok t k' r' → r' = (r || roughB t) := by
  have LF : ∀ (k : Nat) (r : Bool) (t : Tr Bool) (k' : Nat) (r' : Bool), leafC s k r = .ok t k' r' → r' = (r || roughB t) := by
    intro k r t k' r' h
    unfold leafC at h
    by_cases g : 8 * s.size ≤ k
    · rw [if_pos g] at h; exact (Rc.bad_ok h).elim
    · rw [if_neg g] at h
      obtain ⟨rfl, rfl, rfl⟩ := Rc.ok_inj h
      show r = (r || false)
      rw [Bool.or_false]
  intro h
  induction h with
  | zero =>
    intro k r t k' r' h
    rw [idC] at h
    by_cases g : 8 * s.size ≤ k
    · rw [if_pos g] at h; exact (Rc.bad_ok h).elim
    rw [if_neg g] at h
    by_cases b : bitAt s k = true
    · rw [if_pos b] at h; exact (Rc.bad_ok h).elim
    · rw [if_neg b] at h; exact LF _ _ _ _ _ h
  | succ h ih =>
    intro k r t k' r' hh
    rw [idC] at hh
    by_cases g : 8 * s.size ≤ k
    · rw [if_pos g] at hh; exact (Rc.bad_ok hh).elim
    rw [if_neg g] at hh
    by_cases b : bitAt s k = true
    · rw [if_pos b] at hh
      cases f : idC s h (k + 1) r using Rc.cs with
      | bad j => simp only [f] at hh; exact (Rc.bad_ok hh).elim
      | ok l k1 r1 =>
        simp only [f] at hh
        cases f2 : idC s h k1 r1 using Rc.cs with
        | bad j => simp only [f2] at hh; exact (Rc.bad_ok hh).elim
        | ok u k2 r2 =>
          simp only [f2] at hh
          obtain ⟨rfl, rfl, rfl⟩ := Rc.ok_inj hh
          rw [ih _ _ _ _ _ f2, ih _ _ _ _ _ f]
          show _ = (r || (roughB l || roughB u || sameB l u))
          simp only [Bool.or_assoc]
    · rw [if_neg b] at hh; exact LF _ _ _ _ _ hh

end Go.Proofs.YtoebmfhgaalcdaaGreatDoor

namespace Go.Proofs.YtoebmfhgaalcdaaGreatDoor
open Go.RowKit

section
variable {ops : Array Oper} {o : Oper} {a : Act} {w w' : World} {K : Act → World → Prop} {Q : Exit → Act → World → Prop} {E : Prop}
theorem rstep_run (hg : o.guard = none) (v : Value) (h : Sem.run Tryz.prog (execOp a.eval o) w = .ok (.value v) w') (hK : K (a.put o.dst v) w') :
    if Region.wanted o (yielded ops a.tmps) = true then Oper.wp Tryz.prog o a w K Q else E := by
  have hw : Region.wanted o (yielded ops a.tmps) = true := by simp [Region.wanted, hg]
  rw [if_pos hw]
  unfold Oper.wp
  rw [h]
  exact hK
theorem rstep_skip (hg : o.guard = none) (h : Sem.run Tryz.prog (execOp a.eval o) w = .ok .skip w') (hK : K (a.put o.dst undef) w') :
    if Region.wanted o (yielded ops a.tmps) = true then Oper.wp Tryz.prog o a w K Q else E := by
  have hw : Region.wanted o (yielded ops a.tmps) = true := by simp [Region.wanted, hg]
  rw [if_pos hw]
  unfold Oper.wp
  rw [h]
  exact hK
end
section
variable {ρ : Operand → Value} {x y : Operand} {d : Option Tmp} {t : TypeId} {p : String} {af : Array Edge} {g : Option (Nat × Bool)}
theorem exec_load_str (w : World) (ad : Addr) (v : Value) (h : ρ x = .pointer (some ad)) (hc : w.cell? ad = some v) :
    Sem.run Tryz.prog (execOp ρ ⟨d, .load 9 x, t, p, af, g⟩) w = .ok (.value v) w := by
  unfold execOp
  simp only [h]
  go_simp
theorem exec_store_str (w : World) (ad : Addr) (u : ByteArray) (v : Value) (h : ρ x = .pointer (some ad)) (hy : ρ y = .string u) (hc : w.cell? ad = some v) (hf : w.frozen? ad = false) :
    Sem.run Tryz.prog (execOp ρ ⟨d, .store 9 x y, t, p, af, g⟩) w = .ok .skip (w.setCell ad (.string u)) := by
  unfold execOp
  simp only [h, hy]
  go_simp
theorem exec_add_str (w : World) (T D U : ByteArray) (h : ρ x = .string T) (hy : ρ y = .string D) (hc : ∀ w : World, (Op.stringOp .add T D).run Tryz.prog w = .ok (.string U) w) :
    Sem.run Tryz.prog (execOp ρ ⟨d, .binOp .add 9 x y 9, t, p, af, g⟩) w = .ok (.value (.string U)) w := by
  unfold execOp
  simp only [h, hy]
  go_simp
end

theorem Bt.below {b : Nat} {s : ByteArray} {n : Nat} {bad : Int} {t : ByteArray} {w w' : World} (h : Bt b s n bad t w) (g : Below w.heap.size w w') : Bt b s n bad t w' :=
  (g.block b (lt_of_heap h)).trans h

/-- What a call of id leaves. -/
def BIdEnd (b : Nat) (s text : ByteArray) (w : World) (h : Nat) (o : Rc (Tr Bool)) (e : Ending) (w' : World) : Prop :=
  e = .returned (.tuple #[]) ∧ Apart b w w' ∧ ∃ (n : Nat) (t' : ByteArray), n ≤ 8 * s.size ∧ t'.size + 3 ≤ text.size + 4 * 2 ^ h ∧
  match o with
  | ⟨.inl (t, k, _)⟩ => n = k ∧ t' = text ++ strOf (idText t) ∧ Bt b s n (-1) t' w'
  | ⟨.inr j⟩ => Bt b s n (j : Nat) t' w'

theorem pow_one (h : Nat) : 1 ≤ 2 ^ h := Nat.one_le_two_pow
theorem idText_bitB (x : Bool) : strOf (idText (.leaf x)) = strOf (digs x.toNat) := by cases x <;> rfl

set_option maxHeartbeats 400000 in
theorem bid_end (b : Nat) (s : ByteArray) (hs : s.size ≤ 20000) (h d k : Nat) (r : Bool) (text : ByteArray) (w : World) (h0 : Bt b s k (-1) text w) (hk : k = 8 * s.size) :
    Calls Tryz.prog 92 #[.pointer (some ⟨b, 0, none⟩), .int .i64 (d : Nat)] w fun e w' => BIdEnd b s text w h (idC s h k r) e w' := by
  rw [idC_end h (by omega)]
  have R := hide (bnext_end b s k text w h0 hs hk)
  have P := pow_one h
  have HK := hide hk
  clear h0 hk
  go_enter Tryz.func92, Tryz.ntmps92
  go_wp2_with fail
  refine (unhide R).mono ?_
  rintro e w1 ⟨rfl, h1, a1⟩
  obtain ⟨c0, c1, c2, c3, cf⟩ := h1.cells
  have s0 : (0 : Int) ≤ (s.size : Int) := by omega
  replace h1 := hide h1
  go_wp2_with fail
  go_end0
  exact ⟨rfl, a1, k, text, by have := unhide HK; omega, by omega, unhide h1⟩

set_option maxRecDepth 100000 in
set_option maxHeartbeats 1600000 in
theorem bid_leaf (b : Nat) (s : ByteArray) (hs : s.size ≤ 20000) (h d k : Nat) (r : Bool) (T : ByteArray) (w : World) (h0 : Bt b s k (-1) T w) (hk : k < 8 * s.size) (hb : bitAt s k = false) (hT : T.size ≤ 1000000) :
    Calls Tryz.prog 92 #[.pointer (some ⟨b, 0, none⟩), .int .i64 (d : Nat)] w fun e w' => BIdEnd b s T w h (idC s h k r) e w' := by
  rw [idC_leaf h (by omega) hb]
  have R := bnext_ok b s k T w h0 hs hk
  rw [hb] at R
  have R := hide R
  have P := pow_one h
  clear hb h0
  by_cases hend : k + 1 = 8 * s.size
  · rw [leafC, if_pos (by omega)]
    have RE := hide (fun w (h : Bt b s (k + 1) (-1) T w) => bnext_end b s (k + 1) T w h hs hend)
    have HK : Hid (k + 1 ≤ 8 * s.size) := hide (by omega)
    have RT := hide (rtext_any 0 (by omega))
    have DL : (strOf (digs 0)).size = 1 := by rw [(digs_zero 0).2 rfl]; rfl
    generalize strOf (digs 0) = D at *
    obtain ⟨U, hU⟩ : ∃ U, T ++ D = U := ⟨_, rfl⟩
    have US : U.size = T.size + 1 := by rw [← hU, ByteArray.size_append]; omega
    have CAT := cat_ok T D (by omega)
    rw [hU] at CAT
    clear hk hend hU
    go_enter Tryz.func92, Tryz.ntmps92
    go_wp2_with fail
    refine (unhide R).mono ?_
    rintro e w1 ⟨rfl, h1, a1⟩
    obtain ⟨c0, c1, c2, c3, cf⟩ := h1.cells
    replace RE := hide (unhide RE _ h1)
    clear h1
    replace a1 := hide a1
    go_wp2_with fail
    refine (unhide RE).mono ?_
    rintro e w2 ⟨rfl, h2, a2⟩
    have HB := hide h2
    clear c0 c1 c2 c3 cf h2
    replace a2 := hide a2
    go_wp2_with fail
    have C3 : w2.drew.cell? ⟨b, 3, none⟩ = some (.string T) := (unhide HB).cells.2.2.2.1
    refine wp_region_held_drew (S := fun _ => True) (by kernel_rfl) trivial (fun hHeld => ?_)
    refine wpAnyH_take (i := 0) (oi := ⟨some 17, .move (.tmp 0), _, _, _, none⟩) (v := .pointer (some ⟨b, 0, none⟩)) rfl (by kernel_rfl) (by kernel_rfl) (by kernel_rfl) (fun _ _ _ h => h) (Or.inl ⟨by rfl, fun w' hS' => ?_⟩) hHeld ?_
    · go_simp
    simp only [Act.put, List.setIfInBounds_toArray, List.set_cons_zero, List.set_cons_succ]
    refine wpAnyH_take (i := 1) (oi := ⟨some 18, .move (.tmp 0), _, _, _, none⟩) (v := .pointer (some ⟨b, 0, none⟩)) rfl (by kernel_rfl) (by kernel_rfl) (by kernel_rfl) (fun _ _ _ h => h) (Or.inl ⟨by rfl, fun w' hS' => ?_⟩) hHeld ?_
    · go_simp
    simp only [Act.put, List.setIfInBounds_toArray, List.set_cons_zero, List.set_cons_succ]
    refine wpAnyH_take (i := 2) (oi := ⟨some 19, .nilCheck (.tmp 18), _, _, _, none⟩) (v := .pointer (some ⟨b, 0, none⟩)) rfl (by kernel_rfl) (by kernel_rfl) (by kernel_rfl) (fun _ _ _ h => h) (Or.inl ⟨by rfl, fun w' hS' => ?_⟩) hHeld ?_
    · go_simp
    simp only [Act.put, List.setIfInBounds_toArray, List.set_cons_zero, List.set_cons_succ]
    refine wpAnyH_take (i := 3) (oi := ⟨some 20, .fieldAddr 132 (.tmp 19) 3, _, _, _, none⟩) (v := .pointer (some ⟨b, 3, none⟩)) rfl (by kernel_rfl) (by kernel_rfl) (by kernel_rfl) (fun _ _ _ h => h) (Or.inl ⟨by rfl, fun w' hS' => ?_⟩) hHeld ?_
    · go_simp
    simp only [Act.put, List.setIfInBounds_toArray, List.set_cons_zero, List.set_cons_succ]
    refine wpAnyH_take (i := 5) (oi := ⟨some 22, .move (.tmp 5), _, _, _, none⟩) (v := .int .i64 ((0 : Nat) : Int)) rfl (by kernel_rfl) (by kernel_rfl) (by kernel_rfl) (fun _ _ _ h => h) (Or.inl ⟨by rfl, fun w' hS' => ?_⟩) hHeld ?_
    · go_simp
    simp only [Act.put, List.setIfInBounds_toArray, List.set_cons_zero, List.set_cons_succ]
    refine wpAnyH_ready (rs := [4, 6]) (by kernel_rfl) (by simp) ?_
    refine AllReadyH.cons (o := ⟨some 21, .load 9 (.tmp 20), _, _, _, none⟩) rfl (fun K hK => ?_) ?_
    · refine rstep_run rfl (.string T) (exec_load_str _ ⟨b, 3, none⟩ _ rfl C3) ?_
      refine hK.out _ _ trivial (fun hHeld => ?_)
      clear hK K
      simp only [Act.put, List.setIfInBounds_toArray, List.set_cons_zero, List.set_cons_succ]
      refine wpAnyH_ready (rs := [6]) (by kernel_rfl) (by simp) ?_
      refine AllReadyH.cons (o := ⟨some 23, .call { callee := .value (.func 130), args := #[.tmp 22], argTypes := #[3] }, _, _, _, none⟩) rfl (fun K hK => ?_) AllReadyH.nil
      go_simp
      refine (unhide RT _).mono ?_
      rintro o1 w4 ⟨rfl, b4⟩
      have h4 := Bt.below (w := w2.drew) (unhide HB) b4
      have a4 := Apart.of_below b4 b
      replace b4 := hide b4
      refine hK.out _ _ trivial (fun hHeld => ?_)
      clear hK K
      refine wpAnyH_take (i := 7) (oi := ⟨some 24, .binOp .add 9 (.tmp 21) (.tmp 23) 9, _, _, _, none⟩) (v := .string U) rfl (by kernel_rfl) (by kernel_rfl) (by kernel_rfl) (fun _ _ _ h => h) (Or.inl ⟨by rfl, fun w' hS' => ?_⟩) hHeld ?_
      · exact exec_add_str w' T D U rfl rfl CAT
      simp only [Act.put, List.setIfInBounds_toArray, List.set_cons_zero, List.set_cons_succ]
      refine wpAnyH_take (i := 8) (oi := ⟨some 25, .nilCheck (.tmp 17), _, _, _, none⟩) (v := .pointer (some ⟨b, 0, none⟩)) rfl (by kernel_rfl) (by kernel_rfl) (by kernel_rfl) (fun _ _ _ h => h) (Or.inl ⟨by rfl, fun w' hS' => ?_⟩) hHeld ?_
      · go_simp
      simp only [Act.put, List.setIfInBounds_toArray, List.set_cons_zero, List.set_cons_succ]
      refine wpAnyH_take (i := 9) (oi := ⟨some 26, .fieldAddr 132 (.tmp 25) 3, _, _, _, none⟩) (v := .pointer (some ⟨b, 3, none⟩)) rfl (by kernel_rfl) (by kernel_rfl) (by kernel_rfl) (fun _ _ _ h => h) (Or.inl ⟨by rfl, fun w' hS' => ?_⟩) hHeld ?_
      · go_simp
      simp only [Act.put, List.setIfInBounds_toArray, List.set_cons_zero, List.set_cons_succ]
      refine wpAnyH_ready (rs := [10]) (by kernel_rfl) (by simp) ?_
      refine AllReadyH.cons (o := ⟨none, .store 9 (.tmp 26) (.tmp 24), _, _, _, none⟩) rfl (fun K hK => ?_) AllReadyH.nil
      refine rstep_skip rfl (exec_store_str w4 ⟨b, 3, none⟩ U _ rfl rfl h4.cells.2.2.2.1 (h4.cells.2.2.2.2 3)) ?_
      refine hK.out _ _ trivial (fun hHeld => ?_)
      clear hK K hHeld
      simp only [Act.put]
      refine wpAnyH_done (by kernel_rfl) ?_ _
      have h5 := h4.setText U
      have a5 := a4.setCell (p := ⟨b, 3, none⟩) rfl (.string U)
      generalize w4.setCell ⟨b, 3, none⟩ (.string U) = W5 at *
      replace h5 := hide h5
      replace a5 := hide a5
      clear h4 a4
      go_wp2_with fail
      go_end0
      exact ⟨rfl, ((unhide a1).trans (unhide a2)).trans ((Apart.drewN b w2 1).trans (unhide a5)), k + 1, U, unhide HK, by omega, unhide h5⟩
    refine AllReadyH.cons (o := ⟨some 23, .call { callee := .value (.func 130), args := #[.tmp 22], argTypes := #[3] }, _, _, _, none⟩) rfl (fun K hK => ?_) AllReadyH.nil
    go_simp
    refine (unhide RT _).mono ?_
    rintro o1 w4 ⟨rfl, b4⟩
    have h4 := Bt.below (w := w2.drew) (unhide HB) b4
    have a4 := Apart.of_below b4 b
    replace b4 := hide b4
    refine hK.out _ _ trivial (fun hHeld => ?_)
    clear hK K
    refine wpAnyH_ready (rs := [4]) (by kernel_rfl) (by simp) ?_
    refine AllReadyH.cons (o := ⟨some 21, .load 9 (.tmp 20), _, _, _, none⟩) rfl (fun K hK => ?_) AllReadyH.nil
    refine rstep_run rfl (.string T) (exec_load_str _ ⟨b, 3, none⟩ _ rfl h4.cells.2.2.2.1) ?_
    refine hK.out _ _ trivial (fun hHeld => ?_)
    clear hK K
    simp only [Act.put, List.setIfInBounds_toArray, List.set_cons_zero, List.set_cons_succ]
    refine wpAnyH_take (i := 7) (oi := ⟨some 24, .binOp .add 9 (.tmp 21) (.tmp 23) 9, _, _, _, none⟩) (v := .string U) rfl (by kernel_rfl) (by kernel_rfl) (by kernel_rfl) (fun _ _ _ h => h) (Or.inl ⟨by rfl, fun w' hS' => ?_⟩) hHeld ?_
    · exact exec_add_str w' T D U rfl rfl CAT
    simp only [Act.put, List.setIfInBounds_toArray, List.set_cons_zero, List.set_cons_succ]
    refine wpAnyH_take (i := 8) (oi := ⟨some 25, .nilCheck (.tmp 17), _, _, _, none⟩) (v := .pointer (some ⟨b, 0, none⟩)) rfl (by kernel_rfl) (by kernel_rfl) (by kernel_rfl) (fun _ _ _ h => h) (Or.inl ⟨by rfl, fun w' hS' => ?_⟩) hHeld ?_
    · go_simp
    simp only [Act.put, List.setIfInBounds_toArray, List.set_cons_zero, List.set_cons_succ]
    refine wpAnyH_take (i := 9) (oi := ⟨some 26, .fieldAddr 132 (.tmp 25) 3, _, _, _, none⟩) (v := .pointer (some ⟨b, 3, none⟩)) rfl (by kernel_rfl) (by kernel_rfl) (by kernel_rfl) (fun _ _ _ h => h) (Or.inl ⟨by rfl, fun w' hS' => ?_⟩) hHeld ?_
    · go_simp
    simp only [Act.put, List.setIfInBounds_toArray, List.set_cons_zero, List.set_cons_succ]
    refine wpAnyH_ready (rs := [10]) (by kernel_rfl) (by simp) ?_
    refine AllReadyH.cons (o := ⟨none, .store 9 (.tmp 26) (.tmp 24), _, _, _, none⟩) rfl (fun K hK => ?_) AllReadyH.nil
    refine rstep_skip rfl (exec_store_str w4 ⟨b, 3, none⟩ U _ rfl rfl h4.cells.2.2.2.1 (h4.cells.2.2.2.2 3)) ?_
    refine hK.out _ _ trivial (fun hHeld => ?_)
    clear hK K hHeld
    simp only [Act.put]
    refine wpAnyH_done (by kernel_rfl) ?_ _
    have h5 := h4.setText U
    have a5 := a4.setCell (p := ⟨b, 3, none⟩) rfl (.string U)
    generalize w4.setCell ⟨b, 3, none⟩ (.string U) = W5 at *
    replace h5 := hide h5
    replace a5 := hide a5
    clear h4 a4
    go_wp2_with fail
    go_end0
    exact ⟨rfl, ((unhide a1).trans (unhide a2)).trans ((Apart.drewN b w2 1).trans (unhide a5)), k + 1, U, unhide HK, by omega, unhide h5⟩
  · rw [leafC, if_neg (by omega)]
    have RB := hide (fun w (h : Bt b s (k + 1) (-1) T w) => bnext_ok b s (k + 1) T w h hs (by omega))
    have IT := idText_bitB (bitAt s (k + 1))
    have HK : Hid (k + 1 + 1 ≤ 8 * s.size) := hide (by omega)
    have YB : (bitAt s (k + 1)).toNat ≤ 1 := by cases bitAt s (k + 1) <;> decide
    have DL : (strOf (digs (bitAt s (k + 1)).toNat)).size = 1 := by rw [strOf_size, digs_one _ (by omega)]; rfl
    have RT := hide (rtext_any (bitAt s (k + 1)).toNat (by omega))
    generalize bitAt s (k + 1) = B at *
    generalize B.toNat = Y at *
    generalize strOf (digs Y) = D at *
    replace IT := hide IT
    obtain ⟨U, hU⟩ : ∃ U, T ++ D = U := ⟨_, rfl⟩
    have US : U.size = T.size + 1 := by rw [← hU, ByteArray.size_append]; omega
    have CAT := cat_ok T D (by omega)
    rw [hU] at CAT
    replace hU := hide hU
    clear hk hend
    go_enter Tryz.func92, Tryz.ntmps92
    go_wp2_with fail
    refine (unhide R).mono ?_
    rintro e w1 ⟨rfl, h1, a1⟩
    obtain ⟨c0, c1, c2, c3, cf⟩ := h1.cells
    replace RB := hide (unhide RB _ h1)
    clear h1
    replace a1 := hide a1
    go_wp2_with fail
    refine (unhide RB).mono ?_
    rintro e w2 ⟨rfl, h2, a2⟩
    have HB := hide h2
    clear c0 c1 c2 c3 cf h2
    replace a2 := hide a2
    go_wp2_with fail
    have C3 : w2.drew.cell? ⟨b, 3, none⟩ = some (.string T) := (unhide HB).cells.2.2.2.1
    refine wp_region_held_drew (S := fun _ => True) (by kernel_rfl) trivial (fun hHeld => ?_)
    refine wpAnyH_take (i := 0) (oi := ⟨some 17, .move (.tmp 0), _, _, _, none⟩) (v := .pointer (some ⟨b, 0, none⟩)) rfl (by kernel_rfl) (by kernel_rfl) (by kernel_rfl) (fun _ _ _ h => h) (Or.inl ⟨by rfl, fun w' hS' => ?_⟩) hHeld ?_
    · go_simp
    simp only [Act.put, List.setIfInBounds_toArray, List.set_cons_zero, List.set_cons_succ]
    refine wpAnyH_take (i := 1) (oi := ⟨some 18, .move (.tmp 0), _, _, _, none⟩) (v := .pointer (some ⟨b, 0, none⟩)) rfl (by kernel_rfl) (by kernel_rfl) (by kernel_rfl) (fun _ _ _ h => h) (Or.inl ⟨by rfl, fun w' hS' => ?_⟩) hHeld ?_
    · go_simp
    simp only [Act.put, List.setIfInBounds_toArray, List.set_cons_zero, List.set_cons_succ]
    refine wpAnyH_take (i := 2) (oi := ⟨some 19, .nilCheck (.tmp 18), _, _, _, none⟩) (v := .pointer (some ⟨b, 0, none⟩)) rfl (by kernel_rfl) (by kernel_rfl) (by kernel_rfl) (fun _ _ _ h => h) (Or.inl ⟨by rfl, fun w' hS' => ?_⟩) hHeld ?_
    · go_simp
    simp only [Act.put, List.setIfInBounds_toArray, List.set_cons_zero, List.set_cons_succ]
    refine wpAnyH_take (i := 3) (oi := ⟨some 20, .fieldAddr 132 (.tmp 19) 3, _, _, _, none⟩) (v := .pointer (some ⟨b, 3, none⟩)) rfl (by kernel_rfl) (by kernel_rfl) (by kernel_rfl) (fun _ _ _ h => h) (Or.inl ⟨by rfl, fun w' hS' => ?_⟩) hHeld ?_
    · go_simp
    simp only [Act.put, List.setIfInBounds_toArray, List.set_cons_zero, List.set_cons_succ]
    refine wpAnyH_take (i := 5) (oi := ⟨some 22, .move (.tmp 5), _, _, _, none⟩) (v := .int .i64 (Y : Nat)) rfl (by kernel_rfl) (by kernel_rfl) (by kernel_rfl) (fun _ _ _ h => h) (Or.inl ⟨by rfl, fun w' hS' => ?_⟩) hHeld ?_
    · go_simp
    simp only [Act.put, List.setIfInBounds_toArray, List.set_cons_zero, List.set_cons_succ]
    refine wpAnyH_ready (rs := [4, 6]) (by kernel_rfl) (by simp) ?_
    refine AllReadyH.cons (o := ⟨some 21, .load 9 (.tmp 20), _, _, _, none⟩) rfl (fun K hK => ?_) ?_
    · refine rstep_run rfl (.string T) (exec_load_str _ ⟨b, 3, none⟩ _ rfl C3) ?_
      refine hK.out _ _ trivial (fun hHeld => ?_)
      clear hK K
      simp only [Act.put, List.setIfInBounds_toArray, List.set_cons_zero, List.set_cons_succ]
      refine wpAnyH_ready (rs := [6]) (by kernel_rfl) (by simp) ?_
      refine AllReadyH.cons (o := ⟨some 23, .call { callee := .value (.func 130), args := #[.tmp 22], argTypes := #[3] }, _, _, _, none⟩) rfl (fun K hK => ?_) AllReadyH.nil
      go_simp
      refine (unhide RT _).mono ?_
      rintro o1 w4 ⟨rfl, b4⟩
      have h4 := Bt.below (w := w2.drew) (unhide HB) b4
      have a4 := Apart.of_below b4 b
      replace b4 := hide b4
      refine hK.out _ _ trivial (fun hHeld => ?_)
      clear hK K
      refine wpAnyH_take (i := 7) (oi := ⟨some 24, .binOp .add 9 (.tmp 21) (.tmp 23) 9, _, _, _, none⟩) (v := .string U) rfl (by kernel_rfl) (by kernel_rfl) (by kernel_rfl) (fun _ _ _ h => h) (Or.inl ⟨by rfl, fun w' hS' => ?_⟩) hHeld ?_
      · exact exec_add_str w' T D U rfl rfl CAT
      simp only [Act.put, List.setIfInBounds_toArray, List.set_cons_zero, List.set_cons_succ]
      refine wpAnyH_take (i := 8) (oi := ⟨some 25, .nilCheck (.tmp 17), _, _, _, none⟩) (v := .pointer (some ⟨b, 0, none⟩)) rfl (by kernel_rfl) (by kernel_rfl) (by kernel_rfl) (fun _ _ _ h => h) (Or.inl ⟨by rfl, fun w' hS' => ?_⟩) hHeld ?_
      · go_simp
      simp only [Act.put, List.setIfInBounds_toArray, List.set_cons_zero, List.set_cons_succ]
      refine wpAnyH_take (i := 9) (oi := ⟨some 26, .fieldAddr 132 (.tmp 25) 3, _, _, _, none⟩) (v := .pointer (some ⟨b, 3, none⟩)) rfl (by kernel_rfl) (by kernel_rfl) (by kernel_rfl) (fun _ _ _ h => h) (Or.inl ⟨by rfl, fun w' hS' => ?_⟩) hHeld ?_
      · go_simp
      simp only [Act.put, List.setIfInBounds_toArray, List.set_cons_zero, List.set_cons_succ]
      refine wpAnyH_ready (rs := [10]) (by kernel_rfl) (by simp) ?_
      refine AllReadyH.cons (o := ⟨none, .store 9 (.tmp 26) (.tmp 24), _, _, _, none⟩) rfl (fun K hK => ?_) AllReadyH.nil
      refine rstep_skip rfl (exec_store_str w4 ⟨b, 3, none⟩ U _ rfl rfl h4.cells.2.2.2.1 (h4.cells.2.2.2.2 3)) ?_
      refine hK.out _ _ trivial (fun hHeld => ?_)
      clear hK K hHeld
      simp only [Act.put]
      refine wpAnyH_done (by kernel_rfl) ?_ _
      have h5 := h4.setText U
      have a5 := a4.setCell (p := ⟨b, 3, none⟩) rfl (.string U)
      generalize w4.setCell ⟨b, 3, none⟩ (.string U) = W5 at *
      replace h5 := hide h5
      replace a5 := hide a5
      clear h4 a4
      go_wp2_with fail
      go_end0
      exact ⟨rfl, ((unhide a1).trans (unhide a2)).trans ((Apart.drewN b w2 1).trans (unhide a5)), k + 1 + 1, U, unhide HK, by omega, rfl, by rw [unhide IT, unhide hU], unhide h5⟩
    refine AllReadyH.cons (o := ⟨some 23, .call { callee := .value (.func 130), args := #[.tmp 22], argTypes := #[3] }, _, _, _, none⟩) rfl (fun K hK => ?_) AllReadyH.nil
    go_simp
    refine (unhide RT _).mono ?_
    rintro o1 w4 ⟨rfl, b4⟩
    have h4 := Bt.below (w := w2.drew) (unhide HB) b4
    have a4 := Apart.of_below b4 b
    replace b4 := hide b4
    refine hK.out _ _ trivial (fun hHeld => ?_)
    clear hK K
    refine wpAnyH_ready (rs := [4]) (by kernel_rfl) (by simp) ?_
    refine AllReadyH.cons (o := ⟨some 21, .load 9 (.tmp 20), _, _, _, none⟩) rfl (fun K hK => ?_) AllReadyH.nil
    refine rstep_run rfl (.string T) (exec_load_str _ ⟨b, 3, none⟩ _ rfl h4.cells.2.2.2.1) ?_
    refine hK.out _ _ trivial (fun hHeld => ?_)
    clear hK K
    simp only [Act.put, List.setIfInBounds_toArray, List.set_cons_zero, List.set_cons_succ]
    refine wpAnyH_take (i := 7) (oi := ⟨some 24, .binOp .add 9 (.tmp 21) (.tmp 23) 9, _, _, _, none⟩) (v := .string U) rfl (by kernel_rfl) (by kernel_rfl) (by kernel_rfl) (fun _ _ _ h => h) (Or.inl ⟨by rfl, fun w' hS' => ?_⟩) hHeld ?_
    · exact exec_add_str w' T D U rfl rfl CAT
    simp only [Act.put, List.setIfInBounds_toArray, List.set_cons_zero, List.set_cons_succ]
    refine wpAnyH_take (i := 8) (oi := ⟨some 25, .nilCheck (.tmp 17), _, _, _, none⟩) (v := .pointer (some ⟨b, 0, none⟩)) rfl (by kernel_rfl) (by kernel_rfl) (by kernel_rfl) (fun _ _ _ h => h) (Or.inl ⟨by rfl, fun w' hS' => ?_⟩) hHeld ?_
    · go_simp
    simp only [Act.put, List.setIfInBounds_toArray, List.set_cons_zero, List.set_cons_succ]
    refine wpAnyH_take (i := 9) (oi := ⟨some 26, .fieldAddr 132 (.tmp 25) 3, _, _, _, none⟩) (v := .pointer (some ⟨b, 3, none⟩)) rfl (by kernel_rfl) (by kernel_rfl) (by kernel_rfl) (fun _ _ _ h => h) (Or.inl ⟨by rfl, fun w' hS' => ?_⟩) hHeld ?_
    · go_simp
    simp only [Act.put, List.setIfInBounds_toArray, List.set_cons_zero, List.set_cons_succ]
    refine wpAnyH_ready (rs := [10]) (by kernel_rfl) (by simp) ?_
    refine AllReadyH.cons (o := ⟨none, .store 9 (.tmp 26) (.tmp 24), _, _, _, none⟩) rfl (fun K hK => ?_) AllReadyH.nil
    refine rstep_skip rfl (exec_store_str w4 ⟨b, 3, none⟩ U _ rfl rfl h4.cells.2.2.2.1 (h4.cells.2.2.2.2 3)) ?_
    refine hK.out _ _ trivial (fun hHeld => ?_)
    clear hK K hHeld
    simp only [Act.put]
    refine wpAnyH_done (by kernel_rfl) ?_ _
    have h5 := h4.setText U
    have a5 := a4.setCell (p := ⟨b, 3, none⟩) rfl (.string U)
    generalize w4.setCell ⟨b, 3, none⟩ (.string U) = W5 at *
    replace h5 := hide h5
    replace a5 := hide a5
    clear h4 a4
    go_wp2_with fail
    go_end0
    exact ⟨rfl, ((unhide a1).trans (unhide a2)).trans ((Apart.drewN b w2 1).trans (unhide a5)), k + 1 + 1, U, unhide HK, by omega, rfl, by rw [unhide IT, unhide hU], unhide h5⟩

set_option maxHeartbeats 400000 in
theorem bid_deep (b : Nat) (s : ByteArray) (hs : s.size ≤ 20000) (k : Nat) (r : Bool) (text : ByteArray) (w : World) (h0 : Bt b s k (-1) text w) (hk : k < 8 * s.size) (hb : bitAt s k = true) :
    Calls Tryz.prog 92 #[.pointer (some ⟨b, 0, none⟩), .int .i64 8] w fun e w' => BIdEnd b s text w 0 (idC s 0 k r) e w' := by
  rw [idC_deep (by omega) hb]
  have R := bnext_ok b s k text w h0 hs hk
  rw [hb] at R
  have R := hide R
  clear hb h0
  have L := hide (fun w h => blast_any b s k (-1) text w h (by omega))
  have F := hide (fun w h => bfail_first b s (k + 1) (k / 8) text w h)
  have HK := hide hk
  clear hk
  generalize k / 8 = q at *
  go_enter Tryz.func92, Tryz.ntmps92
  go_wp2_with fail
  refine (unhide R).mono ?_
  rintro e w1 ⟨rfl, h1, a1⟩
  obtain ⟨c0, c1, c2, c3, cf⟩ := h1.cells
  replace L := hide (unhide L _ h1)
  replace F := hide (unhide F _ h1)
  clear h1
  replace a1 := hide a1
  go_wp2_with fail
  refine (unhide L).mono ?_
  rintro e w2 ⟨rfl, rfl⟩
  go_wp2_with fail
  refine (unhide F).mono ?_
  rintro e w3 ⟨rfl, h3, a3⟩
  clear c0 c1 c2 c3 cf
  go_wp2_with fail
  go_end0
  exact ⟨rfl, (unhide a1).trans a3, k + 1, text, by have := unhide HK; omega, by omega, h3⟩

theorem idText_pairS (T : ByteArray) (l t : Tr Bool) : T ++ { data := #[40] } ++ strOf (idText l) ++ { data := #[44] } ++ strOf (idText t) ++ { data := #[41] } = T ++ strOf (idText (.pair l t)) := by
  rw [show ({ data := #[40] } : ByteArray) = strOf [40] from rfl, show ({ data := #[44] } : ByteArray) = strOf [44] from rfl, show ({ data := #[41] } : ByteArray) = strOf [41] from rfl]
  simp only [ByteArray.append_assoc, strOf_append]
  congr 2
  simp [idText]

set_option maxRecDepth 100000 in
set_option maxHeartbeats 1600000 in
theorem bid_pair (b : Nat) (s : ByteArray) (hs : s.size ≤ 20000) (h d : Nat) (hd : d < 8)
    (ih : Hid (∀ (k : Nat) (r : Bool) (T : ByteArray) (w : World), Bt b s k (-1) T w → k ≤ 8 * s.size → T.size + 4 * 2 ^ h ≤ 1000000 → Calls Tryz.prog 92 #[.pointer (some ⟨b, 0, none⟩), .int .i64 ((d : Int) + 1)] w fun e w' => BIdEnd b s T w h (idC s h k r) e w'))
    (k : Nat) (r : Bool) (T : ByteArray) (w : World) (h0 : Bt b s k (-1) T w) (hk : k < 8 * s.size) (hb : bitAt s k = true) (hT : T.size + 4 * 2 ^ (h + 1) ≤ 1000000) :
    Calls Tryz.prog 92 #[.pointer (some ⟨b, 0, none⟩), .int .i64 (d : Nat)] w fun e w' => BIdEnd b s T w (h + 1) (idC s (h + 1) k r) e w' := by
  have HB := hide hb
  have R := bnext_ok b s k T w h0 hs hk
  rw [hb] at R
  have R := hide R
  have P2 : Hid (2 ^ (h + 1) = 2 * 2 ^ h) := hide (by rw [Nat.pow_succ]; omega)
  have P1 := hide (pow_one h)
  obtain ⟨T1, hT1⟩ : ∃ U, T ++ { data := #[40] } = U := ⟨_, rfl⟩
  have S1 : Hid (T1.size = T.size + 1) := hide (by rw [← hT1, ByteArray.size_append]; rfl)
  have CAT := cat_ok T { data := #[40] } (by show T.size + 1 ≤ _; omega)
  rw [hT1] at CAT
  replace hT1 := hide hT1
  have d8 : ¬ (d : Int) = 8 := by omega
  have HK := hide hk
  have TX := hide (idText_pairS T)
  replace hT := hide hT
  clear hb h0 hk
  go_enter Tryz.func92, Tryz.ntmps92
  go_wp2_with fail
  refine (unhide R).mono ?_
  rintro e w1 ⟨rfl, h1, a1⟩
  obtain ⟨c0, c1, c2, c3, cf⟩ := h1.cells
  have h2 := hide (h1.setText T1)
  have a2 := hide (a1.setCell (p := ⟨b, 3, none⟩) rfl (.string T1))
  clear h1 a1
  go_wp2_with fail
  generalize w1.setCell ⟨b, 3, none⟩ (.string T1) = W2 at *
  have IH := hide (fun r => unhide ih (k + 1) r T1 W2 (unhide h2) (by have := unhide HK; omega) (by have := unhide hT; have := unhide P2; have := unhide P1; have := unhide S1; omega))
  clear c0 c1 c2 c3 cf CAT
  cases f : idC s h (k + 1) r using Rc.cs with
  | bad j =>
    have HF := hide (idC_bad1 (by have := unhide HK; omega) (unhide HB) f)
    replace IH := unhide IH r
    rw [f] at IH
    have IH := hide IH
    clear f
    refine (unhide IH).mono ?_
    rintro e w3 ⟨rfl, a3, n, t1, hn, z1, h3⟩
    have j0 : ¬ (j : Int) < 0 := by omega
    obtain ⟨c0, c1, c2, c3, cf⟩ := h3.cells
    obtain ⟨U2, hU2⟩ : ∃ U, t1 ++ { data := #[44] } = U := ⟨_, rfl⟩
    have S2 : U2.size = t1.size + 1 := by rw [← hU2, ByteArray.size_append]; rfl
    have CA2 := cat_ok t1 { data := #[44] } (by show t1.size + 1 ≤ _; have := unhide hT; have := unhide P2; have := unhide P1; have := unhide S1; omega)
    rw [hU2] at CA2
    obtain ⟨U3, hU3⟩ : ∃ U, U2 ++ { data := #[41] } = U := ⟨_, rfl⟩
    have S3 : U3.size = U2.size + 1 := by rw [← hU3, ByteArray.size_append]; rfl
    have CA3 := cat_ok U2 { data := #[41] } (by show U2.size + 1 ≤ _; have := unhide hT; have := unhide P2; have := unhide P1; have := unhide S1; omega)
    rw [hU3] at CA3
    have h5 := hide ((h3.setText U2).setText U3)
    have a5 := hide (((unhide a2).trans a3).setCell (p := ⟨b, 3, none⟩) rfl (.string U2))
    replace a5 := hide ((unhide a5).setCell (p := ⟨b, 3, none⟩) rfl (.string U3))
    have Z : Hid (U3.size + 3 ≤ T.size + 4 * 2 ^ (h + 1)) := hide (by have := unhide P2; have := unhide P1; have := unhide S1; omega)
    replace hn := hide hn
    clear h3 a3 S2 S3 z1 hU2 hU3
    go_wp2_with fail
    go_end0
    rw [unhide HF]
    exact ⟨rfl, unhide a5, n, U3, unhide hn, unhide Z, unhide h5⟩
  | ok l k1 r1 =>
    have HF0 := hide f
    replace IH := unhide IH r
    rw [f] at IH
    have IH := hide IH
    clear f
    refine (unhide IH).mono ?_
    rintro e w3 ⟨rfl, a3, n, t1, hn, z1, rfl, ht1, h3⟩
    obtain ⟨c0, c1, c2, c3, cf⟩ := h3.cells
    obtain ⟨U2, hU2⟩ : ∃ U, t1 ++ { data := #[44] } = U := ⟨_, rfl⟩
    have S2 : U2.size = t1.size + 1 := by rw [← hU2, ByteArray.size_append]; rfl
    have CA2 := cat_ok t1 { data := #[44] } (by show t1.size + 1 ≤ _; have := unhide hT; have := unhide P2; have := unhide P1; have := unhide S1; omega)
    rw [hU2] at CA2
    have h4 := hide (h3.setText U2)
    have a4 := hide (((unhide a2).trans a3).setCell (p := ⟨b, 3, none⟩) rfl (.string U2))
    have Z2 : Hid (U2.size + 4 * 2 ^ h ≤ 1000000 ∧ U2.size + 2 ≤ T.size + 1 + 4 * 2 ^ h) := hide (by have := unhide hT; have := unhide P2; have := unhide P1; have := unhide S1; omega)
    replace hn := hide hn
    replace ht1 := hide ht1
    replace hU2 := hide hU2
    clear h3 a3 S2 z1 IH h2 a2
    go_wp2_with fail
    generalize w3.setCell ⟨b, 3, none⟩ (.string U2) = W4 at *
    clear c0 c1 c2 c3 cf CA2
    have IH := unhide ih n r1 U2 W4 (unhide h4) (unhide hn) (unhide Z2).1
    cases f : idC s h n r1 using Rc.cs with
    | bad j =>
      have HF := hide (idC_bad2 (by have := unhide HK; omega) (unhide HB) (unhide HF0) f)
      rw [f] at IH
      have IH := hide IH
      clear f
      refine (unhide IH).mono ?_
      rintro e w5 ⟨rfl, a5, n5, t2, hn5, z5, h5⟩
      obtain ⟨c0, c1, c2, c3, cf⟩ := h5.cells
      obtain ⟨U3, hU3⟩ : ∃ U, t2 ++ { data := #[41] } = U := ⟨_, rfl⟩
      have S3 : U3.size = t2.size + 1 := by rw [← hU3, ByteArray.size_append]; rfl
      have CA3 := cat_ok t2 { data := #[41] } (by show t2.size + 1 ≤ _; have := unhide Z2; omega)
      rw [hU3] at CA3
      have h6 := hide (h5.setText U3)
      have a6 := hide (((unhide a4).trans a5).setCell (p := ⟨b, 3, none⟩) rfl (.string U3))
      have Z : Hid (U3.size + 3 ≤ T.size + 4 * 2 ^ (h + 1)) := hide (by have := unhide P2; have := unhide P1; have := unhide Z2; omega)
      replace hn5 := hide hn5
      clear h5 a5 S3 z5 hU3
      go_wp2_with fail
      go_end0
      rw [unhide HF]
      exact ⟨rfl, unhide a6, n5, U3, unhide hn5, unhide Z, unhide h6⟩
    | ok t k2 r2 =>
      have HF := hide (idC_pair (by have := unhide HK; omega) (unhide HB) (unhide HF0) f)
      rw [f] at IH
      have IH := hide IH
      clear f
      refine (unhide IH).mono ?_
      rintro e w5 ⟨rfl, a5, n5, t2, hn5, z5, rfl, ht2, h5⟩
      obtain ⟨c0, c1, c2, c3, cf⟩ := h5.cells
      obtain ⟨U3, hU3⟩ : ∃ U, t2 ++ { data := #[41] } = U := ⟨_, rfl⟩
      have S3 : U3.size = t2.size + 1 := by rw [← hU3, ByteArray.size_append]; rfl
      have CA3 := cat_ok t2 { data := #[41] } (by show t2.size + 1 ≤ _; have := unhide Z2; omega)
      rw [hU3] at CA3
      have h6 := hide (h5.setText U3)
      have a6 := hide (((unhide a4).trans a5).setCell (p := ⟨b, 3, none⟩) rfl (.string U3))
      have Z : Hid (U3.size + 3 ≤ T.size + 4 * 2 ^ (h + 1)) := hide (by have := unhide P2; have := unhide P1; have := unhide Z2; omega)
      have EQ : Hid (U3 = T ++ strOf (idText (.pair l t))) := hide (by rw [← unhide TX l t, unhide hT1, ← unhide ht1, unhide hU2, ← ht2, hU3])
      replace hn5 := hide hn5
      clear h5 a5 S3 z5 hU3 ht2
      go_wp2_with fail
      go_end0
      rw [unhide HF]
      exact ⟨rfl, unhide a6, n5, U3, unhide hn5, unhide Z, rfl, unhide EQ, unhide h6⟩

theorem bid_any (b : Nat) (s : ByteArray) (hs : s.size ≤ 20000) : ∀ (h d : Nat), d + h = 8 → ∀ (k : Nat) (r : Bool) (T : ByteArray) (w : World), Bt b s k (-1) T w → k ≤ 8 * s.size → T.size + 4 * 2 ^ h ≤ 1000000 →
    Calls Tryz.prog 92 #[.pointer (some ⟨b, 0, none⟩), .int .i64 (d : Nat)] w fun e w' => BIdEnd b s T w h (idC s h k r) e w' := by
  intro h
  induction h with
  | zero =>
    intro d hd k r T w h0 hk hT
    have e : d = 8 := by omega
    subst e
    by_cases hend : k = 8 * s.size
    · exact bid_end b s hs 0 8 k r T w h0 hend
    · cases hb : bitAt s k with
      | false => exact bid_leaf b s hs 0 8 k r T w h0 (by omega) hb (by omega)
      | true => exact bid_deep b s hs k r T w h0 (by omega) hb
  | succ h ih =>
    intro d hd k r T w h0 hk hT
    by_cases hend : k = 8 * s.size
    · exact bid_end b s hs (h + 1) d k r T w h0 hend
    · cases hb : bitAt s k with
      | false => exact bid_leaf b s hs (h + 1) d k r T w h0 (by omega) hb (by omega)
      | true => exact bid_pair b s hs h d (by omega) (hide (ih (d + 1) (by omega))) k r T w h0 (by omega) hb hT

end Go.Proofs.YtoebmfhgaalcdaaGreatDoor

namespace Go.Proofs.YtoebmfhgaalcdaaGreatDoor
open Go.RowKit

/-- Where the count of zeros stands: z of them, the last bit read x. -/
def Z1 (b : Nat) (s T : ByteArray) (k0 z x : Nat) (w : World) : Prop :=
  (∃ k, k < 8 * s.size ∧ Bt b s (k + 1) (-1) T w ∧ x = (bitAt s k).toNat ∧ z ≤ 40 ∧ zerosR s 41 k0 1 = zerosR s (41 - z) k (z + 1)) ∨
  (∃ n j : Nat, n ≤ 8 * s.size ∧ Bt b s n (j : Nat) T w ∧ x = 0 ∧ zerosR s 41 k0 1 = .bad j)
/-- Where the digits stand: z of z0 to come, more so far. -/
def Z2 (b : Nat) (s T : ByteArray) (k0 k1 z0 z more : Nat) (w : World) : Prop :=
  1 ≤ more ∧ more ≤ 4398046511104 ∧ z ≤ z0 ∧
  ((∃ j, 1 ≤ j ∧ j ≤ 8 * s.size ∧ Bt b s j (-1) T w ∧ more < 2 ^ (z0 - z + 1) ∧ restR s z0 k1 1 = restR s z j more) ∨
   (∃ j q : Nat, 1 ≤ j ∧ j ≤ 8 * s.size ∧ Bt b s j (q : Nat) T w ∧ gammaR s k0 = .bad q))
/-- What a call of num leaves. -/
def BNumEnd (b : Nat) (s text : ByteArray) (w : World) (o : Nm) (e : Ending) (w' : World) : Prop :=
  e = .returned (.tuple #[]) ∧ Apart b w w' ∧ ∃ (n : Nat) (t' : ByteArray), n ≤ 8 * s.size ∧ t'.size ≤ text.size + 13 ∧
  match o with
  | ⟨.inl (m, k)⟩ => n = k ∧ t' = text ++ strOf (digs m) ∧ m ≤ 1099511627776 ∧ Bt b s n (-1) t' w'
  | ⟨.inr j⟩ => Bt b s n (j : Nat) t' w'

theorem bnext_Z (b : Nat) (s : ByteArray) (hs : s.size ≤ 20000) (k0 z k : Nat) (T : ByteArray) (w : World) (h : Bt b s k (-1) T w) (hk : k ≤ 8 * s.size) (hz : z ≤ 40) (hR : zerosR s 41 k0 1 = zerosR s (41 - z) k (z + 1)) :
    Calls Tryz.prog 94 #[.pointer (some ⟨b, 0, none⟩)] w fun e w' => ∃ x : Nat, e = .returned (.int .i64 (x : Nat)) ∧ x ≤ 1 ∧ Apart b w w' ∧ Z1 b s T k0 z x w' := by
  by_cases hend : k = 8 * s.size
  · refine (bnext_end b s k T w h hs hend).mono ?_
    rintro e w' ⟨rfl, h1, a1⟩
    exact ⟨0, rfl, by omega, a1, Or.inr ⟨k, s.size, hk, h1, rfl, by rw [hR, show 41 - z = (40 - z) + 1 by omega, zerosR, if_pos (by omega)]⟩⟩
  · refine (bnext_ok b s k T w h hs (by omega)).mono ?_
    rintro e w' ⟨rfl, h1, a1⟩
    exact ⟨_, rfl, by cases bitAt s k <;> decide, a1, Or.inl ⟨k, by omega, h1, rfl, hz, hR⟩⟩

theorem bnext_Z2 (b : Nat) (s : ByteArray) (hs : s.size ≤ 20000) (k0 k1 z0 z j more : Nat) (T : ByteArray) (w : World) (h0 : z0 ≤ 40) (hz : z + 1 ≤ z0) (j1 : 1 ≤ j) (hj : j ≤ 8 * s.size) (h : Bt b s j (-1) T w) (m1 : 1 ≤ more) (hp : more < 2 ^ (z0 - (z + 1) + 1))
    (hZ : zerosR s 41 k0 1 = .ok (z0 + 1) k1) (hR : restR s z0 k1 1 = restR s (z + 1) j more) :
    Calls Tryz.prog 94 #[.pointer (some ⟨b, 0, none⟩)] w fun e w' => ∃ x : Nat, e = .returned (.int .i64 (x : Nat)) ∧ x ≤ 1 ∧ Apart b w w' ∧ Z2 b s T k0 k1 z0 z (2 * more + x) w' := by
  have p1 : 2 ^ (z0 - (z + 1) + 1) ≤ 2 ^ 41 := Nat.pow_le_pow_right (by omega) (by omega)
  have p2 : (2 : Nat) ^ 41 = 2199023255552 := by decide
  have p3 : 2 ^ (z0 - z + 1) = 2 * 2 ^ (z0 - (z + 1) + 1) := by rw [show z0 - z + 1 = (z0 - (z + 1) + 1) + 1 by omega, Nat.pow_succ 2 (z0 - (z + 1) + 1)]; omega
  by_cases hend : j = 8 * s.size
  · refine (bnext_end b s j T w h hs hend).mono ?_
    rintro e w' ⟨rfl, h1, a1⟩
    refine ⟨0, rfl, by omega, a1, by omega, by omega, by omega, Or.inr ⟨j, s.size, j1, hj, h1, gammaR_bad2 hZ ?_⟩⟩
    rw [show z0 + 1 - 1 = z0 by omega, hR, restR, if_pos (by omega)]
  · refine (bnext_ok b s j T w h hs (by omega)).mono ?_
    rintro e w' ⟨rfl, h1, a1⟩
    have x1 : (bitAt s j).toNat ≤ 1 := by cases bitAt s j <;> decide
    refine ⟨_, rfl, x1, a1, by omega, by omega, by omega, Or.inl ⟨j + 1, by omega, by omega, h1, by omega, ?_⟩⟩
    rw [hR, restR, if_neg (by omega)]

set_option maxRecDepth 100000 in
set_option maxHeartbeats 4000000 in
theorem bnum_any (b : Nat) (s : ByteArray) (hs : s.size ≤ 20000) (k0 : Nat) (T : ByteArray) (w : World) (h0 : Bt b s k0 (-1) T w) (hk0 : k0 ≤ 8 * s.size) (hT : T.size ≤ 1000000) :
    Calls Tryz.prog 131 #[.pointer (some ⟨b, 0, none⟩)] w fun e w' => BNumEnd b s T w (gammaR s k0) e w' := by
  have N1 := hide (bnext_Z b s hs k0 0 k0 T w h0 hk0 (by omega) rfl)
  clear h0 hk0
  go_enter Tryz.func131, Tryz.ntmps131
  go_wp2_with fail
  refine (unhide N1).mono ?_
  rintro e w1 ⟨x, rfl, x1, a1, Z⟩
  replace Z := hide Z
  replace a1 := hide a1
  clear N1
  go_wp2_with fail
  go_loopg [2, 3] 42 (fun m v y wr => ∃ z x : Nat, m = 42 - z ∧ z ≤ 41 ∧ v = .int .i64 (z : Nat) ∧ y = .int .i64 (x : Nat) ∧ x ≤ 1 ∧ Apart b w wr ∧ Z1 b s T k0 z x wr)
  case atStart => exact ⟨0, x, rfl, by omega, rfl, rfl, x1, unhide a1, unhide Z⟩
  case round =>
    obtain ⟨z, x, hm, z41, rfl, rfl, x1, ha, Z⟩ := hrel
    have HM := hide hm
    replace ha := hide ha
    clear hm a1
    rcases Z with ⟨k, hk, hb, hx, z40, hR⟩ | ⟨n, j, hn, hb, hx, hR⟩
    · obtain ⟨c0, c1, c2, c3, cf⟩ := hb.cells
      cases hB : bitAt s k with
      | true =>
        rw [hB] at hx
        replace hx : x = 1 := hx
        have xi : ¬ (x : Int) = 0 := by omega
        have ZK : Hid (zerosR s 41 k0 1 = .ok (z + 1) (k + 1)) := hide (by rw [hR, show 41 - z = (40 - z) + 1 by omega, zerosR, if_neg (by omega), if_pos hB])
        replace hb := hide hb
        have HK := hide hk
        clear hB hR hk z41 HM hx x1
        go_wp2_with fail
        go_loopg [2, 4] z (fun m v y wr => ∃ z' more : Nat, m = z' ∧ v = .int .i64 (z' : Nat) ∧ y = .int .i64 (more : Nat) ∧ Apart b w wr ∧ Z2 b s T k0 (k + 1) z z' more wr)
        case atStart => exact ⟨z, 1, rfl, rfl, rfl, unhide ha, by omega, by omega, by omega, Or.inl ⟨k + 1, by omega, by have := unhide HK; omega, unhide hb, by rw [Nat.sub_self]; decide, rfl⟩⟩
        case round =>
          obtain ⟨z', more, hm, rfl, rfl, ha2, m1, m2, hz', Z⟩ := hrel
          have HM2 := hide hm
          replace ha2 := hide ha2
          clear hm c0 c1 c2 c3 cf hb ha
          rcases Z with ⟨j, j1, j2, hb, hp, hR⟩ | ⟨j, q, j1, j2, hb, hG⟩
          · obtain ⟨c0, c1, c2, c3, cf⟩ := hb.cells
            by_cases h0 : 0 < z'
            · obtain ⟨z2, rfl⟩ : ∃ z2, z' = z2 + 1 := ⟨z' - 1, by omega⟩
              have zi : (0 : Int) < ((z2 + 1 : Nat) : Int) := by omega
              have N2 := hide (bnext_Z2 b s hs k0 (k + 1) z z2 j more T _ z40 hz' j1 j2 hb m1 hp (unhide ZK) hR)
              have z2b : z2 ≤ 40 := by omega
              clear hb hp hR j1 j2 h0 hz' z40
              go_wp2_with fail
              refine (unhide N2).mono ?_
              rintro e w2 ⟨x, rfl, x1, a2, Z⟩
              replace Z := hide Z
              replace a2 := hide a2
              clear N2 c0 c1 c2 c3 cf
              go_wp2_with fail
              go_roundg z2
              case measure => rw [unhide HM2]; omega
              case rel => exact ⟨z2, 2 * more + x, rfl, by congr 1, by congr 1, (unhide ha2).trans (unhide a2), unhide Z⟩
            · have e0 : z' = 0 := by omega
              subst e0
              obtain ⟨mm, rfl⟩ : ∃ mm, more = mm + 1 := ⟨more - 1, by omega⟩
              obtain ⟨j', rfl⟩ : ∃ j', j = j' + 1 := ⟨j - 1, by omega⟩
              have ZR : Hid (restR s (z + 1 - 1) (k + 1) 1 = .ok (mm + 1) (j' + 1)) := hide (by rw [show z + 1 - 1 = z by omega, hR, restR])
              have J2 := hide j2
              by_cases ov : 1099511627776 < mm
              · have HG : Hid (gammaR s k0 = .bad (j' / 8)) := hide (by have := gammaR_bad3 (unhide ZK) (unhide ZR) (by omega); rw [show j' + 1 - 1 = j' by omega] at this; exact this)
                have ov2 : (1099511627776 : Int) < ((mm + 1 : Nat) : Int) - 1 := by omega
                have L := hide (blast_any b s j' (-1) T _ hb (by omega))
                have F := hide (bfail_first b s (j' + 1) (j' / 8) T _ hb)
                generalize j' / 8 = q at *
                clear hb hp hR j1 j2 h0 hz' z40
                go_wp2_with fail
                refine (unhide L).mono ?_
                rintro e w2 ⟨rfl, rfl⟩
                go_wp2_with fail
                refine (unhide F).mono ?_
                rintro e w3 ⟨rfl, h3, a3⟩
                clear c0 c1 c2 c3 cf
                obtain ⟨c0, c1, c2, c3, cf⟩ := h3.cells
                have q0 : ¬ (q : Int) < 0 := by omega
                replace h3 := hide h3
                replace a3 := hide a3
                go_wp2_with fail
                go_end0
                rw [unhide HG]
                exact ⟨rfl, (unhide ha2).trans (unhide a3), j' + 1, T, unhide J2, by omega, unhide h3⟩
              · have HG : Hid (gammaR s k0 = .ok mm (j' + 1)) := hide (by have := gammaR_good (unhide ZK) (unhide ZR) (by omega); rw [show mm + 1 - 1 = mm by omega] at this; exact this)
                have ov2 : ¬ (1099511627776 : Int) < ((mm + 1 : Nat) : Int) - 1 := by omega
                have RT := hide (rtext_any mm (by omega))
                have DL : (strOf (digs mm)).size ≤ 13 := by rw [strOf_size]; exact digs_le mm (by omega)
                obtain ⟨D, hD⟩ : ∃ D, strOf (digs mm) = D := ⟨_, rfl⟩
                rw [hD] at RT DL
                obtain ⟨U, hU⟩ : ∃ U, T ++ D = U := ⟨_, rfl⟩
                have US : Hid (U.size ≤ T.size + 13) := hide (by rw [← hU, ByteArray.size_append]; omega)
                have CAT := cat_ok T D (by omega)
                rw [hU] at CAT
                have EQ : Hid (U = T ++ strOf (digs mm)) := hide (by rw [hD, hU])
                have HB := hide hb
                have MM : Hid (mm ≤ 1099511627776) := hide (by omega)
                clear hb hp hR j1 j2 h0 hz' z40 hD hU
                go_wp2_with fail
                have C3 : wr.drew.cell? ⟨b, 3, none⟩ = some (.string T) := (unhide HB).cells.2.2.2.1
                refine wp_region_held_drew (S := fun _ => True) (by kernel_rfl) trivial (fun hHeld => ?_)
                refine wpAnyH_take (i := 0) (oi := ⟨some 56, .move (.tmp 0), _, _, _, none⟩) (v := .pointer (some ⟨b, 0, none⟩)) rfl (by kernel_rfl) (by kernel_rfl) (by kernel_rfl) (fun _ _ _ h => h) (Or.inl ⟨by rfl, fun w' hS' => ?_⟩) hHeld ?_
                · go_simp
                simp only [Act.put, List.setIfInBounds_toArray, List.set_cons_zero, List.set_cons_succ]
                refine wpAnyH_take (i := 1) (oi := ⟨some 57, .move (.tmp 0), _, _, _, none⟩) (v := .pointer (some ⟨b, 0, none⟩)) rfl (by kernel_rfl) (by kernel_rfl) (by kernel_rfl) (fun _ _ _ h => h) (Or.inl ⟨by rfl, fun w' hS' => ?_⟩) hHeld ?_
                · go_simp
                simp only [Act.put, List.setIfInBounds_toArray, List.set_cons_zero, List.set_cons_succ]
                refine wpAnyH_take (i := 2) (oi := ⟨some 58, .nilCheck (.tmp 57), _, _, _, none⟩) (v := .pointer (some ⟨b, 0, none⟩)) rfl (by kernel_rfl) (by kernel_rfl) (by kernel_rfl) (fun _ _ _ h => h) (Or.inl ⟨by rfl, fun w' hS' => ?_⟩) hHeld ?_
                · go_simp
                simp only [Act.put, List.setIfInBounds_toArray, List.set_cons_zero, List.set_cons_succ]
                refine wpAnyH_take (i := 3) (oi := ⟨some 59, .fieldAddr 132 (.tmp 58) 3, _, _, _, none⟩) (v := .pointer (some ⟨b, 3, none⟩)) rfl (by kernel_rfl) (by kernel_rfl) (by kernel_rfl) (fun _ _ _ h => h) (Or.inl ⟨by rfl, fun w' hS' => ?_⟩) hHeld ?_
                · go_simp
                simp only [Act.put, List.setIfInBounds_toArray, List.set_cons_zero, List.set_cons_succ]
                refine wpAnyH_take (i := 5) (oi := ⟨some 61, .move (.tmp 4), _, _, _, none⟩) (v := .int .i64 ((mm + 1 : Nat) : Int)) rfl (by kernel_rfl) (by kernel_rfl) (by kernel_rfl) (fun _ _ _ h => h) (Or.inl ⟨by rfl, fun w' hS' => ?_⟩) hHeld ?_
                · go_simp
                simp only [Act.put, List.setIfInBounds_toArray, List.set_cons_zero, List.set_cons_succ]
                refine wpAnyH_take (i := 6) (oi := ⟨some 62, .binOp .sub 3 (.tmp 61) (.const (.int .i64 1)) 3, _, _, _, none⟩) (v := .int .i64 (mm : Nat)) rfl (by kernel_rfl) (by kernel_rfl) (by kernel_rfl) (fun _ _ _ h => h) (Or.inl ⟨by rfl, fun w' hS' => ?_⟩) hHeld ?_
                · (go_simp; rw [IntKind.wrap_i64]; omega)
                simp only [Act.put, List.setIfInBounds_toArray, List.set_cons_zero, List.set_cons_succ]
                refine wpAnyH_ready (rs := [4, 7]) (by kernel_rfl) (by simp) ?_
                refine AllReadyH.cons (o := ⟨some 60, .load 9 (.tmp 59), _, _, _, none⟩) rfl (fun K hK => ?_) ?_
                · refine rstep_run rfl (.string T) (exec_load_str _ ⟨b, 3, none⟩ _ rfl C3) ?_
                  refine hK.out _ _ trivial (fun hHeld => ?_)
                  clear hK K
                  simp only [Act.put, List.setIfInBounds_toArray, List.set_cons_zero, List.set_cons_succ]
                  refine wpAnyH_ready (rs := [7]) (by kernel_rfl) (by simp) ?_
                  refine AllReadyH.cons (o := ⟨some 63, .call { callee := .value (.func 130), args := #[.tmp 62], argTypes := #[3] }, _, _, _, none⟩) rfl (fun K hK => ?_) AllReadyH.nil
                  go_simp
                  refine (unhide RT _).mono ?_
                  rintro o1 w4 ⟨rfl, b4⟩
                  have h4 := Bt.below (w := wr.drew) (unhide HB) b4
                  have a4 := Apart.of_below b4 b
                  replace b4 := hide b4
                  refine hK.out _ _ trivial (fun hHeld => ?_)
                  clear hK K
                  refine wpAnyH_take (i := 8) (oi := ⟨some 64, .binOp .add 9 (.tmp 60) (.tmp 63) 9, _, _, _, none⟩) (v := .string U) rfl (by kernel_rfl) (by kernel_rfl) (by kernel_rfl) (fun _ _ _ h => h) (Or.inl ⟨by rfl, fun w' hS' => ?_⟩) hHeld ?_
                  · exact exec_add_str w' T D U rfl rfl CAT
                  simp only [Act.put, List.setIfInBounds_toArray, List.set_cons_zero, List.set_cons_succ]
                  refine wpAnyH_take (i := 9) (oi := ⟨some 65, .nilCheck (.tmp 56), _, _, _, none⟩) (v := .pointer (some ⟨b, 0, none⟩)) rfl (by kernel_rfl) (by kernel_rfl) (by kernel_rfl) (fun _ _ _ h => h) (Or.inl ⟨by rfl, fun w' hS' => ?_⟩) hHeld ?_
                  · go_simp
                  simp only [Act.put, List.setIfInBounds_toArray, List.set_cons_zero, List.set_cons_succ]
                  refine wpAnyH_take (i := 10) (oi := ⟨some 66, .fieldAddr 132 (.tmp 65) 3, _, _, _, none⟩) (v := .pointer (some ⟨b, 3, none⟩)) rfl (by kernel_rfl) (by kernel_rfl) (by kernel_rfl) (fun _ _ _ h => h) (Or.inl ⟨by rfl, fun w' hS' => ?_⟩) hHeld ?_
                  · go_simp
                  simp only [Act.put, List.setIfInBounds_toArray, List.set_cons_zero, List.set_cons_succ]
                  refine wpAnyH_ready (rs := [11]) (by kernel_rfl) (by simp) ?_
                  refine AllReadyH.cons (o := ⟨none, .store 9 (.tmp 66) (.tmp 64), _, _, _, none⟩) rfl (fun K hK => ?_) AllReadyH.nil
                  refine rstep_skip rfl (exec_store_str w4 ⟨b, 3, none⟩ U _ rfl rfl h4.cells.2.2.2.1 (h4.cells.2.2.2.2 3)) ?_
                  refine hK.out _ _ trivial (fun hHeld => ?_)
                  clear hK K hHeld
                  simp only [Act.put]
                  refine wpAnyH_done (by kernel_rfl) ?_ _
                  have h5 := h4.setText U
                  have a5 := a4.setCell (p := ⟨b, 3, none⟩) rfl (.string U)
                  generalize w4.setCell ⟨b, 3, none⟩ (.string U) = W5 at *
                  replace h5 := hide h5
                  replace a5 := hide a5
                  clear h4 a4
                  go_wp2_with fail
                  go_end0
                  rw [unhide HG]
                  exact ⟨rfl, (unhide ha2).trans ((Apart.drewN b _ 1).trans (unhide a5)), j' + 1, U, unhide J2, unhide US, rfl, unhide EQ, unhide MM, unhide h5⟩
                refine AllReadyH.cons (o := ⟨some 63, .call { callee := .value (.func 130), args := #[.tmp 62], argTypes := #[3] }, _, _, _, none⟩) rfl (fun K hK => ?_) AllReadyH.nil
                go_simp
                refine (unhide RT _).mono ?_
                rintro o1 w4 ⟨rfl, b4⟩
                have h4 := Bt.below (w := wr.drew) (unhide HB) b4
                have a4 := Apart.of_below b4 b
                replace b4 := hide b4
                refine hK.out _ _ trivial (fun hHeld => ?_)
                clear hK K
                refine wpAnyH_ready (rs := [4]) (by kernel_rfl) (by simp) ?_
                refine AllReadyH.cons (o := ⟨some 60, .load 9 (.tmp 59), _, _, _, none⟩) rfl (fun K hK => ?_) AllReadyH.nil
                refine rstep_run rfl (.string T) (exec_load_str _ ⟨b, 3, none⟩ _ rfl h4.cells.2.2.2.1) ?_
                refine hK.out _ _ trivial (fun hHeld => ?_)
                clear hK K
                simp only [Act.put, List.setIfInBounds_toArray, List.set_cons_zero, List.set_cons_succ]
                refine wpAnyH_take (i := 8) (oi := ⟨some 64, .binOp .add 9 (.tmp 60) (.tmp 63) 9, _, _, _, none⟩) (v := .string U) rfl (by kernel_rfl) (by kernel_rfl) (by kernel_rfl) (fun _ _ _ h => h) (Or.inl ⟨by rfl, fun w' hS' => ?_⟩) hHeld ?_
                · exact exec_add_str w' T D U rfl rfl CAT
                simp only [Act.put, List.setIfInBounds_toArray, List.set_cons_zero, List.set_cons_succ]
                refine wpAnyH_take (i := 9) (oi := ⟨some 65, .nilCheck (.tmp 56), _, _, _, none⟩) (v := .pointer (some ⟨b, 0, none⟩)) rfl (by kernel_rfl) (by kernel_rfl) (by kernel_rfl) (fun _ _ _ h => h) (Or.inl ⟨by rfl, fun w' hS' => ?_⟩) hHeld ?_
                · go_simp
                simp only [Act.put, List.setIfInBounds_toArray, List.set_cons_zero, List.set_cons_succ]
                refine wpAnyH_take (i := 10) (oi := ⟨some 66, .fieldAddr 132 (.tmp 65) 3, _, _, _, none⟩) (v := .pointer (some ⟨b, 3, none⟩)) rfl (by kernel_rfl) (by kernel_rfl) (by kernel_rfl) (fun _ _ _ h => h) (Or.inl ⟨by rfl, fun w' hS' => ?_⟩) hHeld ?_
                · go_simp
                simp only [Act.put, List.setIfInBounds_toArray, List.set_cons_zero, List.set_cons_succ]
                refine wpAnyH_ready (rs := [11]) (by kernel_rfl) (by simp) ?_
                refine AllReadyH.cons (o := ⟨none, .store 9 (.tmp 66) (.tmp 64), _, _, _, none⟩) rfl (fun K hK => ?_) AllReadyH.nil
                refine rstep_skip rfl (exec_store_str w4 ⟨b, 3, none⟩ U _ rfl rfl h4.cells.2.2.2.1 (h4.cells.2.2.2.2 3)) ?_
                refine hK.out _ _ trivial (fun hHeld => ?_)
                clear hK K hHeld
                simp only [Act.put]
                refine wpAnyH_done (by kernel_rfl) ?_ _
                have h5 := h4.setText U
                have a5 := a4.setCell (p := ⟨b, 3, none⟩) rfl (.string U)
                generalize w4.setCell ⟨b, 3, none⟩ (.string U) = W5 at *
                replace h5 := hide h5
                replace a5 := hide a5
                clear h4 a4
                go_wp2_with fail
                go_end0
                rw [unhide HG]
                exact ⟨rfl, (unhide ha2).trans ((Apart.drewN b _ 1).trans (unhide a5)), j' + 1, U, unhide J2, unhide US, rfl, unhide EQ, unhide MM, unhide h5⟩
          · obtain ⟨c0, c1, c2, c3, cf⟩ := hb.cells
            have q0 : ¬ (q : Int) < 0 := by omega
            have J2 := hide j2
            obtain ⟨j', rfl⟩ : ∃ j', j = j' + 1 := ⟨j - 1, by omega⟩
            have L := hide (blast_any b s j' q T _ hb (by omega))
            have F := hide (bfail_later b s (j' + 1) (j' / 8) q T _ hb)
            generalize j' / 8 = p at *
            replace hb := hide hb
            replace hG := hide hG
            clear j1 j2 hz' z40
            by_cases h0 : 0 < z'
            · have zi : (0 : Int) < (z' : Int) := by omega
              by_cases ov : 1099511627776 < more - 1
              · have ov2 : (1099511627776 : Int) < (more : Int) - 1 := by omega
                go_wp2_with fail
                refine (unhide L).mono ?_
                rintro e w2 ⟨rfl, rfl⟩
                go_wp2_with fail
                refine (unhide F).mono ?_
                rintro e w3 ⟨rfl, rfl⟩
                go_wp2_with fail
                go_end0
                rw [unhide hG]
                exact ⟨rfl, unhide ha2, j' + 1, T, unhide J2, by omega, unhide hb⟩
              · have ov2 : ¬ (1099511627776 : Int) < (more : Int) - 1 := by omega
                go_wp2_with fail
                go_end0
                rw [unhide hG]
                exact ⟨rfl, unhide ha2, j' + 1, T, unhide J2, by omega, unhide hb⟩
            · have zi : ¬ (0 : Int) < (z' : Int) := by omega
              by_cases ov : 1099511627776 < more - 1
              · have ov2 : (1099511627776 : Int) < (more : Int) - 1 := by omega
                go_wp2_with fail
                refine (unhide L).mono ?_
                rintro e w2 ⟨rfl, rfl⟩
                go_wp2_with fail
                refine (unhide F).mono ?_
                rintro e w3 ⟨rfl, rfl⟩
                go_wp2_with fail
                go_end0
                rw [unhide hG]
                exact ⟨rfl, unhide ha2, j' + 1, T, unhide J2, by omega, unhide hb⟩
              · have ov2 : ¬ (1099511627776 : Int) < (more : Int) - 1 := by omega
                go_wp2_with fail
                go_end0
                rw [unhide hG]
                exact ⟨rfl, unhide ha2, j' + 1, T, unhide J2, by omega, unhide hb⟩
      | false =>
        rw [hB] at hx
        replace hx : x = 0 := hx
        have xi : (x : Int) = 0 := by omega
        clear hx
        by_cases h41 : z + 1 = 41
        · have zi : (40 : Int) < (z : Int) + 1 := by omega
          have HZ := hide h41
          have ZB : Hid (zerosR s 41 k0 1 = .bad (k / 8)) := hide (by rw [hR, show 41 - z = 0 + 1 by omega, zerosR, if_neg (by omega), if_neg (by rw [hB]; exact Bool.false_ne_true), if_pos (by omega)])
          have L := hide (blast_any b s k (-1) T _ hb (by omega))
          have F := hide (bfail_first b s (k + 1) (k / 8) T _ hb)
          generalize k / 8 = q at *
          have N3 := hide (fun w (h : Bt b s (k + 1) (q : Nat) T w) => bnext_failed b s (k + 1) q T w h hs (by omega))
          have HK := hide hk
          clear hB hR hk hb h41
          go_wp2_with fail
          refine (unhide L).mono ?_
          rintro e w2 ⟨rfl, rfl⟩
          go_wp2_with fail
          refine (unhide F).mono ?_
          rintro e w3 ⟨rfl, h3, a3⟩
          clear c0 c1 c2 c3 cf
          replace N3 := hide (unhide N3 _ h3)
          clear h3
          replace a3 := hide a3
          go_wp2_with fail
          refine (unhide N3).mono ?_
          rintro e w4 ⟨rfl, h4, a4⟩
          replace h4 := hide h4
          replace a4 := hide a4
          go_wp2_with fail
          go_roundg 1
          case measure => rw [unhide HM]; have := unhide HZ; omega
          case rel => exact ⟨41, 0, rfl, by omega, by have := unhide HZ; congr 1; omega, rfl, by omega, ((unhide ha).trans (unhide a3)).trans (unhide a4), Or.inr ⟨k + 1, q, by have := unhide HK; omega, unhide h4, rfl, unhide ZB⟩⟩
        · have N2 := hide (bnext_Z b s hs k0 (z + 1) (k + 1) T _ hb (by omega) (by omega) (by rw [hR, show 41 - z = (41 - (z + 1)) + 1 by omega, zerosR, if_neg (by omega), if_neg (by rw [hB]; exact Bool.false_ne_true), if_neg h41]))
          have z40i : ¬ (40 : Int) < (z : Int) + 1 := by omega
          clear hB hR hk hb h41
          go_wp2_with fail
          refine (unhide N2).mono ?_
          rintro e w2 ⟨x, rfl, x1, a2, Z⟩
          replace Z := hide Z
          replace a2 := hide a2
          clear N2 c0 c1 c2 c3 cf
          go_wp2_with fail
          go_roundg (42 - (z + 1))
          case measure => rw [unhide HM]; omega
          case rel => exact ⟨z + 1, x, rfl, by omega, by simp, rfl, x1, (unhide ha).trans (unhide a2), unhide Z⟩
    · obtain ⟨c0, c1, c2, c3, cf⟩ := hb.cells
      have xi : (x : Int) = 0 := by omega
      have j0 : ¬ (j : Int) < 0 := by omega
      have HG := hide (gammaR_bad1 hR)
      replace hb := hide hb
      replace hn := hide hn
      clear hR HM hx x1
      go_wp2_with fail
      go_loopg [2, 4] 0 (fun m v y wr' => m = 0 ∧ v = .int .i64 (z : Nat) ∧ y = .int .i64 1 ∧ wr' = wr)
      case atStart => exact ⟨rfl, rfl, rfl, rfl⟩
      case round =>
        obtain ⟨_, rfl, rfl, rfl⟩ := hrel
        by_cases h0 : 0 < z
        · have zi : (0 : Int) < (z : Int) := by omega
          go_wp2_with fail
          go_end0
          rw [unhide HG]
          exact ⟨rfl, unhide ha, n, T, unhide hn, by omega, unhide hb⟩
        · have zi : ¬ (0 : Int) < (z : Int) := by omega
          go_wp2_with fail
          go_end0
          rw [unhide HG]
          exact ⟨rfl, unhide ha, n, T, unhide hn, by omega, unhide hb⟩

end Go.Proofs.YtoebmfhgaalcdaaGreatDoor

namespace Go.Proofs.YtoebmfhgaalcdaaGreatDoor
open Go.RowKit

/-- What a call of ev leaves. -/
def BEvEnd (b : Nat) (s text : ByteArray) (w : World) (h base : Nat) (r : Bool) (o : Rc (Tr Nat × Nat)) (e : Ending) (w' : World) : Prop :=
  e = .returned (.tuple #[]) ∧ Apart b w w' ∧ ∃ (n : Nat) (t' : ByteArray), n ≤ 8 * s.size ∧ t'.size + 17 ≤ text.size + 30 * 2 ^ h ∧
  match o with
  | ⟨.inl ((t, m), k, r')⟩ => n = k ∧ Bt b s n (-1) t' w' ∧ ∃ ev : Ev, evTree base ev = t ∧ front ev = m ∧ ev.deep ≤ h ∧ fitE ev ∧ r' = (r || roughE base ev) ∧ t' = text ++ strOf (evText ev)
  | ⟨.inr j⟩ => Bt b s n (j : Nat) t' w'

/-- Where the two halves stand. -/
def EvSt (b : Nat) (s T U0 : ByteArray) (h base n k k1 : Nat) (r : Bool) (m : Nat) (v : Value) (w : World) : Prop :=
  (m = 2 ∧ v = .int .i64 0 ∧ Bt b s k1 (-1) U0 w) ∨
  (m = 1 ∧ v = .int .i64 1 ∧ ∃ (le : Ev) (k2 : Nat) (t2 : ByteArray), evC s h (base + n) k1 r = .ok (evTree (base + n) le, front le) k2 (r || roughE (base + n) le) ∧ le.deep ≤ h ∧ fitE le ∧ k2 ≤ 8 * s.size ∧
    t2 = U0 ++ { data := #[44] } ++ strOf (evText le) ∧ t2.size + 2 ≤ T.size + 30 * 2 ^ h ∧ Bt b s k2 (-1) t2 w) ∨
  (m = 0 ∧ v = .int .i64 2 ∧ ∃ (le te : Ev) (k3 : Nat) (t3 : ByteArray), evC s (h + 1) base k r = .ok (evTree base (.br n le te), n) k3 (r || roughE base (.br n le te)) ∧ le.deep ≤ h ∧ te.deep ≤ h ∧ fitE le ∧ fitE te ∧ k3 ≤ 8 * s.size ∧
    t3 = U0 ++ { data := #[44] } ++ strOf (evText le) ++ { data := #[44] } ++ strOf (evText te) ∧ t3.size + 18 ≤ T.size + 60 * 2 ^ h ∧ Bt b s k3 (-1) t3 w) ∨
  (m ≤ 1 ∧ (∃ i : Nat, v = .int .i64 (i : Nat)) ∧ ∃ (j n' : Nat) (t' : ByteArray), evC s (h + 1) base k r = .bad j ∧ n' ≤ 8 * s.size ∧ t'.size + 18 ≤ T.size + 60 * 2 ^ h ∧ Bt b s n' (j : Nat) t' w)

set_option maxHeartbeats 400000 in
theorem bev_end (b : Nat) (s : ByteArray) (hs : s.size ≤ 20000) (h base d k : Nat) (r : Bool) (T : ByteArray) (w : World) (h0 : Bt b s k (-1) T w) (hk : k = 8 * s.size) :
    Calls Tryz.prog 93 #[.pointer (some ⟨b, 0, none⟩), .int .i64 (d : Nat)] w fun e w' => BEvEnd b s T w h base r (evC s h base k r) e w' := by
  rw [evC_end h (by omega)]
  have R := hide (bnext_end b s k T w h0 hs hk)
  have P := pow_one h
  have HK := hide hk
  clear h0 hk
  go_enter Tryz.func93, Tryz.ntmps93
  go_wp2_with fail
  refine (unhide R).mono ?_
  rintro e w1 ⟨rfl, h1, a1⟩
  obtain ⟨c0, c1, c2, c3, cf⟩ := h1.cells
  have s0 : (0 : Int) ≤ (s.size : Int) := by omega
  replace h1 := hide h1
  go_wp2_with fail
  go_end0
  exact ⟨rfl, a1, k, T, by have := unhide HK; omega, by omega, unhide h1⟩

set_option maxHeartbeats 800000 in
theorem bev_num (b : Nat) (s : ByteArray) (hs : s.size ≤ 20000) (h base d k : Nat) (r : Bool) (T : ByteArray) (w : World) (h0 : Bt b s k (-1) T w) (hk : k < 8 * s.size) (hb : bitAt s k = false) (hT : T.size ≤ 1000000) :
    Calls Tryz.prog 93 #[.pointer (some ⟨b, 0, none⟩), .int .i64 (d : Nat)] w fun e w' => BEvEnd b s T w h base r (evC s h base k r) e w' := by
  have R := bnext_ok b s k T w h0 hs hk
  rw [hb] at R
  have R := hide R
  have P := pow_one h
  have HB := hide hb
  have HK := hide hk
  have NM := hide (fun w (h : Bt b s (k + 1) (-1) T w) => bnum_any b s hs (k + 1) T w h (by omega) hT)
  clear hb h0 hk
  go_enter Tryz.func93, Tryz.ntmps93
  go_wp2_with fail
  refine (unhide R).mono ?_
  rintro e w1 ⟨rfl, h1, a1⟩
  obtain ⟨c0, c1, c2, c3, cf⟩ := h1.cells
  replace NM := hide (unhide NM _ h1)
  replace a1 := hide a1
  clear h1
  go_wp2_with fail
  cases f : gammaR s (k + 1) using Nm.cs with
  | bad j =>
    have HF := hide (evC_num0 (base := base) (r := r) h (by have := unhide HK; omega) (unhide HB) f)
    replace NM := unhide NM
    rw [f] at NM
    have NM := hide NM
    clear f
    refine (unhide NM).mono ?_
    rintro e w3 ⟨rfl, a3, n, t1, hn, z1, h3⟩
    replace h3 := hide h3
    replace a3 := hide a3
    go_wp2_with fail
    go_end0
    rw [unhide HF]
    exact ⟨rfl, (unhide a1).trans (unhide a3), n, t1, hn, by omega, unhide h3⟩
  | ok m k1 =>
    have HF := hide (evC_num (base := base) (r := r) h (by have := unhide HK; omega) (unhide HB) f)
    replace NM := unhide NM
    rw [f] at NM
    have NM := hide NM
    clear f
    refine (unhide NM).mono ?_
    rintro e w3 ⟨rfl, a3, n, t1, hn, z1, rfl, ht1, mb, h3⟩
    replace h3 := hide h3
    replace a3 := hide a3
    replace ht1 := hide ht1
    go_wp2_with fail
    go_end0
    rw [unhide HF]
    exact ⟨rfl, (unhide a1).trans (unhide a3), n, t1, hn, by omega, rfl, unhide h3, .num m, rfl, rfl, Nat.zero_le _, mb, by show r = (r || false); rw [Bool.or_false], unhide ht1⟩

set_option maxHeartbeats 400000 in
theorem bev_deep (b : Nat) (s : ByteArray) (hs : s.size ≤ 20000) (base k : Nat) (r : Bool) (T : ByteArray) (w : World) (h0 : Bt b s k (-1) T w) (hk : k < 8 * s.size) (hb : bitAt s k = true) :
    Calls Tryz.prog 93 #[.pointer (some ⟨b, 0, none⟩), .int .i64 8] w fun e w' => BEvEnd b s T w 0 base r (evC s 0 base k r) e w' := by
  rw [evC_deep (by omega) hb]
  have R := bnext_ok b s k T w h0 hs hk
  rw [hb] at R
  have R := hide R
  clear hb h0
  have L := hide (fun w h => blast_any b s k (-1) T w h (by omega))
  have F := hide (fun w h => bfail_first b s (k + 1) (k / 8) T w h)
  have HK := hide hk
  clear hk
  generalize k / 8 = q at *
  go_enter Tryz.func93, Tryz.ntmps93
  go_wp2_with fail
  refine (unhide R).mono ?_
  rintro e w1 ⟨rfl, h1, a1⟩
  obtain ⟨c0, c1, c2, c3, cf⟩ := h1.cells
  replace L := hide (unhide L _ h1)
  replace F := hide (unhide F _ h1)
  clear h1
  replace a1 := hide a1
  go_wp2_with fail
  refine (unhide L).mono ?_
  rintro e w2 ⟨rfl, rfl⟩
  go_wp2_with fail
  refine (unhide F).mono ?_
  rintro e w3 ⟨rfl, h3, a3⟩
  clear c0 c1 c2 c3 cf
  obtain ⟨c0, c1, c2, c3, cf⟩ := h3.cells
  have q0 : (0 : Int) ≤ (q : Int) := by omega
  replace h3 := hide h3
  go_wp2_with fail
  go_end0
  exact ⟨rfl, (unhide a1).trans a3, k + 1, T, by have := unhide HK; omega, by omega, unhide h3⟩

theorem evText_brS (T : ByteArray) (n : Nat) (l t : Ev) : T ++ { data := #[40] } ++ strOf (digs n) ++ { data := #[44] } ++ strOf (evText l) ++ { data := #[44] } ++ strOf (evText t) ++ { data := #[41] } = T ++ strOf (evText (.br n l t)) := by
  rw [show ({ data := #[40] } : ByteArray) = strOf [40] from rfl, show ({ data := #[44] } : ByteArray) = strOf [44] from rfl, show ({ data := #[41] } : ByteArray) = strOf [41] from rfl]
  simp only [ByteArray.append_assoc, strOf_append]
  congr 2
  simp [evText]

theorem rough_br (base n : Nat) (r : Bool) (le te : Ev) : (r || roughE (base + n) le || roughE (base + n) te || (decide (0 < front le) && decide (0 < front te) || sameI (evTree (base + n) le) (evTree (base + n) te))) = (r || roughE base (.br n le te)) := by
  rw [roughE]
  simp only [Bool.or_assoc]

set_option maxRecDepth 100000 in
set_option maxHeartbeats 4000000 in
theorem bev_pair (b : Nat) (s : ByteArray) (hs : s.size ≤ 20000) (h base d : Nat) (hd : d < 8)
    (ih : Hid (∀ (base k : Nat) (r : Bool) (T : ByteArray) (w : World), Bt b s k (-1) T w → k ≤ 8 * s.size → T.size + 30 * 2 ^ h ≤ 1000000 → Calls Tryz.prog 93 #[.pointer (some ⟨b, 0, none⟩), .int .i64 ((d : Int) + 1)] w fun e w' => BEvEnd b s T w h base r (evC s h base k r) e w'))
    (k : Nat) (r : Bool) (T : ByteArray) (w : World) (h0 : Bt b s k (-1) T w) (hk : k < 8 * s.size) (hb : bitAt s k = true) (hT : T.size + 30 * 2 ^ (h + 1) ≤ 1000000) :
    Calls Tryz.prog 93 #[.pointer (some ⟨b, 0, none⟩), .int .i64 (d : Nat)] w fun e w' => BEvEnd b s T w (h + 1) base r (evC s (h + 1) base k r) e w' := by
  have HB := hide hb
  have R := bnext_ok b s k T w h0 hs hk
  rw [hb] at R
  have R := hide R
  have P2 : Hid (2 ^ (h + 1) = 2 * 2 ^ h) := hide (by rw [Nat.pow_succ]; omega)
  have P1 := hide (pow_one h)
  obtain ⟨T1, hT1⟩ : ∃ U, T ++ { data := #[40] } = U := ⟨_, rfl⟩
  have S1 : Hid (T1.size = T.size + 1) := hide (by rw [← hT1, ByteArray.size_append]; rfl)
  have CAT := cat_ok T { data := #[40] } (by show T.size + 1 ≤ _; omega)
  rw [hT1] at CAT
  replace hT1 := hide hT1
  have d8 : ¬ (d : Int) = 8 := by omega
  have HK : Hid (¬ 8 * s.size ≤ k) := hide (by omega)
  have NM := hide (fun w (h : Bt b s (k + 1) (-1) T1 w) => bnum_any b s hs (k + 1) T1 w h (by omega) (by have := unhide S1; have := unhide P2; have := unhide P1; omega))
  have TX := hide (evText_brS T)
  replace hT := hide hT
  clear hb h0 hk
  go_enter Tryz.func93, Tryz.ntmps93
  go_wp2_with fail
  refine (unhide R).mono ?_
  rintro e w1 ⟨rfl, h1, a1⟩
  obtain ⟨c0, c1, c2, c3, cf⟩ := h1.cells
  have h2 := hide (h1.setText T1)
  have a2 := hide (a1.setCell (p := ⟨b, 3, none⟩) rfl (.string T1))
  clear h1 a1
  go_wp2_with fail
  generalize w1.setCell ⟨b, 3, none⟩ (.string T1) = W2 at *
  replace NM := unhide NM W2 (unhide h2)
  clear c0 c1 c2 c3 cf CAT h2
  cases f : gammaR s (k + 1) using Nm.cs with
  | bad j =>
    have HF := hide (evC_bad0 (h := h) (base := base) (r := r) (unhide HK) f)
    rw [f] at NM
    have NM := hide NM
    clear f
    refine (unhide NM).mono ?_
    rintro e w3 ⟨rfl, a3, n, t1, hn, z1, h3⟩
    have j0 : ¬ (j : Int) < 0 := by omega
    obtain ⟨c0, c1, c2, c3, cf⟩ := h3.cells
    obtain ⟨U3, hU3⟩ : ∃ U, t1 ++ { data := #[41] } = U := ⟨_, rfl⟩
    have S3 : U3.size = t1.size + 1 := by rw [← hU3, ByteArray.size_append]; rfl
    have CA3 := cat_ok t1 { data := #[41] } (by show t1.size + 1 ≤ _; have := unhide hT; have := unhide P2; have := unhide P1; have := unhide S1; omega)
    rw [hU3] at CA3
    have h5 := hide (h3.setText U3)
    have a5 := hide (((unhide a2).trans a3).setCell (p := ⟨b, 3, none⟩) rfl (.string U3))
    have Z : Hid (U3.size + 17 ≤ T.size + 30 * 2 ^ (h + 1)) := hide (by have := unhide P2; have := unhide P1; have := unhide S1; omega)
    replace hn := hide hn
    clear h3 a3 S3 z1 hU3
    go_wp2_with fail
    go_loopg [5] 0 (fun m v wr => m = 0 ∧ v = .int .i64 0 ∧ wr = w3)
    case atStart => exact ⟨rfl, rfl, rfl⟩
    case round =>
      obtain ⟨_, rfl, rfl⟩ := hrel
      go_wp2_with fail
      go_end0
      rw [unhide HF]
      exact ⟨rfl, unhide a5, n, U3, unhide hn, unhide Z, unhide h5⟩
  | ok n k1 =>
    have G := hide f
    rw [f] at NM
    have NM := hide NM
    clear f
    refine (unhide NM).mono ?_
    rintro e w3 ⟨rfl, a3, k9, U0, hn, z1, rfl, hU0, mb, h3⟩
    have Z0 : Hid (U0.size ≤ T.size + 14) := hide (by have := unhide S1; omega)
    replace hU0 := hide hU0
    replace a2 := hide ((unhide a2).trans a3)
    replace h3 := hide h3
    replace hn := hide hn
    replace mb := hide mb
    clear z1 a3 NM
    go_wp2_with fail
    go_loopg [5] 2 (fun m v wr => Apart b w wr ∧ EvSt b s T U0 h base n k k9 r m v wr)
    case atStart => exact ⟨unhide a2, Or.inl ⟨rfl, rfl, unhide h3⟩⟩
    case round =>
      clear a2 h3
      obtain ⟨ha, ⟨hm, rfl, hb⟩ | ⟨hm, rfl, le, k2, t2, f, d1, f1, kb, e2, z2, hb⟩ | ⟨hm, rfl, le, te, k3, t3, f, d1, d2, f1, f2, kb, e3, z3, hb⟩ | ⟨hm, ⟨i, rfl⟩, j, n', t', f, nb, z, hb⟩⟩ := hrel
      · obtain ⟨c0, c1, c2, c3, cf⟩ := hb.cells
        obtain ⟨U2, hU2⟩ : ∃ U, U0 ++ { data := #[44] } = U := ⟨_, rfl⟩
        have S2 : U2.size = U0.size + 1 := by rw [← hU2, ByteArray.size_append]; rfl
        have CA2 := cat_ok U0 { data := #[44] } (by show U0.size + 1 ≤ _; have := unhide hT; have := unhide Z0; omega)
        rw [hU2] at CA2
        have h4 := hide (hb.setText U2)
        have a4 := hide (ha.setCell (p := ⟨b, 3, none⟩) rfl (.string U2))
        replace hU2 := hide hU2
        have Z2 : Hid (U2.size + 30 * 2 ^ h ≤ 1000000 ∧ U2.size ≤ T.size + 15) := hide (by have := unhide hT; have := unhide P2; have := unhide P1; have := unhide Z0; omega)
        have HM := hide hm
        clear hb ha S2 hm
        go_wp2_with fail
        generalize wr.setCell ⟨b, 3, none⟩ (.string U2) = W4 at *
        clear c0 c1 c2 c3 cf CA2
        have IH := unhide ih (base + n) k9 r U2 W4 (unhide h4) (unhide hn) (unhide Z2).1
        cases f : evC s h (base + n) k9 r using Rc.cs with
        | bad j =>
          have HF := hide (evC_bad1 (unhide HK) (unhide HB) (unhide G) f)
          rw [f] at IH
          have IH := hide IH
          clear f
          refine (unhide IH).mono ?_
          rintro e w5 ⟨rfl, a5, n5, t5, hn5, z5, h5⟩
          have Z5 : Hid (t5.size + 18 ≤ T.size + 60 * 2 ^ h) := hide (by have := unhide P1; have := unhide Z2; omega)
          replace h5 := hide h5
          replace a5 := hide a5
          replace hn5 := hide hn5
          clear z5 IH
          go_wp2_with fail
          go_roundg 1
          case measure => rw [unhide HM]; omega
          case rel => exact ⟨(unhide a4).trans (unhide a5), Or.inr (Or.inr (Or.inr ⟨by omega, ⟨1, rfl⟩, j, n5, t5, unhide HF, unhide hn5, unhide Z5, unhide h5⟩))⟩
        | ok o k2 r2 =>
          obtain ⟨l, ln⟩ := o
          have HF := hide f
          rw [f] at IH
          have IH := hide IH
          clear f
          refine (unhide IH).mono ?_
          rintro e w5 ⟨rfl, a5, n5, t5, hn5, z5, rfl, h5, le, rfl, rfl, d1, f1, rfl, e5⟩
          have Z5 : Hid (t5.size + 2 ≤ T.size + 30 * 2 ^ h) := hide (by have := unhide P1; have := unhide Z2; omega)
          have E5 : Hid (t5 = U0 ++ { data := #[44] } ++ strOf (evText le)) := hide (by rw [e5, unhide hU2])
          replace h5 := hide h5
          replace a5 := hide a5
          replace hn5 := hide hn5
          replace d1 := hide d1
          replace f1 := hide f1
          clear z5 IH e5
          go_wp2_with fail
          go_roundg 1
          case measure => rw [unhide HM]; omega
          case rel => exact ⟨(unhide a4).trans (unhide a5), Or.inr (Or.inl ⟨rfl, rfl, le, n5, t5, unhide HF, unhide d1, unhide f1, unhide hn5, unhide E5, unhide Z5, unhide h5⟩)⟩
      · obtain ⟨c0, c1, c2, c3, cf⟩ := hb.cells
        obtain ⟨U2, hU2⟩ : ∃ U, t2 ++ { data := #[44] } = U := ⟨_, rfl⟩
        have S2 : U2.size = t2.size + 1 := by rw [← hU2, ByteArray.size_append]; rfl
        have CA2 := cat_ok t2 { data := #[44] } (by show t2.size + 1 ≤ _; have := unhide hT; have := unhide P2; have := unhide P1; omega)
        rw [hU2] at CA2
        have h4 := hide (hb.setText U2)
        have a4 := hide (ha.setCell (p := ⟨b, 3, none⟩) rfl (.string U2))
        have EU : Hid (U2 = U0 ++ { data := #[44] } ++ strOf (evText le) ++ { data := #[44] }) := hide (by rw [← hU2, e2])
        have Z2 : Hid (U2.size + 30 * 2 ^ h ≤ 1000000 ∧ U2.size + 1 ≤ T.size + 30 * 2 ^ h) := hide (by have := unhide hT; have := unhide P2; have := unhide P1; omega)
        have HM := hide hm
        have F1 := hide f
        replace d1 := hide d1
        replace f1 := hide f1
        replace kb := hide kb
        clear hb ha S2 hm hU2 e2 z2 f
        go_wp2_with fail
        generalize wr.setCell ⟨b, 3, none⟩ (.string U2) = W4 at *
        clear c0 c1 c2 c3 cf CA2
        have IH := unhide ih (base + n) k2 (r || roughE (base + n) le) U2 W4 (unhide h4) (unhide kb) (unhide Z2).1
        cases f : evC s h (base + n) k2 (r || roughE (base + n) le) using Rc.cs with
        | bad j =>
          have HF := hide (evC_bad2 (unhide HK) (unhide HB) (unhide G) (unhide F1) f)
          rw [f] at IH
          have IH := hide IH
          clear f
          refine (unhide IH).mono ?_
          rintro e w5 ⟨rfl, a5, n5, t5, hn5, z5, h5⟩
          have Z5 : Hid (t5.size + 18 ≤ T.size + 60 * 2 ^ h) := hide (by have := unhide P1; have := unhide Z2; omega)
          replace h5 := hide h5
          replace a5 := hide a5
          replace hn5 := hide hn5
          clear z5 IH
          go_wp2_with fail
          go_roundg 0
          case measure => rw [unhide HM]; omega
          case rel => exact ⟨(unhide a4).trans (unhide a5), Or.inr (Or.inr (Or.inr ⟨by omega, ⟨2, rfl⟩, j, n5, t5, unhide HF, unhide hn5, unhide Z5, unhide h5⟩))⟩
        | ok o k3 r3 =>
          obtain ⟨l, ln⟩ := o
          rw [f] at IH
          have HF0 := hide f
          have IH := hide IH
          clear f
          refine (unhide IH).mono ?_
          rintro e w5 ⟨rfl, a5, n5, t5, hn5, z5, rfl, h5, te, rfl, rfl, d2, f2, rfl, e5⟩
          have HF : Hid (evC s (h + 1) base k r = .ok (evTree base (.br n le te), n) n5 (r || roughE base (.br n le te))) := hide (by rw [← rough_br]; exact evC_pair (unhide HK) (unhide HB) (unhide G) (unhide F1) (unhide HF0))
          have Z5 : Hid (t5.size + 18 ≤ T.size + 60 * 2 ^ h) := hide (by have := unhide P1; have := unhide Z2; omega)
          have E5 : Hid (t5 = U0 ++ { data := #[44] } ++ strOf (evText le) ++ { data := #[44] } ++ strOf (evText te)) := hide (by rw [e5, unhide EU])
          replace h5 := hide h5
          replace a5 := hide a5
          replace hn5 := hide hn5
          replace d2 := hide d2
          replace f2 := hide f2
          clear z5 IH e5 HF0
          go_wp2_with fail
          go_roundg 0
          case measure => rw [unhide HM]; omega
          case rel => exact ⟨(unhide a4).trans (unhide a5), Or.inr (Or.inr (Or.inl ⟨rfl, rfl, le, te, n5, t5, unhide HF, unhide d1, unhide d2, unhide f1, unhide f2, unhide hn5, unhide E5, unhide Z5, unhide h5⟩))⟩
      · obtain ⟨c0, c1, c2, c3, cf⟩ := hb.cells
        obtain ⟨U3, hU3⟩ : ∃ U, t3 ++ { data := #[41] } = U := ⟨_, rfl⟩
        have S3 : U3.size = t3.size + 1 := by rw [← hU3, ByteArray.size_append]; rfl
        have CA3 := cat_ok t3 { data := #[41] } (by show t3.size + 1 ≤ _; have := unhide hT; have := unhide P2; have := unhide P1; omega)
        rw [hU3] at CA3
        have h5 := hide (hb.setText U3)
        have a5 := hide (ha.setCell (p := ⟨b, 3, none⟩) rfl (.string U3))
        have Z : Hid (U3.size + 17 ≤ T.size + 30 * 2 ^ (h + 1)) := hide (by have := unhide P2; omega)
        have EQ : Hid (U3 = T ++ strOf (evText (.br n le te))) := hide (by rw [← unhide TX n le te, unhide hT1, ← unhide hU0, ← e3, hU3])
        have HF := hide f
        replace d1 := hide d1
        replace d2 := hide d2
        replace f1 := hide f1
        replace f2 := hide f2
        replace kb := hide kb
        clear hb ha S3 z3 hU3 e3 f hm
        go_wp2_with fail
        go_end0
        rw [unhide HF]
        exact ⟨rfl, unhide a5, k3, U3, unhide kb, unhide Z, rfl, unhide h5, .br n le te, rfl, rfl, by have := unhide d1; have := unhide d2; show max le.deep te.deep + 1 ≤ h + 1; omega, ⟨unhide mb, unhide f1, unhide f2⟩, rfl, unhide EQ⟩
      · obtain ⟨c0, c1, c2, c3, cf⟩ := hb.cells
        have j0 : ¬ (j : Int) < 0 := by omega
        obtain ⟨U3, hU3⟩ : ∃ U, t' ++ { data := #[41] } = U := ⟨_, rfl⟩
        have S3 : U3.size = t'.size + 1 := by rw [← hU3, ByteArray.size_append]; rfl
        have CA3 := cat_ok t' { data := #[41] } (by show t'.size + 1 ≤ _; have := unhide hT; have := unhide P2; have := unhide P1; omega)
        rw [hU3] at CA3
        have h5 := hide (hb.setText U3)
        have a5 := hide (ha.setCell (p := ⟨b, 3, none⟩) rfl (.string U3))
        have Z : Hid (U3.size + 17 ≤ T.size + 30 * 2 ^ (h + 1)) := hide (by have := unhide P2; omega)
        have HF := hide f
        replace nb := hide nb
        clear hb ha S3 z hU3 f hm
        by_cases hi : i < 2
        · have ii : (i : Int) < 2 := by omega
          go_wp2_with fail
          go_end0
          rw [unhide HF]
          exact ⟨rfl, unhide a5, n', U3, unhide nb, unhide Z, unhide h5⟩
        · have ii : ¬ (i : Int) < 2 := by omega
          go_wp2_with fail
          go_end0
          rw [unhide HF]
          exact ⟨rfl, unhide a5, n', U3, unhide nb, unhide Z, unhide h5⟩

theorem bev_any (b : Nat) (s : ByteArray) (hs : s.size ≤ 20000) : ∀ (h d : Nat), d + h = 8 → ∀ (base k : Nat) (r : Bool) (T : ByteArray) (w : World), Bt b s k (-1) T w → k ≤ 8 * s.size → T.size + 30 * 2 ^ h ≤ 1000000 →
    Calls Tryz.prog 93 #[.pointer (some ⟨b, 0, none⟩), .int .i64 (d : Nat)] w fun e w' => BEvEnd b s T w h base r (evC s h base k r) e w' := by
  intro h
  induction h with
  | zero =>
    intro d hd base k r T w h0 hk hT
    have e : d = 8 := by omega
    subst e
    by_cases hend : k = 8 * s.size
    · exact bev_end b s hs 0 base 8 k r T w h0 hend
    · cases hb : bitAt s k with
      | false => exact bev_num b s hs 0 base 8 k r T w h0 (by omega) hb (by omega)
      | true => exact bev_deep b s hs base k r T w h0 (by omega) hb
  | succ h ih =>
    intro d hd base k r T w h0 hk hT
    by_cases hend : k = 8 * s.size
    · exact bev_end b s hs (h + 1) base d k r T w h0 hend
    · cases hb : bitAt s k with
      | false => exact bev_num b s hs (h + 1) base d k r T w h0 (by omega) hb (by omega)
      | true => exact bev_pair b s hs h base d (by omega) (hide (ih (d + 1) (by omega))) k r T w h0 (by omega) hb hT

end Go.Proofs.YtoebmfhgaalcdaaGreatDoor
