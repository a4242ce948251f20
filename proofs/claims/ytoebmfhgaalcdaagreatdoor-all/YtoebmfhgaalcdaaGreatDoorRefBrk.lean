/-
  Our own. sprigsref.brackets; how many brackets the text of a tree has.
-/
import Derived.Test.YtoebmfhgaalcdaaGreatDoorRefCalls
namespace Go.Proofs.YtoebmfhgaalcdaaGreatDoor
open Go.RowKit

/-- One byte more: how many brackets, how many in one another, the most of these. -/
def bstep (st : Int × Int × Int) (c : UInt8) : Int × Int × Int :=
  let d := if c = 40 then st.2.1 + 1 else if c = 41 then st.2.1 - 1 else st.2.1
  (if c = 40 then st.1 + 1 else st.1, d, if st.2.2 < d then d else st.2.2)
def brk (st : Int × Int × Int) (l : List UInt8) : Int × Int × Int := l.foldl bstep st
theorem brk_append (st : Int × Int × Int) (a b : List UInt8) : brk st (a ++ b) = brk (brk st a) b := by unfold brk; rw [List.foldl_append]
theorem brk_cons (st : Int × Int × Int) (c : UInt8) (b : List UInt8) : brk st (c :: b) = brk (bstep st c) b := rfl
theorem brk_nil (st : Int × Int × Int) : brk st [] = st := rfl
theorem bstep_other (n d m : Int) (c : UInt8) (h : d ≤ m) (h1 : c ≠ 40) (h2 : c ≠ 41) : bstep (n, d, m) c = (n, d, m) := by
  unfold bstep
  simp only [if_neg h1, if_neg h2]
  rw [if_neg (by omega)]
theorem bstep_open (n d m : Int) : bstep (n, d, m) 40 = (n + 1, d + 1, if m < d + 1 then d + 1 else m) := rfl
theorem bstep_shut (n d m : Int) (h : d ≤ m) : bstep (n, d, m) 41 = (n, d - 1, m) := by
  show (n, d - 1, if m < d - 1 then d - 1 else m) = _
  rw [if_neg (by omega)]

theorem brk_id (t : Tr Bool) : ∀ (n d m : Int), d ≤ m → brk (n, d, m) (idText t) = (n + (pairsT t : Nat), d, if m < d + (deepT t : Nat) then d + (deepT t : Nat) else m) := by
  induction t using Tr.ind with
  | leaf a =>
    intro n d m h
    have e : brk (n, d, m) (idText (.leaf a)) = (n, d, m) := by
      cases a
      · exact bstep_other n d m 48 h (by decide) (by decide)
      · exact bstep_other n d m 49 h (by decide) (by decide)
    rw [e]
    show _ = (n + ((0 : Nat) : Int), d, if m < d + ((0 : Nat) : Int) then d + ((0 : Nat) : Int) else m)
    rw [if_neg (by omega)]
    simp
  | pair l r ihl ihr =>
    intro n d m h
    have e : idText (.pair l r) = 40 :: (idText l ++ 44 :: (idText r ++ [41])) := by simp [idText]
    have hm : d + 1 ≤ (if m < d + 1 then d + 1 else m) := by split <;> omega
    rw [e, brk_cons, bstep_open, brk_append, ihl _ _ _ hm]
    generalize hm1 : (if m < d + 1 then d + 1 else m) = m1 at *
    have hm2 : d + 1 ≤ (if m1 < d + 1 + (deepT l : Nat) then d + 1 + (deepT l : Nat) else m1) := by split <;> omega
    rw [brk_cons, bstep_other _ _ _ 44 hm2 (by decide) (by decide), brk_append, ihr _ _ _ hm2]
    generalize hm3 : (if m1 < d + 1 + (deepT l : Nat) then d + 1 + (deepT l : Nat) else m1) = m2 at *
    have hm4 : d + 1 ≤ (if m2 < d + 1 + (deepT r : Nat) then d + 1 + (deepT r : Nat) else m2) := by split <;> omega
    rw [brk_cons, bstep_shut _ _ _ hm4, brk_nil]
    have p : ((pairsT (Tr.pair l r) : Nat) : Int) = 1 + (pairsT l : Nat) + (pairsT r : Nat) := by show ((1 + pairsT l + pairsT r : Nat) : Int) = _; omega
    have q : ((deepT (Tr.pair l r) : Nat) : Int) = (max (deepT l) (deepT r) + 1 : Nat) := rfl
    rw [p, q]
    refine Prod.ext (by simp only; omega) (Prod.ext (by simp only; omega) ?_)
    simp only
    split at hm1 <;> split at hm3 <;> split <;> split <;> omega
theorem brk_digs (ds : List UInt8) (n d m : Int) (h : d ≤ m) (ha : allD ds) : brk (n, d, m) ds = (n, d, m) := by
  induction ds with
  | nil => rfl
  | cons c ds ih =>
    rw [brk_cons, bstep_other n d m c h (by rintro rfl; have := ha.1; exact absurd this.1 (by decide)) (by rintro rfl; have := ha.1; exact absurd this.1 (by decide))]
    exact ih ha.2
theorem brk_ev (t : Tr Nat) : ∀ (base : Nat) (n d m : Int), d ≤ m → ∃ m', d ≤ m' ∧ brk (n, d, m) (evText (toEv t base)) = (n + (pairsT t : Nat), d, m') := by
  induction t using Tr.ind with
  | leaf a =>
    intro base n d m h
    refine ⟨m, h, ?_⟩
    show brk (n, d, m) (digs (a - base)) = (n + ((0 : Nat) : Int), d, m)
    rw [brk_digs _ _ _ _ h (digs_val _).2.1]
    simp
  | pair l r ihl ihr =>
    intro base n d m h
    have e : evText (toEv (.pair l r) base) = 40 :: (digs (min (lowest l) (lowest r) - base) ++ 44 :: (evText (toEv l (min (lowest l) (lowest r))) ++ 44 :: (evText (toEv r (min (lowest l) (lowest r))) ++ [41]))) := by simp [toEv, evText]
    have hm : d + 1 ≤ (if m < d + 1 then d + 1 else m) := by split <;> omega
    rw [e, brk_cons, bstep_open, brk_append, brk_digs _ _ _ _ hm (digs_val _).2.1, brk_cons, bstep_other _ _ _ 44 hm (by decide) (by decide), brk_append]
    obtain ⟨m1, h1, e1⟩ := ihl (min (lowest l) (lowest r)) (n + 1) (d + 1) _ hm
    rw [e1, brk_cons, bstep_other _ _ _ 44 h1 (by decide) (by decide), brk_append]
    obtain ⟨m2, h2, e2⟩ := ihr (min (lowest l) (lowest r)) (n + 1 + (pairsT l : Nat)) (d + 1) m1 h1
    rw [e2, brk_cons, bstep_shut _ _ _ h2, brk_nil]
    refine ⟨m2, by omega, ?_⟩
    have p : ((pairsT (Tr.pair l r) : Nat) : Int) = 1 + (pairsT l : Nat) + (pairsT r : Nat) := by show ((1 + pairsT l + pairsT r : Nat) : Int) = _; omega
    rw [p]
    refine Prod.ext (by simp only; omega) (Prod.ext (by simp only; omega) rfl)

theorem brk_small (l : List UInt8) : ∀ (n d m : Int) (B : Int), -B ≤ n ∧ n ≤ B → -B ≤ d ∧ d ≤ B → -B ≤ m ∧ m ≤ B →
    (-(B + l.length) ≤ (brk (n, d, m) l).1 ∧ (brk (n, d, m) l).1 ≤ B + l.length) ∧ (-(B + l.length) ≤ (brk (n, d, m) l).2.1 ∧ (brk (n, d, m) l).2.1 ≤ B + l.length) ∧ (-(B + l.length) ≤ (brk (n, d, m) l).2.2 ∧ (brk (n, d, m) l).2.2 ≤ B + l.length) := by
  induction l with
  | nil => intro n d m B h1 h2 h3; simp only [brk_nil, List.length_nil]; omega
  | cons c l ih =>
    intro n d m B h1 h2 h3
    rw [brk_cons]
    generalize hst : bstep (n, d, m) c = st
    obtain ⟨n', d', m'⟩ := st
    have e1 : n' = if c = 40 then n + 1 else n := (congrArg Prod.fst hst).symm
    have e2 : d' = if c = 40 then d + 1 else if c = 41 then d - 1 else d := (congrArg (fun x => x.2.1) hst).symm
    have e3 : m' = if m < d' then d' else m := by
      have := congrArg (fun x => x.2.2) hst
      have h9 : (if m < (if c = 40 then d + 1 else if c = 41 then d - 1 else d) then (if c = 40 then d + 1 else if c = 41 then d - 1 else d) else m) = m' := this
      rw [← e2] at h9; exact h9.symm
    have b1 : n' ≤ n + 1 ∧ n ≤ n' := by rw [e1]; split <;> omega
    have b2 : d' ≤ d + 1 ∧ d - 1 ≤ d' := by rw [e2]; split <;> (try split) <;> omega
    have b3 : m' ≤ B + 1 ∧ -(B + 1) ≤ m' := by rw [e3]; split <;> omega
    have := ih n' d' m' (B + 1) (by omega) (by omega) (by omega)
    simp only [List.length_cons]
    omega

set_option maxRecDepth 100000 in
set_option maxHeartbeats 2000000 in
theorem brackets_any (s : ByteArray) (hs : s.size ≤ 20000) (w : World) :
    Calls Tryz.prog 89 #[.string s] w fun e w' => e = .returned (.tuple #[.int .i64 (brk (0, 0, 0) s.data.toList).1, .int .i64 (brk (0, 0, 0) s.data.toList).2.2]) ∧ w' = w := by
  have SN : ∀ k (h : k < s.size), s.data.toList.take (k + 1) = s.data.toList.take k ++ [s[k]] := fun k h => by
    rw [List.take_succ_eq_append_getElem (by simpa using h)]; rfl
  have SM : ∀ k, k ≤ s.size → _ := fun k (_ : k ≤ s.size) => brk_small (s.data.toList.take k) 0 0 0 0 (by omega) (by omega) (by omega)
  have LN : ∀ k, k ≤ s.size → (s.data.toList.take k).length = k := fun k h => by rw [List.length_take]; have : s.data.toList.length = s.size := by simp
                                                                                 omega
  have AL : s.data.toList.take s.size = s.data.toList := List.take_of_length_le (by simp)
  obtain ⟨F, hF⟩ : ∃ F : Nat → Int × Int × Int, ∀ k, brk (0, 0, 0) (s.data.toList.take k) = F k := ⟨fun k => brk (0, 0, 0) (s.data.toList.take k), fun _ => rfl⟩
  have F0 : F 0 = (0, 0, 0) := by rw [← hF]; rfl
  have FS : ∀ k (h : k < s.size), F (k + 1) = bstep (F k) s[k] := fun k h => by rw [← hF, ← hF, SN k h, brk_append]; rfl
  have FB : ∀ k, k ≤ s.size → (-20000 ≤ (F k).1 ∧ (F k).1 ≤ 20000) ∧ (-20000 ≤ (F k).2.1 ∧ (F k).2.1 ≤ 20000) ∧ (-20000 ≤ (F k).2.2 ∧ (F k).2.2 ≤ 20000) := fun k h => by
    have := SM k h
    rw [LN k h, hF] at this
    omega
  have FE : brk (0, 0, 0) s.data.toList = F s.size := by rw [← hF, AL]
  rw [FE]
  clear SN SM LN AL hF FE
  replace F0 := hide F0
  replace FS := hide FS
  replace FB := hide FB
  go_enter Tryz.func89, Tryz.ntmps89
  go_wp2_with fail
  go_loop [4, 5, 6, 7] (fun a d m x => ∃ k : Nat, k ≤ s.size ∧ x = .int .i64 (k : Nat) ∧ a = .int .i64 (F k).1 ∧ d = .int .i64 (F k).2.1 ∧ m = .int .i64 (F k).2.2) (fun _ _ _ x => s.size - (intOf x).toNat)
  case atStart => exact ⟨0, Nat.zero_le _, rfl, by rw [unhide F0], by rw [unhide F0], by rw [unhide F0]⟩
  case round =>
    obtain ⟨k, hk, rfl, rfl, rfl, rfl⟩ := hrel
    have fb := unhide FB k hk
    by_cases hlt : k < s.size
    · have ES := unhide FS k hlt
      have k0 : (0 : Int) ≤ (k : Int) := by omega
      have k1 : (k : Int) < (s.size : Int) := by omega
      generalize F k = st at *
      generalize hst : F (k + 1) = st' at *
      obtain ⟨n, d, m⟩ := st
      simp only at fb
      have c9 : ∀ (c x : UInt8), c ≠ x → ((c.toNat : Int) == (x.toNat : Int)) = false := fun c x h => beq_eq_false_iff_ne.2 fun e => h (UInt8.toNat_inj.1 (by omega))
      by_cases c40 : s[k] = 40
      · have v1 : ((s[k].toNat : Int) == 40) = true := by rw [c40]; rfl
        rw [c40, bstep_open] at ES
        clear c40 c9
        by_cases hg : m < d + 1
        · rw [if_pos hg] at ES
          subst ES
          replace hst := hide hst
          go_wp2_with fail
          go_round
          case rel => exact ⟨k + 1, by omega, by go_num, by rw [unhide hst], by rw [unhide hst], by rw [unhide hst]⟩
          case measure => simp [intOf]; omega
        · rw [if_neg hg] at ES
          subst ES
          replace hst := hide hst
          go_wp2_with fail
          go_round
          case rel => exact ⟨k + 1, by omega, by go_num, by rw [unhide hst], by rw [unhide hst], by rw [unhide hst]⟩
          case measure => simp [intOf]; omega
      · have v1 : ((s[k].toNat : Int) == 40) = false := c9 _ 40 c40
        by_cases c41 : s[k] = 41
        · have v2 : ((s[k].toNat : Int) == 41) = true := by rw [c41]; rfl
          have EQ : bstep (n, d, m) 41 = (n, d - 1, if m < d - 1 then d - 1 else m) := rfl
          rw [c41, EQ] at ES
          clear c40 c41 c9 EQ
          by_cases hg : m < d - 1
          · rw [if_pos hg] at ES
            subst ES
            replace hst := hide hst
            go_wp2_with fail
            go_round
            case rel => exact ⟨k + 1, by omega, by go_num, by rw [unhide hst], by rw [unhide hst], by rw [unhide hst]⟩
            case measure => simp [intOf]; omega
          · rw [if_neg hg] at ES
            subst ES
            replace hst := hide hst
            go_wp2_with fail
            go_round
            case rel => exact ⟨k + 1, by omega, by go_num, by rw [unhide hst], by rw [unhide hst], by rw [unhide hst]⟩
            case measure => simp [intOf]; omega
        · have v2 : ((s[k].toNat : Int) == 41) = false := c9 _ 41 c41
          have EQ : bstep (n, d, m) s[k] = (n, d, if m < d then d else m) := by
            unfold bstep
            simp only [if_neg c40, if_neg c41]
          rw [EQ] at ES
          clear c40 c41 c9 EQ
          by_cases hg : m < d
          · rw [if_pos hg] at ES
            subst ES
            replace hst := hide hst
            go_wp2_with fail
            go_round
            case rel => exact ⟨k + 1, by omega, by go_num, by rw [unhide hst], by rw [unhide hst], by rw [unhide hst]⟩
            case measure => simp [intOf]; omega
          · rw [if_neg hg] at ES
            subst ES
            replace hst := hide hst
            go_wp2_with fail
            go_round
            case rel => exact ⟨k + 1, by omega, by go_num, by rw [unhide hst], by rw [unhide hst], by rw [unhide hst]⟩
            case measure => simp [intOf]; omega
    · have hkn : k = s.size := by omega
      subst hkn
      go_wp2_with fail
      go_ret2
      exact ⟨rfl, rfl⟩

end Go.Proofs.YtoebmfhgaalcdaaGreatDoor
