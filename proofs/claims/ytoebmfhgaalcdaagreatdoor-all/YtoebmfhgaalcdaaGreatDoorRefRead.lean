/-
  Our own. sprigsref.Read: what a call does, of any text.
-/
import Derived.Test.YtoebmfhgaalcdaaGreatDoorRefQAll
import Derived.Test.YtoebmfhgaalcdaaGreatDoorWalkCheck
namespace Go.Proofs.YtoebmfhgaalcdaaGreatDoor
open Go.RowKit

/-- What a call of sprigsref.Read leaves. -/
def RReadEnd (w : World) (o : Rd1) (e : Ending) (w' : World) : Prop :=
  match o with
  | ⟨.inl (id, ev)⟩ => ∃ b, e = .returned (.tuple #[.pointer (some ⟨b, 0, none⟩), .int .i64 0, .int .i64 0]) ∧ w.heap.size ≤ b ∧ St b (lay (cellB id 256) 0 256 (fun _ => false)) (lay (cellI ev 256) 0 256 (fun _ => 0)) w' ∧ Below w.heap.size w w'
  | ⟨.inr (errno, place)⟩ => e = .returned (.tuple #[.pointer none, .int .i64 errno, .int .i64 place]) ∧ Below w.heap.size w w'

/-- What is known of Fails. -/
def FailsSaid : Prop := ∀ (s : ByteArray) (w : World), s.size ≤ 20000 → Calls Tryz.prog 76 #[.string s] w fun e w' => e = .returned (.int .i64 (plV (failsR s))) ∧ Below w.heap.size w w'

set_option maxHeartbeats 400000 in
theorem rread_long (s : ByteArray) (w : World) (hs : 20000 < s.size) (hm : s.size ≤ maxLen) :
    Calls Tryz.prog 38 #[.string s] w fun e w' => RReadEnd w (.bad 1 0) e w' := by
  unfold maxLen at hm
  go_enter Tryz.func38, Tryz.ntmps38
  go_wp2_with fail
  go_ret3
  exact ⟨rfl, Below.refl _ _⟩

set_option maxHeartbeats 400000 in
theorem rread_text (F : FailsSaid) (s : ByteArray) (w : World) (hs : s.size ≤ 20000) (j : Nat) (hf : failsR s = some j) :
    Calls Tryz.prog 38 #[.string s] w fun e w' => RReadEnd w (.bad 2 j) e w' := by
  have FF := hide (fun w1 => F s w1 hs)
  rw [hf] at FF
  have j0 : (0 : Int) ≤ (j : Int) := by omega
  clear hf F
  go_enter Tryz.func38, Tryz.ntmps38
  go_wp2_with fail
  refine (unhide FF _).mono ?_
  rintro e w1 ⟨rfl, b1⟩
  simp only [plV]
  go_wp2_with fail
  go_ret3
  exact ⟨rfl, b1⟩

/-- Two ways to say: the first place that is not plain. -/
theorem plain_two (N : Nat) (p1 p2 : Option Nat) (i1 : Nat) (h1 : ∀ x, p1 = some x → x < i1) (h2 : ∀ x, p2 = some x → i1 ≤ x ∧ x < N) (hi : i1 ≤ N) :
    (mnP (mnP N p1) p2 < N → ∃ x, (if plV p1 < 0 then plV p2 else plV p1) = (x : Nat) ∧ mnP (mnP N p1) p2 = x) ∧ (¬ mnP (mnP N p1) p2 < N → (if plV p1 < 0 then plV p2 else plV p1) = -1) := by
  cases p1 with
  | none =>
    rw [if_pos (by show (-1 : Int) < 0; omega)]
    cases p2 with
    | none => exact ⟨fun h => by simp [mnP] at h, fun _ => rfl⟩
    | some y =>
      have := h2 y rfl
      exact ⟨fun _ => ⟨y, rfl, by show min N y = y; omega⟩, fun h => by exfalso; apply h; show min N y < N; omega⟩
  | some x =>
    have hx := h1 x rfl
    rw [if_neg (by show ¬ (x : Int) < 0; omega)]
    cases p2 with
    | none => exact ⟨fun _ => ⟨x, rfl, by show min N x = x; omega⟩, fun h => by exfalso; apply h; show min N x < N; omega⟩
    | some y =>
      have := h2 y rfl
      exact ⟨fun _ => ⟨x, rfl, by show min (min N x) y = x; omega⟩, fun h => by exfalso; apply h; show min (min N x) y < N; omega⟩

theorem most_stamp (b : Nat) (H : Nat → Bool) (ev : Tr Nat) (w : World) (h : St b H (lay (cellI ev 256) 0 256 (fun _ => 0)) w) (hd : ev.deepN ≤ 8) :
    Calls Tryz.prog 79 #[.pointer (some ⟨b, 0, none⟩), .int .i64 0, .int .i64 256] w fun e w' => e = .returned (.int .i64 (highest ev : Nat)) ∧ w' = w := by
  have M := most_any b 0 256 H _ w h (by omega) (by omega)
  have e : maxTo (fun i => lay (cellI ev 256) 0 256 (fun _ => 0) (0 + i)) 256 = highest ev := by
    have m := max_cells ev 8 hd
    rw [show (2 ^ 8 : Nat) = 256 by decide] at m
    refine (maxTo_congr _ _ 256 (fun i hi => ?_)).trans m
    rw [lay_in _ _ _ _ _ (by omega) (by omega), show 0 + i - 0 = i by omega]
  rw [e] at M
  exact M

set_option maxRecDepth 100000 in
set_option maxHeartbeats 4000000 in
theorem rread_whole (F : FailsSaid) (s : ByteArray) (w : World) (hs : s.size ≤ 20000) (id : Tr Bool) (i1 r1 : Nat) (ev : Tr Nat) (n r2 : Nat) (hf : failsR s = none) (f1 : idR s 8 0 s.size = .ok id i1 r1) (g : nx s i1 = 59)
    (f2 : evR s 8 0 (i1 + 1) r1 = .ok (ev, n) s.size r2) :
    Calls Tryz.prog 38 #[.string s] w fun e w' => RReadEnd w (if 1099511627776 < highest ev then .bad 7 s.size else if r2 < s.size then .bad 3 r2 else .ok id ev) e w' := by
  have FF := hide (fun w1 => F s w1 hs)
  rw [hf] at FF
  have l1 := lt_of_nx s i1 (by omega)
  have nd : isDig (nx s s.size) = false := by rw [nx_end]; rfl
  obtain ⟨p1, m1, b1, c1⟩ := plainId_any s hs 8 0 s.size id i1 r1 f1
  obtain ⟨p2, m2, b2, c2⟩ := plainEv_any s hs 8 0 (i1 + 1) r1 ev n s.size r2 (by omega) f2 nd
  have R1 := hide (fun b H C w1 hst => rid_any b s hs 8 0 s.size id i1 r1 0 H C w1 f1 hst (by decide))
  have R2 := hide (fun b H C w1 hC hst => rev_any b s hs 8 0 (i1 + 1) r1 ev n s.size r2 0 H C w1 (by omega) (by omega) f2 nd hC hst (by decide))
  have hd := evR_deep_le s 8 0 (i1 + 1) r1 ev n s.size r2 f2
  have PT := plain_two s.size p1 p2 (i1 + 1) (fun x hx => by have := b1 x hx; omega) (fun x hx => b2 x hx) (by omega)
  rw [← m1, ← m2] at PT
  have C1 := hide c1
  have C2 := hide c2
  clear hf F g f1 f2 nd m1 m2 b1 b2 c1 c2
  replace PT := hide PT
  have e8 : (2 ^ 8 : Nat) = 256 := by decide
  rw [e8] at R1 R2
  clear e8
  generalize hO : (if 1099511627776 < highest ev then Rd1.bad 7 s.size else if r2 < s.size then .bad 3 r2 else .ok id ev) = O
  have HO := hide hO
  clear hO
  go_enter Tryz.func38, Tryz.ntmps38
  go_wp2_with fail
  refine (unhide FF _).mono ?_
  rintro e w1 ⟨rfl, b1⟩
  simp only [plV]
  go_wp2_with fail
  refine (unhide R1 _ _ _ _ (St.zero w1)).mono ?_
  rintro e w2 ⟨rfl, s2, a2⟩
  go_wp2_with fail
  refine (unhide R2 _ _ _ _ (fun _ _ _ => rfl) s2).mono ?_
  rintro e w3 ⟨rfl, s3, a3⟩
  go_wp2_with fail
  refine (most_stamp _ _ ev _ s3 hd).mono ?_
  rintro e w3' ⟨rfl, rfl⟩
  have BB : Below w.heap.size w w3' := (b1.alloc b1.size _).trans (((a2.trans a3).below (by simp)).mono b1.size)
  have BZ := b1.size
  clear b1 a2 a3 s2 R1 R2 FF
  by_cases hm : 1099511627776 < highest ev
  · have E : Hid (O = .bad 7 s.size) := by
      have := unhide HO; rw [if_pos hm] at this; exact this.symm
    have hm2 : (1099511627776 : Int) < ((highest ev : Nat) : Int) := by omega
    clear hm HO PT
    go_wp2_with fail
    go_ret3
    rw [unhide E]
    exact ⟨rfl, BB⟩
  · have hm2 : ¬ (1099511627776 : Int) < ((highest ev : Nat) : Int) := by omega
    by_cases hr : r2 < s.size
    · have E : Hid (O = .bad 3 r2) := by
        have := unhide HO; rw [if_neg hm, if_pos hr] at this; exact this.symm
      obtain ⟨x, px, rfl⟩ := (unhide PT).1 hr
      clear hm HO PT
      cases p1 with
      | none =>
        rw [if_pos (by show (-1 : Int) < 0; omega)] at px
        have PX := hide px
        clear px
        go_wp2_with fail
        refine (unhide C1 _).mono ?_
        rintro e w4 ⟨rfl, rfl⟩
        rw [show plV none = -1 from rfl]
        go_wp2_with fail
        refine (unhide C2 _).mono ?_
        rintro e w4 ⟨rfl, rfl⟩
        rw [unhide PX]
        have x0 : (0 : Int) ≤ (r2 : Int) := by omega
        go_wp2_with fail
        go_ret3
        rw [unhide E]
        exact ⟨rfl, BB⟩
      | some y =>
        rw [if_neg (by show ¬ (y : Int) < 0; omega)] at px
        have PX := hide px
        clear px
        go_wp2_with fail
        refine (unhide C1 _).mono ?_
        rintro e w4 ⟨rfl, rfl⟩
        rw [unhide PX]
        have x0 : (0 : Int) ≤ (r2 : Int) := by omega
        go_wp2_with fail
        refine (unhide C2 _).mono ?_
        rintro e w4 ⟨rfl, rfl⟩
        go_wp2_with fail
        go_ret3
        rw [unhide E]
        exact ⟨rfl, BB⟩
    · have E : Hid (O = .ok id ev) := by
        have := unhide HO; rw [if_neg hm, if_neg hr] at this; exact this.symm
      have px := (unhide PT).2 hr
      clear hm HO PT hr
      cases p1 with
      | none =>
        rw [if_pos (by show (-1 : Int) < 0; omega)] at px
        have PX := hide px
        clear px
        go_wp2_with fail
        refine (unhide C1 _).mono ?_
        rintro e w4 ⟨rfl, rfl⟩
        rw [show plV none = -1 from rfl]
        go_wp2_with fail
        refine (unhide C2 _).mono ?_
        rintro e w4 ⟨rfl, rfl⟩
        rw [unhide PX]
        go_wp2_with fail
        go_ret3
        rw [unhide E]
        exact ⟨_, rfl, BZ, s3, BB⟩
      | some y =>
        exfalso
        rw [if_neg (by show ¬ (y : Int) < 0; omega)] at px
        have : (y : Int) = -1 := px
        omega

/-- sprigsref.Read, of any text. -/
theorem rread_any (F : FailsSaid) (s : ByteArray) (w : World) (hm : s.size ≤ maxLen) : Calls Tryz.prog 38 #[.string s] w fun e w' => RReadEnd w (readR s) e w' := by
  by_cases h : 20000 < s.size
  · rw [readR_of_long s h]; exact rread_long s w h hm
  · rcases readR_fails (s := s) (by omega) with ⟨j, f1, f2⟩ | ⟨id, i1, r1, ev, n, r2, f1, f2, f3, f4, f5⟩
    · rw [f2]; exact rread_text F s w (by omega) j f1
    · rw [f5]; exact rread_whole F s w (by omega) id i1 r1 ev n r2 f1 f2 f3 f4

end Go.Proofs.YtoebmfhgaalcdaaGreatDoor
