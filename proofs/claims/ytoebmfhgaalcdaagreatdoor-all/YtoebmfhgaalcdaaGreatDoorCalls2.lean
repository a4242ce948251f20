/-
  Our own. The calls of package sprigs, second part: Join, Fork.
-/
import Derived.Test.YtoebmfhgaalcdaaGreatDoorCalls1
import Derived.OwnWalk
namespace Go.Proofs.YtoebmfhgaalcdaaGreatDoor
open Go.RowKit

set_option maxHeartbeats 1600000 in
theorem join_ok {s t : ByteArray} {i1 i2 : Tr Bool} {e1 e2 : Tr Nat} (hs : s.size ≤ maxLen) (ht : t.size ≤ maxLen) (f : readR s = .ok i1 e1) (g : readR t = .ok i2 e2) (hc : anyB (fun x y => x && y) i1 i2 = false)
    (P : PT (zip (fun x y => x || y) i1 i2) (zip (fun x y => max x y) e1 e2)) (w : World) (T : Tab w) :
    Calls Tryz.prog 13 #[.string s, .string t] w fun e w' => e = .returned (.tuple #[.string (strOf (wtext (zip (fun x y => x || y) i1 i2) (zip (fun x y => max x y) e1 e2))), .int .i64 0]) ∧ Below w.heap.size w w' := by
  have R := hide (readTwo_ok hs ht f g w)
  have C : ∀ (w : World) (v u : Value), TB w v i1 → TB w u i2 → Calls Tryz.prog 29 #[v, u] w fun e w' => e = .returned (.bool false) ∧ Below w.heap.size w w' := fun w v u h g => by rw [← hc]; exact clash_of h g
  have S := hide (fun w v u T h g => write_any _ _ P w v u T h g)
  have JP := hide (fun w v u (h : TB w v i1) (g : TB w u i2) => pJoin_of h g)
  have JC := hide (fun w v u (h : TI w v e1) (g : TI w u e2) => cJoin_of h g)
  replace C := hide C
  replace T := hide T
  clear f g hc P
  generalize strOf (wtext (zip (fun x y => x || y) i1 i2) (zip (fun x y => max x y) e1 e2)) = Z at *
  go_enter Tryz.func13, Tryz.ntmps13
  go_wp2_with fail
  refine (unhide R).mono ?_
  rintro e w1 ⟨a, b, c, d, rfl, ta, tb, tc, td, b1⟩
  have s1 : (w1.alloc (.cells #[.pointer (some ⟨a, 0, none⟩), .pointer (some ⟨b, 0, none⟩)] 61)).heap.size = w1.heap.size + 1 := by simp
  have bb := below_trans (below_alloc w1 (.cells #[.pointer (some ⟨a, 0, none⟩), .pointer (some ⟨b, 0, none⟩)] 61)) (below_alloc _ (.cells #[.pointer (some ⟨c, 0, none⟩), .pointer (some ⟨d, 0, none⟩)] 61))
  have x1 := (Box.new w1 (.pointer (some ⟨a, 0, none⟩)) (.pointer (some ⟨b, 0, none⟩))).keep (below_alloc _ (.cells #[.pointer (some ⟨c, 0, none⟩), .pointer (some ⟨d, 0, none⟩)] 61))
  have x2 := Box.new (w1.alloc (.cells #[.pointer (some ⟨a, 0, none⟩), .pointer (some ⟨b, 0, none⟩)] 61)) (.pointer (some ⟨c, 0, none⟩)) (.pointer (some ⟨d, 0, none⟩))
  rw [s1] at x2
  have TA1 := hide (TA.below ta bb)
  have TB1 := hide (TA.below tb bb)
  have TC1 := hide (TA.below tc bb)
  have TD1 := hide (TA.below td bb)
  have B1 := hide (below_trans b1 bb)
  have T1 := hide ((unhide T).below (unhide B1))
  replace x1 := hide x1
  replace x2 := hide x2
  clear ta tb tc td b1 bb s1 T R
  go_wp2_with fail
  generalize (w1.alloc (.cells #[.pointer (some ⟨a, 0, none⟩), .pointer (some ⟨b, 0, none⟩)] 61)).alloc (.cells #[.pointer (some ⟨c, 0, none⟩), .pointer (some ⟨d, 0, none⟩)] 61) = W at *
  generalize w1.heap.size = N at *
  refine (unhide C _ _ _ (unhide TA1) (unhide TC1)).mono ?_
  rintro e w2 ⟨rfl, b2⟩
  obtain ⟨c0, c1, _⟩ := ((unhide x1).keep b2).cells
  obtain ⟨d0, d1, _⟩ := ((unhide x2).keep b2).cells
  have TA2 := hide (TA.below (unhide TA1) b2)
  have TB2 := hide (TA.below (unhide TB1) b2)
  have TC2 := hide (TA.below (unhide TC1) b2)
  have TD2 := hide (TA.below (unhide TD1) b2)
  have T2 := hide ((unhide T1).below b2)
  have B2 := hide (below_trans (unhide B1) b2)
  clear TA1 TB1 TC1 TD1 T1 B1 x1 x2 b2 C
  go_wp2_with fail
  go_region_held3 (fun w' => w'.cell? ⟨N, 0, none⟩ = some (.pointer (some ⟨a, 0, none⟩)) ∧ w'.cell? ⟨N, 1, none⟩ = some (.pointer (some ⟨b, 0, none⟩)) ∧ w'.cell? ⟨N + 1, 0, none⟩ = some (.pointer (some ⟨c, 0, none⟩)) ∧ w'.cell? ⟨N + 1, 1, none⟩ = some (.pointer (some ⟨d, 0, none⟩)))
    (refine ⟨?_, ?_, ?_, ?_⟩ <;> (first | assumption | (refine cell_drew_keep ?_; assumption)))
    (first
      | (go_at_call 30; refine (unhide JP _ _ _ (TA.below (unhide TA2) (below_drew _)) (TA.below (unhide TC2) (below_drew _))).mono ?_; rintro e w4 ⟨k4, rfl, t4, b4⟩; have f0 := cell_keep b4 c0; have f1 := cell_keep b4 c1; have f2 := cell_keep b4 d0; have f3 := cell_keep b4 d1)
      | (go_at_call 31; refine (unhide JC _ _ _ (TA.below (TA.below (unhide TB2) (below_drew _)) b4) (TA.below (TA.below (unhide TD2) (below_drew _)) b4)).mono ?_; rintro e w5 ⟨k5, rfl, t5, b5⟩; have g0 := cell_keep b5 f0; have g1 := cell_keep b5 f1; have g2 := cell_keep b5 f2; have g3 := cell_keep b5 f3)
      | (go_at_call 26; refine (unhide S _ _ _ ((((unhide T2).below (below_drew _)).below b4).below b5) (TA.below t4 b5) t5).mono ?_; rintro e w6 ⟨rfl, b6⟩; have h0 := cell_keep b6 g0; have h1 := cell_keep b6 g1; have h2 := cell_keep b6 g2; have h3 := cell_keep b6 g3))
  all_goals
    go_wp2_with fail
    go_ret2
    exact ⟨rfl, below_trans (unhide B2) (below_trans (below_trans (below_trans (below_drew _) b4) b5) b6)⟩

set_option maxHeartbeats 1600000 in
theorem join_clash {s t : ByteArray} {i1 i2 : Tr Bool} {e1 e2 : Tr Nat} (hs : s.size ≤ maxLen) (ht : t.size ≤ maxLen) (f : readR s = .ok i1 e1) (g : readR t = .ok i2 e2) (hc : anyB (fun x y => x && y) i1 i2 = true) (w : World) :
    Calls Tryz.prog 13 #[.string s, .string t] w fun e w' => e = .returned (.tuple #[.string { data := #[] }, .int .i64 5]) ∧ Below w.heap.size w w' := by
  have R := hide (readTwo_ok hs ht f g w)
  have C : ∀ (w : World) (v u : Value), TB w v i1 → TB w u i2 → Calls Tryz.prog 29 #[v, u] w fun e w' => e = .returned (.bool true) ∧ Below w.heap.size w w' := fun w v u h g => by rw [← hc]; exact clash_of h g
  replace C := hide C
  clear f g hc
  go_enter Tryz.func13, Tryz.ntmps13
  go_wp2_with fail
  refine (unhide R).mono ?_
  rintro e w1 ⟨a, b, c, d, rfl, ta, tb, tc, td, b1⟩
  replace ta := hide ta
  replace tb := hide tb
  replace tc := hide tc
  replace td := hide td
  replace b1 := hide b1
  go_wp2_with fail
  refine (unhide C _ _ _ (TA.below (TA.below (unhide ta) (below_alloc w1 _)) (below_alloc _ _)) (TA.below (TA.below (unhide tc) (below_alloc w1 _)) (below_alloc _ _))).mono ?_
  rintro e w2 ⟨rfl, b2⟩
  replace b2 := hide b2
  go_wp2_with fail
  go_ret2
  exact ⟨rfl, below_trans (below_trans (below_trans (unhide b1) (below_alloc _ _)) (below_alloc _ _)) (unhide b2)⟩

/-- Fork, where nothing is held, or one cell. -/
theorem fork_few {s : ByteArray} {id : Tr Bool} {ev : Tr Nat} (hm : s.size ≤ maxLen) (f : readR s = .ok id ev) (hn : shareP id 256 ≤ 1) (w : World) :
    Calls Tryz.prog 11 #[.string s] w fun e w' => e = .returned (.tuple #[.string { data := #[] }, .string { data := #[] }, .int .i64 (if shareP id 256 = 0 then 4 else 6)]) ∧ Below w.heap.size w w' := by
  have R := hide (sread_ok hm f w)
  have S := hide (fun w v h => pShare_any id w v h)
  clear f
  generalize shareP id 256 = n at *
  by_cases h0 : n = 0
  · subst h0
    clear hn
    go_enter Tryz.func11, Tryz.ntmps11
    go_wp2_with fail
    refine (unhide R).mono ?_
    rintro e w1 ⟨k, j, rfl, h1, h2, b1⟩
    replace h1 := hide h1
    replace h2 := hide h2
    replace b1 := hide b1
    go_wp2_with fail
    refine (unhide S _ _ (TA.below (unhide h1) (below_alloc w1 _))).mono ?_
    rintro e w2 ⟨rfl, m, rfl⟩
    go_wp2_with fail
    go_ret3
    exact ⟨rfl, below_trans (below_trans (unhide b1) (below_alloc _ _)) (below_drewN _ _)⟩
  · have h1 : n = 1 := by omega
    subst h1
    clear hn h0
    go_enter Tryz.func11, Tryz.ntmps11
    go_wp2_with fail
    refine (unhide R).mono ?_
    rintro e w1 ⟨k, j, rfl, h1, h2, b1⟩
    replace h1 := hide h1
    replace h2 := hide h2
    replace b1 := hide b1
    go_wp2_with fail
    refine (unhide S _ _ (TA.below (unhide h1) (below_alloc w1 _))).mono ?_
    rintro e w2 ⟨rfl, m, rfl⟩
    go_wp2_with fail
    go_ret3
    exact ⟨rfl, below_trans (below_trans (unhide b1) (below_alloc _ _)) (below_drewN _ _)⟩

set_option maxHeartbeats 1600000 in
theorem fork_ok {s : ByteArray} {id : Tr Bool} {ev : Tr Nat} (hm : s.size ≤ maxLen) (f : readR s = .ok id ev) (hn : 2 ≤ shareP id 256) (P1 : PT (cutP id).1 ev) (P2 : PT (cutP id).2 ev) (w : World) (T : Tab w) :
    Calls Tryz.prog 11 #[.string s] w fun e w' => e = .returned (.tuple #[.string (strOf (wtext (cutP id).1 ev)), .string (strOf (wtext (cutP id).2 ev)), .int .i64 0]) ∧ Below w.heap.size w w' := by
  have R := hide (sread_ok hm f w)
  have S := hide (fun w v h => pShare_any id w v h)
  have CU := hide (fun w v h => cut_any id w v h)
  have W1 := hide (fun w v u T h g => write_any _ _ P1 w v u T h g)
  have W2 := hide (fun w v u T h g => write_any _ _ P2 w v u T h g)
  replace T := hide T
  clear f P1 P2
  generalize shareP id 256 = n at *
  have n0 : ((n : Int) == 0) = false := beq_eq_false_iff_ne.2 (by omega)
  have n1 : ((n : Int) == 1) = false := beq_eq_false_iff_ne.2 (by omega)
  clear hn
  generalize strOf (wtext (cutP id).1 ev) = Z1 at *
  generalize strOf (wtext (cutP id).2 ev) = Z2 at *
  go_enter Tryz.func11, Tryz.ntmps11
  go_wp2_with fail
  refine (unhide R).mono ?_
  rintro e w1 ⟨k, j, rfl, h1, h2, b1⟩
  have bb := below_alloc w1 (.cells #[.pointer (some ⟨k, 0, none⟩), .pointer (some ⟨j, 0, none⟩)] 61)
  have x1 := hide (Box.new w1 (.pointer (some ⟨k, 0, none⟩)) (.pointer (some ⟨j, 0, none⟩)))
  have H1 := hide (TA.below h1 bb)
  have H2 := hide (TA.below h2 bb)
  have B := hide (below_trans b1 bb)
  have T1 := hide ((unhide T).below (unhide B))
  clear h1 h2 b1 bb T R
  go_wp2_with fail
  generalize w1.alloc (.cells #[.pointer (some ⟨k, 0, none⟩), .pointer (some ⟨j, 0, none⟩)] 61) = W at *
  generalize w1.heap.size = N at *
  refine (unhide S _ _ (unhide H1)).mono ?_
  rintro e w2 ⟨rfl, m, rfl⟩
  have x2 := hide ((unhide x1).keep (below_drewN W m))
  have H3 := hide (TA.below (unhide H1) (below_drewN W m))
  have H4 := hide (TA.below (unhide H2) (below_drewN W m))
  have B2 := hide (below_trans (unhide B) (below_drewN W m))
  have T2 := hide ((unhide T1).below (below_drewN W m))
  obtain ⟨c0, c1, _⟩ := (unhide x1).cells
  clear x1 H1 H2 B T1
  go_wp2_with fail
  refine (unhide CU _ _ (unhide H3)).mono ?_
  rintro e w3 ⟨p, q, rfl, t1, t2, b3⟩
  obtain ⟨d0, d1, _⟩ := ((unhide x2).keep b3).cells
  have H5 := hide (TA.below (unhide H4) b3)
  have B3 := hide (below_trans (unhide B2) b3)
  have T3 := hide ((unhide T2).below b3)
  clear c0 c1 x2 H3 H4 B2 T2 b3
  replace t1 := hide t1
  replace t2 := hide t2
  go_wp2_with fail
  go_region_held3 (fun w' => w'.cell? ⟨N, 1, none⟩ = some (.pointer (some ⟨j, 0, none⟩)))
    (first | assumption | (refine cell_drew_keep ?_; assumption))
    (first
      | (go_at_call_of 26 (Value.agg #[Value.pointer (some (Addr.mk p 0 none)), Value.pointer (some (Addr.mk j 0 none))]); refine (unhide W1 _ _ _ ((unhide T3).below (below_drew _)) (TA.below (unhide t1) (below_drew _)) (TA.below (unhide H5) (below_drew _))).mono ?_; rintro e w4 ⟨rfl, b4⟩; have e1 := cell_keep b4 d1)
      | (go_at_call_of 26 (Value.agg #[Value.pointer (some (Addr.mk q 0 none)), Value.pointer (some (Addr.mk j 0 none))]); refine (unhide W2 _ _ _ (((unhide T3).below (below_drew _)).below b4) (TA.below (TA.below (unhide t2) (below_drew _)) b4) (TA.below (TA.below (unhide H5) (below_drew _)) b4)).mono ?_; rintro e w5 ⟨rfl, b5⟩; have e2 := cell_keep b5 e1))
  all_goals
    go_wp2_with fail
    go_ret3
    exact ⟨rfl, below_trans (unhide B3) (below_trans (below_trans (below_drew _) b4) b5)⟩

end Go.Proofs.YtoebmfhgaalcdaaGreatDoor
