/-
  Our own. sprigskeep.Halves: true, whatever the raw numbers.
-/
import Derived.Test.YtoebmfhgaalcdaaDoorHalvesP
import Derived.Test.YtoebmfhgaalcdaaDoorKeepEv
import Derived.Test.YtoebmfhgaalcdaaDoorBoxes
import Derived.Deep.AppendLies
namespace Go.Proofs.YtoebmfhgaalcdaaDoor
open Go.RowKit

/-- The state of the first loop. -/
structure Cutting (B : Nat) (w wr : World) (ev : Tr Nat) (k : Nat) (id : Tr Bool) (G : List (Tr Bool)) (i : Nat) (v : Value) : Prop where
  ik : i + k = 8
  len : G.length = i
  ch : chainT id
  dp : deepT id = i
  pt : PT id ev
  all : ∀ g ∈ G, PT g ev
  cov : Cov id G
  row : Row B wr v (G.map (fun g => tx g ev))
  bel : Below w.heap.size w wr

/-- The state of the second loop. -/
structure Joining (B : Nat) (w wr : World) (ev : Tr Nat) (k : Nat) (id : Tr Bool) (G : List (Tr Bool)) (i : Nat) (v : Value) : Prop where
  len : G.length = k
  ik : i + k = 8
  pt : PT id ev
  all : ∀ g ∈ G, PT g ev
  cov : Cov id G
  row : Row B wr v (G.map (fun g => tx g ev))
  bel : Below w.heap.size w wr
theorem Joining.keep {w wr w' : World} {ev : Tr Nat} {k : Nat} {id : Tr Bool} {G : List (Tr Bool)} {i : Nat} {v : Value} (c : Joining w.heap.size w wr ev k id G i v) (hb : Below wr.heap.size wr w') : Joining w.heap.size w w' ev k id G i v :=
  ⟨c.len, c.ik, c.pt, c.all, c.cov, c.row.keep hb, c.bel.trans (hb.mono c.bel.size)⟩

theorem Cutting.share {B : Nat} {w wr : World} {ev : Tr Nat} {k : Nat} {id : Tr Bool} {G : List (Tr Bool)} {i : Nat} {v : Value} (c : Cutting B w wr ev k id G i v) : shareP id 256 = 2 ^ k := by
  have := chain_share id 8 c.ch (by have := c.dp; have := c.ik; omega)
  rw [c.dp, show 8 - i = k by have := c.ik; omega] at this
  exact this

theorem pow_two_pos (k : Nat) : 2 ^ (k + 1) = 2 * 2 ^ k := by rw [Nat.pow_succ]; omega

theorem Row.below_own {B : Nat} {w w' : World} {v : Value} {L : List ByteArray} (h : Row B w v L) (hB : B ≤ w.heap.size) (hg : w.grownBy w' v.ownBlock) : Below B w w' := by
  refine ⟨hg.os, hg.tape, hg.output, hg.size, fun k hk => hg.block k (by omega) fun e => ?_⟩
  have := (World.ownsRow.lt h) k e.symm
  omega

theorem four_tx (l : List Int) : strOf [49, 59] ++ strOf (evText (anEvP l 4 false 0).1) = tx (.leaf true) (evTree 0 (anEvP l 4 false 0).1) ∧ PT (.leaf true) (evTree 0 (anEvP l 4 false 0).1) := by
  have h2 := anEvP_props l 4 false 0
  have h3 := high_small _ 0 h2.2.1
  have h4 := h2.1
  have G : Good (.leaf true) (anEvP l 4 false 0).1 := ⟨Nat.zero_le _, trivial, by omega, h2.2.2.1, by omega⟩
  have T := G.toPT
  refine ⟨?_, T.1⟩
  rw [tx, T.2, strOf_append]; rfl

set_option maxRecDepth 100000 in
set_option maxHeartbeats 8000000 in
theorem halves_any (v1 v2 : Value) (l1 l2 : List Int) (w : World) (T : Tab w) (h1 : Sl w.heap.size w v1 l1) (h2 : Sl w.heap.size w v2 l2) :
    Calls Tryd.prog 5 #[v1, v2] w fun e w' => e = .returned (.bool true) ∧ Below w.heap.size w w' := by
  obtain ⟨i0, hi, hz0, hz1, hz2⟩ := info_parts Tryd.info9H
  have hv := h2.at_
  have hv1 := h1.at_
  have A : Apart w.heap.size w (w.alloc (.cells #[v2, .int .i64 0] 43)) := (Apart.refl _ _).alloc _
  have s1 := h2.apart (Nat.le_refl _) (Nat.le_refl _) A
  have r1 : Rw w.heap.size v2 0 (w.alloc (.cells #[v2, .int .i64 0] 43)) := heap_new w _
  have I2 : Calls Tryd.prog 14 #[.pointer (some ⟨w.heap.size, 0, none⟩), .int .i64 4, .bool false] (w.alloc (.cells #[v2, .int .i64 0] 43)) fun e w' => e = .returned (.string (strOf (evText (anEvP l2 4 false 0).1))) ∧ Below w.heap.size w w' := by
    refine (anEv_any w.heap.size w.heap.size v2 l2 (Nat.le_refl _) 4 (by omega) false 0 _ s1 A.size r1 (by omega)).mono ?_
    rintro e w' ⟨rfl, _, a⟩
    exact ⟨rfl, (A.trans a).below (Nat.le_refl _)⟩
  obtain ⟨E1, P1⟩ := four_tx l2
  have q2 : (strOf (evText (anEvP l2 4 false 0).1)).size ≤ 2042 := by rw [strOf_size]; exact anEvP_len8 l2 4 false _ (by omega)
  have C0 := cat_ok { data := #[49, 59] } (strOf (evText (anEvP l2 4 false 0).1)) (by have : ({ data := #[49, 59] } : ByteArray).size = 2 := rfl; omega)
  have E1' : ({ data := #[49, 59] } : ByteArray) ++ strOf (evText (anEvP l2 4 false 0).1) = tx (.leaf true) (evTree 0 (anEvP l2 4 false 0).1) := E1
  rw [E1'] at C0
  obtain ⟨p, cap, rfl, _⟩ := hv
  obtain ⟨p1, cap1, rfl, hv1⟩ := hv1
  have SL := hide h1
  have IN := hide h1.in_
  have LN := h1.len
  clear s1 r1 A h1 h2 E1 E1' hv1
  generalize strOf (evText (anEvP l2 4 false 0).1) = X at *
  generalize evTree 0 (anEvP l2 4 false 0).1 = ev at *
  generalize hF : tx (.leaf true) ev = F at *
  replace hF := hide hF
  replace I2 := hide I2
  replace T := hide T
  replace P1 := hide P1
  go_enter Tryd.func5, Tryd.ntmps5
  go_wp2_with fail
  refine (unhide I2).mono ?_
  rintro e w1 ⟨rfl, b1⟩
  replace b1 := hide b1
  go_wp2_with fail
  go_loopg [6, 8, 9, 10] 8 (fun k x y z u wr => ∃ (id : Tr Bool) (G : List (Tr Bool)) (i : Nat), Cutting w.heap.size w wr ev k id G i y ∧ x = .string (tx id ev) ∧ z = .int .i64 ((2 ^ k : Nat) : Int) ∧ u = .int .i64 (i : Int))
  case atStart =>
    exact ⟨.leaf true, [], 0, ⟨rfl, rfl, rfl, rfl, unhide P1, (fun _ h => by cases h), Cov.start, World.ownsRow_nil _ _ _ _, unhide b1⟩, by rw [unhide hF], rfl, rfl⟩
  case round =>
    obtain ⟨id, G, i, c, rfl, rfl, rfl⟩ := hrel
    cases gk with
    | zero =>
      have SH : shareP id 256 = 1 := c.share
      have ik := c.ik
      have FW := few_T c.pt (by omega)
      rw [if_neg (by omega)] at FW
      have J0 : Joining w.heap.size w _ ev 8 id G 0 u8 := ⟨by have := c.len; omega, by omega, c.pt, c.all, c.cov, c.row, c.bel⟩
      replace J0 := hide J0
      replace FW := hide FW
      clear c SH ik
      generalize hS : tx id ev = S at *
      replace hS := hide hS
      go_wp2_with fail
      refine (unhide FW _).mono ?_
      rintro o w3 ⟨rfl, b3⟩
      replace J0 := hide ((unhide J0).keep b3)
      clear b3
      go_wp2_with fail
      go_loopg [6, 8, 21] 8 (fun k x y u wr => ∃ (id : Tr Bool) (G : List (Tr Bool)) (i : Nat), Joining w.heap.size w wr ev k id G i y ∧ x = .string (tx id ev) ∧ u = .int .i64 (i : Int))
      case atStart => exact ⟨id, G, 0, unhide J0, by rw [unhide hS], rfl⟩
      case round =>
        clear J0 hS
        obtain ⟨id, G, i, c, rfl, rfl⟩ := hrel
        cases gk with
        | zero =>
          have hG : G = [] := List.length_eq_zero_iff.1 c.len
          subst hG
          have hid := c.cov.whole c.pt.pi
          subst hid
          have hb := hide c.bel
          have hF2 := unhide hF
          have hl : u8 = .slice none 0 0 ∨ ∃ g cap, u8 = .slice (some ⟨g, 0, none⟩) 0 cap := by
            rcases c.row.form with ⟨h, _⟩ | ⟨g, cap, h, _⟩
            · exact Or.inl h
            · exact Or.inr ⟨g, cap, h⟩
          rw [hF2]
          have eqF : (F.toList == F.toList) = true := by simp
          clear c hF2
          rcases hl with rfl | ⟨g, cap2, rfl⟩
          all_goals
            go_wp2_with fail
            go_ret
            exact ⟨rfl, unhide hb⟩
        | succ k =>
          have hlen := c.len
          have ik := c.ik
          have RW := c.row
          have hb := c.bel
          rcases RW.form with ⟨_, hnil⟩ | ⟨g, cap2, rfl, hBg, hgl, hle, hmx, hcells⟩
          · simp at hnil; subst hnil; simp at hlen
          have STEP : ∀ kq (hkq : kq < G.length), wr.cell? ⟨g, kq, none⟩ = some (Value.string (tx G[kq] ev)) ∧ True ∧
              (∀ w, Tab w → Calls Tryd.prog 13 #[.string (tx id ev), .string (tx G[kq] ev)] w fun o w' => o = .returned (.tuple #[.string (tx (orB id G[kq]) ev), .int .i64 0]) ∧ Below w.heap.size w w') ∧
              (∀ w, Tab w → Calls Tryd.prog 13 #[.string (tx G[kq] ev), .string (tx id ev)] w fun o w' => o = .returned (.tuple #[.string (tx (orB id G[kq]) ev), .int .i64 0]) ∧ Below w.heap.size w w') ∧
              (∀ w9 v9, w9.ownsRow w.heap.size 9 1 v9 (kq + (G.length - (kq + 1))) (((G.map (fun g => tx g ev)).map Value.string).take kq ++ ((G.map (fun g => tx g ev)).map Value.string).drop (kq + 1)) → Below w.heap.size w w9 →
                ∃ (id' : Tr Bool) (G' : List (Tr Bool)) (i' : Nat), Joining w.heap.size w w9 ev k id' G' i' v9 ∧ Value.string (tx (orB id G[kq]) ev) = .string (tx id' ev) ∧ Value.int .i64 ((i : Int) + 1) = .int .i64 (i' : Int)) := by
            intro kq hkq
            have PG := c.all G[kq] (List.getElem_mem hkq)
            have fr := c.cov.free kq hkq
            have fr2 : clash G[kq] id = false := by
              rw [clash_no] at fr ⊢
              intro p hp
              cases hv : id.val p with
              | false => rfl
              | true => rw [fr p hv] at hp; cases hp
            have J1 := join_T c.pt PG fr
            have J2 := join_T PG c.pt fr2
            rw [maxT_self c.pt.pe] at J1 J2
            rw [orB_comm] at J2
            refine ⟨by have := hcells kq (by simpa using hkq); simpa using this, trivial, J1, J2, fun w9 v9 ho hb9 => ?_⟩
            have PJ := c.pt.join PG
            rw [maxT_self c.pt.pe] at PJ
            refine ⟨orB id G[kq], G.take kq ++ G.drop (kq + 1), i + 1, ⟨by simp; omega, by omega, PJ, ?_, c.cov.join kq hkq, ?_, hb9⟩, rfl, by simp⟩
            · intro x hx
              rw [List.mem_append] at hx
              rcases hx with hx | hx
              · exact c.all x (List.mem_of_mem_take hx)
              · exact c.all x (List.mem_of_mem_drop hx)
            · unfold Row
              have e1 : ((G.take kq ++ G.drop (kq + 1)).map (fun g => tx g ev)).length = kq + (G.length - (kq + 1)) := by simp; omega
              rw [e1]
              simpa [List.map_take, List.map_drop] using ho
          have hl : (G.map (fun g => tx g ev)).length = k + 1 := by simp [hlen]
          rw [hl] at hle
          clear c
          replace STEP := hide STEP
          replace hb := hide hb
          replace RW := hide RW
          generalize hLG : G.map (fun g => tx g ev) = LG at *
          clear hLG hcells
          generalize tx id ev = S at *
          have ei : IntKind.i64.wrap ((i : Int) + 1) = (i : Int) + 1 := by rw [IntKind.wrap_i64]; omega
          have len0 : (0 : Int) < ((k + 1 : Nat) : Int) := by omega
          rw [hl]
          by_cases hw : i < l1.length
          · have hw2 : (i : Int) < (l1.length : Int) := by omega
            obtain ⟨p', cap', e', hc'⟩ := (unhide SL).at_
            obtain ⟨bl, off, hbl, hp', hcell⟩ := hc' (by omega)
            have hcell := hcell i hw
            simp only [Value.slice.injEq] at e'
            obtain ⟨e1, e2, e3⟩ := e'
            subst e3
            subst e1
            subst hp'
            have hcell5 : wr.cell? ⟨bl, off + i, none⟩ = some (.int .i64 (l1.getD i 0)) := ((unhide hb).cell (p := ⟨bl, off + i, none⟩) hbl).trans hcell
            clear hcell hc' e2
            obtain ⟨in1, in2⟩ := unhide IN i
            have PK : Calls Tryd.prog 16 #[.int .i64 (l1.getD i 0), .int .i64 ((k + 1 : Nat) : Int)] wr fun e w' => e = .returned (.int .i64 (pickP (l1.getD i 0) (k + 1) : Nat)) ∧ w' = wr := pick_any _ (k + 1) wr in1 in2 (by omega) (by omega)
            have pl := pickP_lt (l1.getD i 0) (k + 1) (by omega)
            generalize l1.getD i 0 = cc at *
            generalize pickP cc (k + 1) = kq at *
            replace PK := hide PK
            have hkq : kq < G.length := by omega
            have hq1 : kq < k + 1 := by omega
            have hq2 : (kq : Int) < (k : Int) + 1 := by omega
            have hq3 : (0 : Int) ≤ (kq : Int) := by omega
            have hq4 : (kq : Int) ≤ (cap2 : Int) := by omega
            have hq5 : (kq : Int) + 1 ≤ (k : Int) + 1 := by omega
            have hq6 : (k : Int) + 1 ≤ (cap2 : Int) := by omega
            have eq1 : IntKind.i64.wrap ((kq : Int) + 1) = (kq : Int) + 1 := by rw [IntKind.wrap_i64]; omega
            obtain ⟨C1, D1, J1, J2, FIN⟩ := unhide STEP kq hkq
            generalize tx G[kq] ev = Sk at *
            generalize tx (orB id G[kq]) ev = SJ at *
            replace J1 := hide J1
            replace J2 := hide J2
            replace FIN := hide FIN
            have eqJ : (SJ.toList == SJ.toList) = true := by simp
            go_wp2_with fail
            refine (unhide PK).mono ?_
            rintro o w6 ⟨rfl, hw6⟩
            rw [hw6]
            clear hw6 w6
            go_wp2_with fail
            refine (unhide J1 _ ((unhide T).below (unhide hb))).mono ?_
            rintro o w4 ⟨rfl, b4⟩
            replace C1 := cell_keep b4 C1
            replace RW := hide (Row.keep (L := LG) (unhide RW) b4)
            replace hb := hide (chain (unhide hb) (Nat.le_refl _) b4)
            clear b4
            go_wp2_with fail
            refine (unhide J2 _ ((unhide T).below (unhide hb))).mono ?_
            rintro o w5 ⟨rfl, b5⟩
            replace RW := hide (Row.keep (L := LG) (unhide RW) b5)
            replace hb := hide (chain (unhide hb) (Nat.le_refl _) b5)
            clear b5 C1
            have NW1 : ∀ j u, ((LG.map Value.string).take kq)[j]? = some u → w5.cell? ((⟨g, 0, none⟩ : Addr).add j) = some u := fun j u hj => World.ownsRow.cells (unhide RW) rfl j u (by rw [List.getElem?_take] at hj; split at hj; exact hj; cases hj)
            have NL1 : ((LG.map Value.string).take kq).length = kq * 1 := by simp; omega
            have NO : ∀ u ∈ LG.map Value.string, u.oneCell' = true := by intro u hu; rw [List.mem_map] at hu; obtain ⟨x, _, rfl⟩ := hu; rfl
            have szB := hide (unhide hb).size
            replace NW1 := hide NW1
            replace NL1 := hide NL1
            replace NO := hide NO
            by_cases hcap : cap2 = kq + 1
            · have hkk : k = kq := by omega
              subst hkk
              subst hcap
              have NL2 : ((LG.map Value.string).drop (k + 1)).length = 0 * 1 := by simp; omega
              have NWF : ∀ w7, w5.grownBy w7 none → ∀ j u, ((LG.map Value.string).drop (k + 1))[j]? = some u → w7.cell? ((⟨g, 0, none⟩ : Addr).add j) = some u := fun w7 _ j u hj => by
                have : (LG.map Value.string).drop (k + 1) = [] := List.drop_eq_nil_of_le (by simp; omega)
                rw [this] at hj; cases hj
              replace NL2 := hide NL2
              replace NWF := hide NWF
              go_wp2_with (first
                | (at_builtin; refine wpList_append_own _ rfl _ _ 45 rfl w.heap.size 9 i0 (.string { data := #[] }) 1 16 Tryd.underlying45 hi hz0 hz1 hz2 rfl (by decide) (.slice none 0 0) 0 [] rfl (World.ownsRow_nil _ _ _ _) ⟨g, 0, none⟩ k (k + 1) ((LG.map Value.string).take k) rfl (unhide NL1) (unhide NW1) (fun u hu => unhide NO u (List.mem_of_mem_take hu)) (by unfold maxLen; omega) (by omega) (unhide szB) ?_; intro v7 w7 hown7 hgrow7 hnil7; clear hnil7; replace hown7 := hide hown7; replace hgrow7 := hide hgrow7; have NW2 := hide (unhide NWF w7 (unhide hgrow7)); have szC := hide (Nat.le_trans (unhide szB) (unhide hgrow7).size))
                | (at_builtin; refine wpList_append_own _ rfl _ _ 45 rfl w.heap.size 9 i0 (.string { data := #[] }) 1 16 Tryd.underlying45 hi hz0 hz1 hz2 rfl (by decide) v7 _ _ rfl (unhide hown7) ⟨g, 0, none⟩ 0 0 ((LG.map Value.string).drop (k + 1)) rfl (unhide NL2) (unhide NW2) (fun u hu => unhide NO u (List.mem_of_mem_drop hu)) (by unfold maxLen; omega) (by omega) (unhide szC) ?_; intro v8 w8 hown8 hgrow8 hnil8; clear hnil8; replace hown8 := hide hown8; replace hgrow8 := hide hgrow8))
              go_roundg k
              case measure => omega
              case rel =>
                have o7 := World.ownsRow.lt (unhide hown7)
                have B7 : Below w.heap.size w w7 := (unhide hb).grown (unhide hgrow7) (unhide hb).size (fun k hk => by cases hk)
                have B8 : Below w.heap.size w w8 := B7.grown (unhide hgrow8) B7.size (fun k hk => (o7 k hk).1)
                have ho : w8.ownsRow w.heap.size 9 1 v8 (k + (G.length - (k + 1))) ((LG.map Value.string).take k ++ (LG.map Value.string).drop (k + 1)) := by
                  have h := unhide hown8
                  have e : 0 + k + 0 = k + (G.length - (k + 1)) := by omega
                  rw [e] at h
                  exact h
                obtain ⟨id', G', i', c', e1, e2⟩ := unhide FIN w8 v8 ho B8
                exact ⟨id', G', i', c', e1, e2⟩
            · have NL2 : ((LG.map Value.string).drop (kq + 1)).length = (k - kq) * 1 := by simp; omega
              have NWF : ∀ w7, w5.grownBy w7 none → ∀ j u, ((LG.map Value.string).drop (kq + 1))[j]? = some u → w7.cell? ((⟨g, kq + 1, none⟩ : Addr).add j) = some u := fun w7 hg j u hj => by
                rw [List.getElem?_drop] at hj
                have := World.ownsRow.cells (unhide RW) rfl (kq + 1 + j) u hj
                rw [Go.WideShapes.add_plain] at this ⊢
                rw [Nat.zero_add] at this
                exact hg.cell this (by simp)
              have hcap2 : ¬ cap2 - (kq + 1) = 0 := by omega
              have hcap3 : ¬ (cap2 : Int) = (kq : Int) + 1 := by omega
              replace NL2 := hide NL2
              replace NWF := hide NWF
              go_wp2_with (first
                | (at_builtin; refine wpList_append_own _ rfl _ _ 45 rfl w.heap.size 9 i0 (.string { data := #[] }) 1 16 Tryd.underlying45 hi hz0 hz1 hz2 rfl (by decide) (.slice none 0 0) 0 [] rfl (World.ownsRow_nil _ _ _ _) ⟨g, 0, none⟩ kq cap2 ((LG.map Value.string).take kq) rfl (unhide NL1) (unhide NW1) (fun u hu => unhide NO u (List.mem_of_mem_take hu)) (by unfold maxLen; omega) (by omega) (unhide szB) ?_; intro v7 w7 hown7 hgrow7 hnil7; clear hnil7; replace hown7 := hide hown7; replace hgrow7 := hide hgrow7; have NW2 := hide (unhide NWF w7 (unhide hgrow7)); have szC := hide (Nat.le_trans (unhide szB) (unhide hgrow7).size))
                | (at_builtin; refine wpList_append_own _ rfl _ _ 45 rfl w.heap.size 9 i0 (.string { data := #[] }) 1 16 Tryd.underlying45 hi hz0 hz1 hz2 rfl (by decide) v7 _ _ rfl (unhide hown7) ⟨g, kq + 1, none⟩ (k - kq) (cap2 - (kq + 1)) ((LG.map Value.string).drop (kq + 1)) rfl (unhide NL2) (unhide NW2) (fun u hu => unhide NO u (List.mem_of_mem_drop hu)) (by unfold maxLen; omega) (by omega) (unhide szC) ?_; intro v8 w8 hown8 hgrow8 hnil8; clear hnil8; replace hown8 := hide hown8; replace hgrow8 := hide hgrow8))
              go_roundg k
              case measure => omega
              case rel =>
                have o7 := World.ownsRow.lt (unhide hown7)
                have B7 : Below w.heap.size w w7 := (unhide hb).grown (unhide hgrow7) (unhide hb).size (fun k hk => by cases hk)
                have B8 : Below w.heap.size w w8 := B7.grown (unhide hgrow8) B7.size (fun k hk => (o7 k hk).1)
                have ho : w8.ownsRow w.heap.size 9 1 v8 (kq + (G.length - (kq + 1))) ((LG.map Value.string).take kq ++ (LG.map Value.string).drop (kq + 1)) := by
                  have h := unhide hown8
                  have e : 0 + kq + (k - kq) = kq + (G.length - (kq + 1)) := by omega
                  rw [e] at h
                  exact h
                obtain ⟨id', G', i', c', e1, e2⟩ := unhide FIN w8 v8 ho B8
                exact ⟨id', G', i', c', e1, e2⟩
          · have hw2 : ¬ (i : Int) < (l1.length : Int) := by omega
            obtain ⟨kq, hk0⟩ : ∃ kq : Nat, kq = 0 := ⟨0, rfl⟩
            have hkq : kq < G.length := by omega
            have hq1 : kq < k + 1 := by omega
            have hq2 : (kq : Int) < (k : Int) + 1 := by omega
            have hq3 : (0 : Int) ≤ (kq : Int) := by omega
            have hq4 : (kq : Int) ≤ (cap2 : Int) := by omega
            have hq5 : (kq : Int) + 1 ≤ (k : Int) + 1 := by omega
            have hq6 : (k : Int) + 1 ≤ (cap2 : Int) := by omega
            have eq1 : IntKind.i64.wrap ((kq : Int) + 1) = (kq : Int) + 1 := by rw [IntKind.wrap_i64]; omega
            obtain ⟨C1, D1, J1, J2, FIN⟩ := unhide STEP kq hkq
            generalize tx G[kq] ev = Sk at *
            generalize tx (orB id G[kq]) ev = SJ at *
            replace J1 := hide J1
            replace J2 := hide J2
            replace FIN := hide FIN
            have eqJ : (SJ.toList == SJ.toList) = true := by simp
            subst hk0
            go_wp2_with fail
            refine (unhide J1 _ ((unhide T).below (unhide hb))).mono ?_
            rintro o w4 ⟨rfl, b4⟩
            replace C1 := cell_keep b4 C1
            replace RW := hide (Row.keep (L := LG) (unhide RW) b4)
            replace hb := hide (chain (unhide hb) (Nat.le_refl _) b4)
            clear b4
            go_wp2_with fail
            refine (unhide J2 _ ((unhide T).below (unhide hb))).mono ?_
            rintro o w5 ⟨rfl, b5⟩
            replace RW := hide (Row.keep (L := LG) (unhide RW) b5)
            replace hb := hide (chain (unhide hb) (Nat.le_refl _) b5)
            clear b5 C1
            have NW1 : ∀ j u, ((LG.map Value.string).take 0)[j]? = some u → w5.cell? ((⟨g, 0, none⟩ : Addr).add j) = some u := fun j u hj => World.ownsRow.cells (unhide RW) rfl j u (by rw [List.getElem?_take] at hj; split at hj; exact hj; cases hj)
            have NL1 : ((LG.map Value.string).take 0).length = 0 * 1 := by simp
            have NO : ∀ u ∈ LG.map Value.string, u.oneCell' = true := by intro u hu; rw [List.mem_map] at hu; obtain ⟨x, _, rfl⟩ := hu; rfl
            have szB := hide (unhide hb).size
            replace NW1 := hide NW1
            replace NL1 := hide NL1
            replace NO := hide NO
            by_cases hcap : cap2 = 0 + 1
            · have hkk : k = 0 := by omega
              subst hkk
              subst hcap
              have NL2 : ((LG.map Value.string).drop (0 + 1)).length = 0 * 1 := by simp; omega
              have NWF : ∀ w7, w5.grownBy w7 none → ∀ j u, ((LG.map Value.string).drop (0 + 1))[j]? = some u → w7.cell? ((⟨g, 0, none⟩ : Addr).add j) = some u := fun w7 _ j u hj => by
                have : (LG.map Value.string).drop (0 + 1) = [] := List.drop_eq_nil_of_le (by simp; omega)
                rw [this] at hj; cases hj
              replace NL2 := hide NL2
              replace NWF := hide NWF
              go_wp2_with (first
                | (at_builtin; refine wpList_append_own _ rfl _ _ 45 rfl w.heap.size 9 i0 (.string { data := #[] }) 1 16 Tryd.underlying45 hi hz0 hz1 hz2 rfl (by decide) (.slice none 0 0) 0 [] rfl (World.ownsRow_nil _ _ _ _) ⟨g, 0, none⟩ 0 (0 + 1) ((LG.map Value.string).take 0) rfl (unhide NL1) (unhide NW1) (fun u hu => unhide NO u (List.mem_of_mem_take hu)) (by unfold maxLen; omega) (by omega) (unhide szB) ?_; intro v7 w7 hown7 hgrow7 hnil7; clear hnil7; replace hown7 := hide hown7; replace hgrow7 := hide hgrow7; have NW2 := hide (unhide NWF w7 (unhide hgrow7)); have szC := hide (Nat.le_trans (unhide szB) (unhide hgrow7).size))
                | (at_builtin; refine wpList_append_own _ rfl _ _ 45 rfl w.heap.size 9 i0 (.string { data := #[] }) 1 16 Tryd.underlying45 hi hz0 hz1 hz2 rfl (by decide) v7 _ _ rfl (unhide hown7) ⟨g, 0, none⟩ 0 0 ((LG.map Value.string).drop (0 + 1)) rfl (unhide NL2) (unhide NW2) (fun u hu => unhide NO u (List.mem_of_mem_drop hu)) (by unfold maxLen; omega) (by omega) (unhide szC) ?_; intro v8 w8 hown8 hgrow8 hnil8; clear hnil8; replace hown8 := hide hown8; replace hgrow8 := hide hgrow8))
              go_roundg 0
              case measure => omega
              case rel =>
                have o7 := World.ownsRow.lt (unhide hown7)
                have B7 : Below w.heap.size w w7 := (unhide hb).grown (unhide hgrow7) (unhide hb).size (fun k hk => by cases hk)
                have B8 : Below w.heap.size w w8 := B7.grown (unhide hgrow8) B7.size (fun k hk => (o7 k hk).1)
                have ho : w8.ownsRow w.heap.size 9 1 v8 (0 + (G.length - (0 + 1))) ((LG.map Value.string).take 0 ++ (LG.map Value.string).drop (0 + 1)) := by
                  have h := unhide hown8
                  have e : 0 + 0 + 0 = 0 + (G.length - (0 + 1)) := by omega
                  rw [e] at h
                  exact h
                obtain ⟨id', G', i', c', e1, e2⟩ := unhide FIN w8 v8 ho B8
                exact ⟨id', G', i', c', e1, e2⟩
            · have NL2 : ((LG.map Value.string).drop (0 + 1)).length = (k - 0) * 1 := by simp; omega
              have NWF : ∀ w7, w5.grownBy w7 none → ∀ j u, ((LG.map Value.string).drop (0 + 1))[j]? = some u → w7.cell? ((⟨g, 0 + 1, none⟩ : Addr).add j) = some u := fun w7 hg j u hj => by
                rw [List.getElem?_drop] at hj
                have := World.ownsRow.cells (unhide RW) rfl (0 + 1 + j) u hj
                rw [Go.WideShapes.add_plain] at this ⊢
                rw [Nat.zero_add] at this
                exact hg.cell this (by simp)
              have hcap2 : ¬ cap2 - (0 + 1) = 0 := by omega
              have hcap3 : ¬ (cap2 : Int) = (0 : Int) + 1 := by omega
              replace NL2 := hide NL2
              replace NWF := hide NWF
              go_wp2_with (first
                | (at_builtin; refine wpList_append_own _ rfl _ _ 45 rfl w.heap.size 9 i0 (.string { data := #[] }) 1 16 Tryd.underlying45 hi hz0 hz1 hz2 rfl (by decide) (.slice none 0 0) 0 [] rfl (World.ownsRow_nil _ _ _ _) ⟨g, 0, none⟩ 0 cap2 ((LG.map Value.string).take 0) rfl (unhide NL1) (unhide NW1) (fun u hu => unhide NO u (List.mem_of_mem_take hu)) (by unfold maxLen; omega) (by omega) (unhide szB) ?_; intro v7 w7 hown7 hgrow7 hnil7; clear hnil7; replace hown7 := hide hown7; replace hgrow7 := hide hgrow7; have NW2 := hide (unhide NWF w7 (unhide hgrow7)); have szC := hide (Nat.le_trans (unhide szB) (unhide hgrow7).size))
                | (at_builtin; refine wpList_append_own _ rfl _ _ 45 rfl w.heap.size 9 i0 (.string { data := #[] }) 1 16 Tryd.underlying45 hi hz0 hz1 hz2 rfl (by decide) v7 _ _ rfl (unhide hown7) ⟨g, 0 + 1, none⟩ (k - 0) (cap2 - (0 + 1)) ((LG.map Value.string).drop (0 + 1)) rfl (unhide NL2) (unhide NW2) (fun u hu => unhide NO u (List.mem_of_mem_drop hu)) (by unfold maxLen; omega) (by omega) (unhide szC) ?_; intro v8 w8 hown8 hgrow8 hnil8; clear hnil8; replace hown8 := hide hown8; replace hgrow8 := hide hgrow8))
              go_roundg k
              case measure => omega
              case rel =>
                have o7 := World.ownsRow.lt (unhide hown7)
                have B7 : Below w.heap.size w w7 := (unhide hb).grown (unhide hgrow7) (unhide hb).size (fun k hk => by cases hk)
                have B8 : Below w.heap.size w w8 := B7.grown (unhide hgrow8) B7.size (fun k hk => (o7 k hk).1)
                have ho : w8.ownsRow w.heap.size 9 1 v8 (0 + (G.length - (0 + 1))) ((LG.map Value.string).take 0 ++ (LG.map Value.string).drop (0 + 1)) := by
                  have h := unhide hown8
                  have e : 0 + 0 + (k - 0) = 0 + (G.length - (0 + 1)) := by omega
                  rw [e] at h
                  exact h
                obtain ⟨id', G', i', c', e1, e2⟩ := unhide FIN w8 v8 ho B8
                exact ⟨id', G', i', c', e1, e2⟩
    | succ k =>
      have SH := c.share
      have hk8 := c.ik
      obtain ⟨PA, PB, CI⟩ := c.pt.cut (by rw [SH, pow_two_pos]; have : 1 ≤ 2 ^ k := Nat.one_le_two_pow; omega)
      obtain ⟨c1, c2, d1, d2⟩ := chain_cut id c.ch
      have FK := fork_T c.pt (by rw [SH, pow_two_pos]; have : 1 ≤ 2 ^ k := Nat.one_le_two_pow; omega)
      have dp := c.dp
      have SA := share_T PA
      have SB := share_T PB
      rw [show shareP (cutP id).1 256 = 2 ^ k by have := chain_share (cutP id).1 8 c1 (by omega); rw [d1, dp, show 8 - (i + 1) = k by omega] at this; exact this] at SA
      rw [show shareP (cutP id).2 256 = 2 ^ k by have := chain_share (cutP id).2 8 c2 (by omega); rw [d2, dp, show 8 - (i + 1) = k by omega] at this; exact this] at SB
      obtain ⟨cv1, cv2⟩ := c.cov.cut CI
      have FIN1 : ∀ w9 v9, w9.ownsRow w.heap.size 9 1 v9 ((G.map (fun g => tx g ev)).length + 1) ((G.map (fun g => tx g ev)).map .string ++ [.string (tx (cutP id).2 ev)]) → Below w.heap.size w w9 → ∃ (id' : Tr Bool) (G' : List (Tr Bool)) (i' : Nat), Cutting w.heap.size w w9 ev k id' G' i' v9 ∧ Value.string (tx (cutP id).1 ev) = .string (tx id' ev) ∧ Value.int .i64 ((i : Int) + 1) = .int .i64 (i' : Int) := fun w9 v9 ho hb => by
        refine ⟨(cutP id).1, G ++ [(cutP id).2], i + 1, ⟨by omega, by simp [c.len], c1, by omega, PA, ?_, cv1, ?_, hb⟩, rfl, by simp⟩
        · intro g hg
          rw [List.mem_append, List.mem_singleton] at hg
          rcases hg with hg | rfl
          · exact c.all g hg
          · exact PB
        · unfold Row; simpa using ho
      have FIN2 : ∀ w9 v9, w9.ownsRow w.heap.size 9 1 v9 ((G.map (fun g => tx g ev)).length + 1) ((G.map (fun g => tx g ev)).map .string ++ [.string (tx (cutP id).1 ev)]) → Below w.heap.size w w9 → ∃ (id' : Tr Bool) (G' : List (Tr Bool)) (i' : Nat), Cutting w.heap.size w w9 ev k id' G' i' v9 ∧ Value.string (tx (cutP id).2 ev) = .string (tx id' ev) ∧ Value.int .i64 ((i : Int) + 1) = .int .i64 (i' : Int) := fun w9 v9 ho hb => by
        refine ⟨(cutP id).2, G ++ [(cutP id).1], i + 1, ⟨by omega, by simp [c.len], c2, by omega, PB, ?_, cv2, ?_, hb⟩, rfl, by simp⟩
        · intro g hg
          rw [List.mem_append, List.mem_singleton] at hg
          rcases hg with hg | rfl
          · exact c.all g hg
          · exact PA
        · unfold Row; simpa using ho
      have RW := c.row
      have hb := c.bel
      have hl : (G.map (fun g => tx g ev)).length = i := by simp [c.len]
      have hH : 1 ≤ 2 ^ k := Nat.one_le_two_pow
      have hH2 : 2 ^ k ≤ 128 := by
        have : k ≤ 7 := by omega
        calc 2 ^ k ≤ 2 ^ 7 := Nat.pow_le_pow_right (by omega) this
          _ = 128 := rfl
      have hN := pow_two_pos k
      clear c SH PA PB CI c1 c2 d1 d2 dp cv1 cv2
      unfold Row at RW
      generalize hLG : G.map (fun g => tx g ev) = LG at *
      clear hLG
      generalize tx (cutP id).1 ev = Sa at *
      generalize tx (cutP id).2 ev = Sb at *
      generalize tx id ev = S at *
      generalize hNN : 2 ^ (k + 1) = N at *
      generalize hHH : 2 ^ k = H at *
      replace hNN := hide hNN
      replace hHH := hide hHH
      have n1 : (1 : Int) < (N : Int) := by omega
      have eq : IntKind.i64.wrap ((N : Int).tdiv 2) = (H : Int) := by rw [IntKind.wrap_i64, Int.tdiv_eq_ediv_of_nonneg (by omega)]; omega
      have eq2 : IntKind.i64.wrap ((N : Int) / 2) = (H : Int) := by rw [IntKind.wrap_i64]; omega
      have eq3 : (N : Int).tdiv 2 = (H : Int) := by rw [Int.tdiv_eq_ediv_of_nonneg (by omega)]; omega
      have eq4 : (N : Int) / 2 = (H : Int) := by omega
      have ei : IntKind.i64.wrap ((i : Int) + 1) = (i : Int) + 1 := by rw [IntKind.wrap_i64]; omega
      replace FK := hide FK
      replace SA := hide SA
      replace SB := hide SB
      replace FIN1 := hide FIN1
      replace FIN2 := hide FIN2
      replace RW := hide RW
      replace hb := hide hb
      clear hN
      go_wp2_with fail
      refine (unhide FK _ ((unhide T).below (unhide hb))).mono ?_
      rintro o w3 ⟨rfl, b3⟩
      replace RW := hide (Row.keep (L := LG) (unhide RW) b3)
      replace hb := hide (chain (unhide hb) (Nat.le_refl _) b3)
      clear b3
      go_wp2_with fail
      refine (unhide SA _).mono ?_
      rintro o w4 ⟨rfl, b4⟩
      replace RW := hide (Row.keep (L := LG) (unhide RW) b4)
      replace hb := hide (chain (unhide hb) (Nat.le_refl _) b4)
      clear b4
      go_wp2_with fail
      refine (unhide SB _).mono ?_
      rintro o w5 ⟨rfl, b5⟩
      replace RW := hide (Row.keep (L := LG) (unhide RW) b5)
      replace hb := hide (chain (unhide hb) (Nat.le_refl _) b5)
      clear b5
      by_cases hw : i < l1.length
      · have hw2 : (i : Int) < (l1.length : Int) := by omega
        obtain ⟨p', cap', e', hc'⟩ := (unhide SL).at_
        obtain ⟨bl, off, hbl, hp', hcell⟩ := hc' (by omega)
        have hcell := hcell i hw
        simp only [Value.slice.injEq] at e'
        obtain ⟨e1, e2, e3⟩ := e'
        subst e3
        subst e1
        subst hp'
        have hcell5 : w5.cell? ⟨bl, off + i, none⟩ = some (.int .i64 (l1.getD i 0)) := ((unhide hb).cell (p := ⟨bl, off + i, none⟩) hbl).trans hcell
        clear hcell hc' e2
        obtain ⟨in1, in2⟩ := unhide IN i
        have PK : Calls Tryd.prog 16 #[.int .i64 (l1.getD i 0), .int .i64 2] w5 fun e w' => e = .returned (.int .i64 (pickP (l1.getD i 0) 2 : Nat)) ∧ w' = w5 := pick_any _ 2 w5 in1 in2 (by omega) (by omega)
        have pl := pickP_lt (l1.getD i 0) 2 (by omega)
        generalize l1.getD i 0 = cc at *
        generalize pickP cc 2 = pk at *
        replace PK := hide PK
        go_wp2_with fail
        refine (unhide PK).mono ?_
        rintro o w6 ⟨rfl, hw6⟩
        rw [hw6]
        clear hw6 w6
        by_cases hp1 : pk = 1
        · have hp2 : ((pk : Int) == 1) = true := beq_iff_eq.2 (by omega)
          have WN : ∀ j u, [Value.string Sa][j]? = some u → (w5.alloc (.cells #[.string Sa] 9)).cell? ((⟨w5.heap.size, 0, none⟩ : Addr).add j) = some u := World.news_of_block (heap_new w5 _)
          replace WN := hide WN
          go_wp2_with (at_builtin; refine wpList_append_own _ rfl _ _ 45 rfl w.heap.size 9 i0 (.string { data := #[] }) 1 16 Tryd.underlying45 hi hz0 hz1 hz2 rfl (by decide) u8 _ _ rfl ((unhide RW).alloc _) ⟨w5.heap.size, 0, none⟩ 1 1 [.string Sa] rfl rfl (unhide WN) (by intro u hu; simp at hu; subst hu; rfl) (by unfold maxLen; omega) (by omega) (by have := (unhide hb).size; simp; omega) ?_; intro v9 w9 hown9 hgrow9 hnil9; clear hnil9; replace hown9 := hide hown9; replace hgrow9 := hide hgrow9)
          go_roundg k
          case measure => omega
          case rel =>
            have RR : Row w.heap.size (w5.alloc (.cells #[.string Sa] 9)) u8 LG := (unhide RW).alloc _
            have B9 : Below w.heap.size w w9 := (chain (unhide hb) (Nat.le_refl _) (below_alloc _ _)).trans (RR.below_own (by have := (unhide hb).size; simp; omega) (unhide hgrow9))
            obtain ⟨id', G', i', c', e1, e2⟩ := unhide FIN2 w9 v9 (unhide hown9) B9; exact ⟨id', G', i', c', e1, by rw [unhide hHH], e2⟩
        · have hp2 : ((pk : Int) == 1) = false := beq_eq_false_iff_ne.2 (by omega)
          have WN : ∀ j u, [Value.string Sb][j]? = some u → (w5.alloc (.cells #[.string Sb] 9)).cell? ((⟨w5.heap.size, 0, none⟩ : Addr).add j) = some u := World.news_of_block (heap_new w5 _)
          replace WN := hide WN
          go_wp2_with (at_builtin; refine wpList_append_own _ rfl _ _ 45 rfl w.heap.size 9 i0 (.string { data := #[] }) 1 16 Tryd.underlying45 hi hz0 hz1 hz2 rfl (by decide) u8 _ _ rfl ((unhide RW).alloc _) ⟨w5.heap.size, 0, none⟩ 1 1 [.string Sb] rfl rfl (unhide WN) (by intro u hu; simp at hu; subst hu; rfl) (by unfold maxLen; omega) (by omega) (by have := (unhide hb).size; simp; omega) ?_; intro v9 w9 hown9 hgrow9 hnil9; clear hnil9; replace hown9 := hide hown9; replace hgrow9 := hide hgrow9)
          go_roundg k
          case measure => omega
          case rel =>
            have RR : Row w.heap.size (w5.alloc (.cells #[.string Sb] 9)) u8 LG := (unhide RW).alloc _
            have B9 : Below w.heap.size w w9 := (chain (unhide hb) (Nat.le_refl _) (below_alloc _ _)).trans (RR.below_own (by have := (unhide hb).size; simp; omega) (unhide hgrow9))
            obtain ⟨id', G', i', c', e1, e2⟩ := unhide FIN1 w9 v9 (unhide hown9) B9; exact ⟨id', G', i', c', e1, by rw [unhide hHH], e2⟩
      · have hw2 : ¬ (i : Int) < (l1.length : Int) := by omega
        have WN : ∀ j u, [Value.string Sb][j]? = some u → (w5.alloc (.cells #[.string Sb] 9)).cell? ((⟨w5.heap.size, 0, none⟩ : Addr).add j) = some u := World.news_of_block (heap_new w5 _)
        replace WN := hide WN
        go_wp2_with (at_builtin; refine wpList_append_own _ rfl _ _ 45 rfl w.heap.size 9 i0 (.string { data := #[] }) 1 16 Tryd.underlying45 hi hz0 hz1 hz2 rfl (by decide) u8 _ _ rfl ((unhide RW).alloc _) ⟨w5.heap.size, 0, none⟩ 1 1 [.string Sb] rfl rfl (unhide WN) (by intro u hu; simp at hu; subst hu; rfl) (by unfold maxLen; omega) (by omega) (by have := (unhide hb).size; simp; omega) ?_; intro v9 w9 hown9 hgrow9 hnil9; clear hnil9; replace hown9 := hide hown9; replace hgrow9 := hide hgrow9)
        go_roundg k
        case measure => omega
        case rel =>
          have RR : Row w.heap.size (w5.alloc (.cells #[.string Sb] 9)) u8 LG := (unhide RW).alloc _
          have B9 : Below w.heap.size w w9 := (chain (unhide hb) (Nat.le_refl _) (below_alloc _ _)).trans (RR.below_own (by have := (unhide hb).size; simp; omega) (unhide hgrow9))
          obtain ⟨id', G', i', c', e1, e2⟩ := unhide FIN1 w9 v9 (unhide hown9) B9; exact ⟨id', G', i', c', e1, by rw [unhide hHH], e2⟩

end Go.Proofs.YtoebmfhgaalcdaaDoor
