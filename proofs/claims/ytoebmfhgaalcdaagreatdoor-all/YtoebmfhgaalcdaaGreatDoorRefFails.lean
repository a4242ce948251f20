/-
  Our own. sprigsref.Fails.
-/
import Derived.Test.YtoebmfhgaalcdaaGreatDoorRefQAll
namespace Go.Proofs.YtoebmfhgaalcdaaGreatDoor
open Go.RowKit

/-- The symbols that come up. -/
def okSy (L : List (Nat × Nat)) : Prop := ∀ p ∈ L, (p.1 = 105 ∨ p.1 = 101 ∨ p.1 = 110 ∨ p.1 = 44 ∨ p.1 = 59 ∨ p.1 = 41) ∧ p.2 ≤ 8

theorem Sy.start (w : World) : Sy (w.alloc (.cells #[.int .u8 105, .int .i64 0, .int .u8 59, .int .i64 0, .int .u8 101, .int .i64 0] 162)) (.slice (some ⟨w.heap.size, 0, none⟩) 3 3) [(105, 0), (59, 0), (101, 0)] := by
  refine ⟨w.heap.size, 0, 3, rfl, Nat.le_refl _, fun j u hj => ?_⟩
  simp only [World.cell?, heap_new, Nat.zero_add]
  simpa [flatS] using hj

theorem Sy.tail {w : World} {g off cap x d : Nat} {M : List (Nat × Nat)} (hcap : M.length + 1 ≤ cap) (hc : ∀ (j : Nat) (u : Value), (flatS ((x, d) :: M))[j]? = some u → w.cell? ⟨g, off + j, none⟩ = some u) {wx : World} (hb : Below w.heap.size w wx) :
    Sy wx (if cap = 1 then .slice (some ⟨g, off, none⟩) M.length 0 else .slice (some ⟨g, off + 2, none⟩) M.length (cap - 1)) M := by
  by_cases h : cap = 1
  · rw [if_pos h]
    have hM : M = [] := List.eq_nil_of_length_eq_zero (by omega)
    subst hM
    exact ⟨g, off, 0, rfl, Nat.le_refl _, fun j u hj => by simp [flatS] at hj⟩
  · rw [if_neg h]
    refine ⟨g, off + 2, cap - 1, rfl, by omega, fun j u hj => ?_⟩
    have := hc (j + 2) u (by simpa [flatS] using hj)
    rw [show off + 2 + j = off + (j + 2) by omega]
    exact cell_later hb this

def sym4 (d : Nat) : Array Value := #[.int .u8 105, .int .i64 ((d + 1 : Nat) : Int), .int .u8 44, .int .i64 0, .int .u8 105, .int .i64 ((d + 1 : Nat) : Int), .int .u8 41, .int .i64 0]
def sym6 (d : Nat) : Array Value := #[.int .u8 110, .int .i64 0, .int .u8 44, .int .i64 0, .int .u8 101, .int .i64 ((d + 1 : Nat) : Int), .int .u8 44, .int .i64 0, .int .u8 101, .int .i64 ((d + 1 : Nat) : Int), .int .u8 41, .int .i64 0]
theorem Sy.four (w : World) (d : Nat) : Sy (w.alloc (.cells (sym4 d) 162)) (.slice (some ⟨w.heap.size, 0, none⟩) 4 4) [(105, d + 1), (44, 0), (105, d + 1), (41, 0)] := by
  refine ⟨w.heap.size, 0, 4, rfl, Nat.le_refl _, fun j u hj => ?_⟩
  simp only [World.cell?, heap_new, Nat.zero_add]
  simpa [flatS, sym4] using hj
theorem Sy.six (w : World) (d : Nat) : Sy (w.alloc (.cells (sym6 d) 162)) (.slice (some ⟨w.heap.size, 0, none⟩) 6 6) [(110, 0), (44, 0), (101, d + 1), (44, 0), (101, d + 1), (41, 0)] := by
  refine ⟨w.heap.size, 0, 6, rfl, Nat.le_refl _, fun j u hj => ?_⟩
  simp only [World.cell?, heap_new, Nat.zero_add]
  simpa [flatS, sym6] using hj
theorem okSy_four {M : List (Nat × Nat)} {d : Nat} (h : okSy M) (hd : d < 8) : okSy ([(105, d + 1), (44, 0), (105, d + 1), (41, 0)] ++ M) := by
  intro p hp
  simp only [List.cons_append, List.nil_append, List.mem_cons] at hp
  rcases hp with rfl | rfl | rfl | rfl | hp
  · simp; omega
  · simp
  · simp; omega
  · simp
  · exact h p hp
theorem okSy_six {M : List (Nat × Nat)} {d : Nat} (h : okSy M) (hd : d < 8) : okSy ([(110, 0), (44, 0), (101, d + 1), (44, 0), (101, d + 1), (41, 0)] ++ M) := by
  intro p hp
  simp only [List.cons_append, List.nil_append, List.mem_cons] at hp
  rcases hp with rfl | rfl | rfl | rfl | rfl | rfl | hp
  · simp
  · simp
  · simp; omega
  · simp
  · simp; omega
  · simp
  · exact h p hp
theorem numF_le {s : ByteArray} {i n j : Nat} (hi : i ≤ s.size) (h : numF s i = .ok n j) : i < j ∧ j ≤ s.size := by
  have e : numR s i = .ok n j := by
    cases f : numR s i using Nm.cs with
    | bad k => rw [(numF_numR s i).1 k f] at h; exact (Nm.bad_ok h).elim
    | ok m k =>
      cases hd : isDig (nx s k)
      · rw [((numF_numR s i).2 m k f).1 hd] at h; rw [h]
      · rw [((numF_numR s i).2 m k f).2 hd] at h; exact (Nm.bad_ok h).elim
  exact ⟨numR_lt e, (numR_ok hi e).2.2⟩

/-- What lies at the bottom. -/
def lastOk (L : List (Nat × Nat)) : Prop := ∀ p, L.getLast? = some p → p = (101, 0) ∨ p = (41, 0)
theorem lastOk_start : lastOk [(105, 0), (59, 0), (101, 0)] := fun p hp => by
  left; simpa using hp.symm
theorem lastOk_tail {q : Nat × Nat} {M : List (Nat × Nat)} (h : lastOk (q :: M)) : lastOk M := by
  intro p hp
  apply h
  cases M with
  | nil => cases hp
  | cons a M => rw [List.getLast?_cons_cons]; exact hp
theorem lastOk_app {K M : List (Nat × Nat)} (h : lastOk M) (hK : K.getLast? = some (41, 0)) : lastOk (K ++ M) := by
  intro p hp
  cases M with
  | nil =>
    rw [List.append_nil, hK] at hp
    injection hp with hp
    exact Or.inr hp.symm
  | cons a M =>
    apply h
    rw [List.getLast?_append] at hp
    cases hq : (a :: M).getLast? with
    | none => simp at hq
    | some q => rw [hq] at hp; exact hp

set_option maxRecDepth 100000 in
set_option maxHeartbeats 16000000 in
theorem fails_any (s : ByteArray) (w : World) (hs : s.size ≤ 20000) :
    Calls Tryz.prog 76 #[.string s] w fun e w' => e = .returned (.int .i64 (plV (failsR s))) ∧ Below w.heap.size w w' := by
  have S0 := Sy.start w
  generalize hF : failsR s = F
  have HF := hide hF
  clear hF
  go_enter Tryz.func76, Tryz.ntmps76
  go_wp2_with fail
  go_loopg [3, 4] (s.size + 1) (fun k v x wr => ∃ (L : List (Nat × Nat)) (i : Nat), k + i = s.size + 1 ∧ i ≤ s.size ∧ x = .int .i64 (i : Nat) ∧ Sy wr v L ∧ okSy L ∧ lastOk L ∧ L.length ≤ 3 + 5 * i ∧ Below w.heap.size w wr ∧ Hid (F = den s L i))
  case atStart =>
    refine ⟨_, 0, rfl, by omega, rfl, S0, ?_, lastOk_start, by simp, (Below.refl _ _).alloc (Nat.le_refl _) _, (unhide HF).symm⟩
    intro p hp
    simp only [List.mem_cons, List.not_mem_nil, or_false] at hp
    rcases hp with rfl | rfl | rfl <;> simp
  case round =>
    obtain ⟨L, i, hk, hi, rfl, hsy, hok, hlast, hlen, hb, HD⟩ := hrel
    have HK := hide hk
    clear hk S0
    cases L with
    | nil =>
      obtain ⟨g, off, cap, rfl, hcap, hcells⟩ := hsy
      clear hcells hok hcap hlen hlast
      simp only [List.length_nil]
      by_cases hlt : i < s.size
      · have E : Hid (F = some i) := by
          have := HD.out; rw [den, if_pos hlt] at this; exact this
        have hlt2 : (i : Int) < (s.size : Int) := by omega
        go_wp2_with fail
        go_ret
        rw [unhide E]
        exact ⟨rfl, hb⟩
      · have E : Hid (F = none) := by
          have := HD.out; rw [den, if_neg hlt] at this; exact this
        have hlt2 : ¬ (i : Int) < (s.size : Int) := by omega
        go_wp2_with fail
        go_ret
        rw [unhide E]
        exact ⟨rfl, hb⟩
    | cons p M =>
      obtain ⟨x, d⟩ := p
      obtain ⟨hx, hd⟩ := hok (x, d) (by simp)
      have hokM : okSy M := fun p hp => hok p (by simp [hp])
      obtain ⟨g, off, cap, rfl, hcap, hcells⟩ := hsy
      have cx := hcells 0 _ rfl
      have cd := hcells 1 _ rfl
      simp only [Nat.add_zero] at cx
      simp only [List.length_cons] at hcap hlen ⊢
      simp only at hx hd
      have HC := hide hcells
      clear hcells hok
      have B0 := Below.refl wr.heap.size wr
      have hc1 : cap = 1 ∨ ¬ cap = 1 := by omega
      rcases hc1 with rfl | hc1
      · obtain rfl : M = [] := List.eq_nil_of_length_eq_zero (by omega)
        have hl2 := hlast (x, d) rfl
        have T : Hid (∀ wx, Below wr.heap.size wr wx → Sy wx (.slice (some ⟨g, off, none⟩) 0 0) []) := fun wx _ => ⟨g, off, 0, rfl, Nat.le_refl _, fun j u hj => by simp [flatS] at hj⟩
        have hM0 : lastOk [] := fun p hp => (by cases hp)
        simp only [List.length_nil] at hcap hlen ⊢
        clear HC hcap hlast
        by_cases hend : i = s.size
        · have D2 : Hid (F = some i) := by
            show F = _
            rw [HD.out]; exact den_end x (by omega) (by omega)
          have heq : ((i : Int) == (s.size : Int)) = true := beq_iff_eq.2 (by omega)
          clear HD hend hx
          go_wp2_with fail
          go_ret
          rw [unhide D2]
          exact ⟨rfl, hb.alloc hb.size _⟩
        · have hlt : i < s.size := by omega
          have hne : ((i : Int) == (s.size : Int)) = false := beq_eq_false_iff_ne.2 (by omega)
          have en := nx_in s i hlt
          clear hend hx
          rcases hl2 with hl2 | hl2
          all_goals
            simp only [Prod.mk.injEq] at hl2
            obtain ⟨rfl, hl3⟩ := hl2
            clear hl3
          · by_cases c3 : nx s i = 40
            · by_cases c4 : d < 8
              · have k40 : ((s[i].toNat : Int) == 40) = true := beq_iff_eq.2 (by omega)
                have d8 : (d : Int) < 8 := by omega
                have D2 : Hid (F = den s ([(110, 0), (44, 0), (101, d + 1), (44, 0), (101, d + 1), (41, 0)] ++ []) (i + 1)) := by
                  show F = _
                  rw [HD.out]; exact den_ev_open c3 c4
                clear en HD
                have Y2 := Sy.six (wr.alloc (.cells #[.int .u8 101, .int .i64 (d : Nat)] 162)) d
                have zz : (wr.alloc (.cells #[.int .u8 101, .int .i64 (d : Nat)] 162)).heap.size = wr.heap.size + 1 := by simp
                rw [zz] at Y2
                clear zz
                have B2 := (B0.alloc (Nat.le_refl _) (.cells #[.int .u8 101, .int .i64 (d : Nat)] 162)).alloc (by simp) (.cells (sym6 d) 162)
                have PU := hide (push_any _ _ [] [(110, 0), (44, 0), (101, d + 1), (44, 0), (101, d + 1), (41, 0)] _ (unhide T _ B2) Y2 (by simp) (by simp) (by simp))
                clear Y2
                go_wp2_with fail
                refine (unhide PU).mono ?_
                rintro e w3 ⟨v3, rfl, y3, b3⟩
                have b4 := B2.trans (b3.mono (by simp; omega))
                go_wp2_with fail
                go_roundg (gk - 1)
                case measure => have := unhide HK; omega
                case rel =>
                  have := unhide HK
                  exact ⟨_, i + 1, by omega, by omega, by go_num, y3, okSy_six hokM (by omega), lastOk_app hM0 rfl, (by simp <;> omega), hb.trans (b4.mono hb.size), unhide D2⟩
              · have k40 : ((s[i].toNat : Int) == 40) = true := beq_iff_eq.2 (by omega)
                have n40 : ((s[i].toNat : Int) != 40) = false := by rw [bne_eq_false_iff_eq]; omega
                have k101 : ((s[i].toNat : Int) == 101) = false := beq_eq_false_iff_ne.2 (by omega)
                have d8 : ¬ (d : Int) < 8 := by omega
                have D2 : Hid (F = some i) := by
                  show F = _
                  rw [HD.out]; exact den_ev_deep c3 (by omega)
                clear en HD
                go_wp2_with fail
                go_ret
                rw [unhide D2]
                exact ⟨rfl, hb.alloc hb.size _⟩
            · have k40 : ((s[i].toNat : Int) == 40) = false := beq_eq_false_iff_ne.2 (by omega)
              have n40 : ((s[i].toNat : Int) != 40) = true := by rw [bne_iff_ne]; omega
              have NM := hide (fun w1 => number_any s i w1 hs)
              cases f : numF s i using Nm.cs with
              | bad j =>
                have D2 : Hid (F = some j) := by
                  show F = _
                  rw [HD.out]; exact den_ev_bad c3 f
                rw [f] at NM
                clear en HD f
                go_wp2_with fail
                refine (unhide NM _).mono ?_
                rintro e w3 ⟨rfl, rfl⟩
                simp only [numRes]
                have j0 : ¬ (j : Int) < 0 := by omega
                go_wp2_with fail
                go_ret
                rw [unhide D2]
                exact ⟨rfl, hb.alloc hb.size _⟩
              | ok n j =>
                have D2 : Hid (F = den s [] j) := by
                  show F = _
                  rw [HD.out]; exact den_ev_ok c3 f
                have lj := numF_le hi f
                rw [f] at NM
                clear en HD f
                go_wp2_with fail
                refine (unhide NM _).mono ?_
                rintro e w3 ⟨rfl, rfl⟩
                simp only [numRes]
                go_wp2_with fail
                go_roundg (gk - (j - i))
                case measure => have := unhide HK; omega
                case rel =>
                  have := unhide HK
                  exact ⟨[], j, by omega, by omega, rfl, unhide T _ (B0.alloc (Nat.le_refl _) _), hokM, hM0, by simp, hb.alloc hb.size _, unhide D2⟩
          · by_cases c1 : nx s i = 41
            · have k41 : ((s[i].toNat : Int) == 41) = true := beq_iff_eq.2 (by omega)
              have D2 : Hid (F = den s [] (i + 1)) := by
                show F = _
                rw [HD.out]; exact den_lit_ok 41 (by omega) c1
              clear en HD
              go_wp2_with fail
              go_roundg (gk - 1)
              case measure => have := unhide HK; omega
              case rel =>
                have := unhide HK
                exact ⟨[], i + 1, by omega, by omega, by go_num, unhide T _ (B0.alloc (Nat.le_refl _) _), hokM, hM0, by simp, hb.alloc hb.size _, unhide D2⟩
            · have k41 : ((s[i].toNat : Int) == 41) = false := beq_eq_false_iff_ne.2 (by omega)
              have D2 : Hid (F = some i) := by
                show F = _
                rw [HD.out]; exact den_lit_bad 41 (by omega) c1
              clear en HD
              go_wp2_with fail
              go_ret
              rw [unhide D2]
              exact ⟨rfl, hb.alloc hb.size _⟩

      · have T : Hid (∀ wx, Below wr.heap.size wr wx → Sy wx (.slice (some ⟨g, off + 2, none⟩) M.length (cap - 1)) M) := fun wx hbx => by
          have := Sy.tail hcap (unhide HC) (wx := wx) hbx
          rw [if_neg hc1] at this
          exact this
        have hM0 : lastOk M := lastOk_tail hlast
        clear HC hlast
        by_cases hend : i = s.size
        · have D2 : Hid (F = some i) := by
            show F = _
            rw [HD.out]; exact den_end x (by omega) (by omega)
          have heq : ((i : Int) == (s.size : Int)) = true := beq_iff_eq.2 (by omega)
          clear HD hend hx
          go_wp2_with fail
          go_ret
          rw [unhide D2]
          exact ⟨rfl, hb.alloc hb.size _⟩
        · have hlt : i < s.size := by omega
          have hne : ((i : Int) == (s.size : Int)) = false := beq_eq_false_iff_ne.2 (by omega)
          have en := nx_in s i hlt
          clear hend
          rcases hx with rfl | rfl | rfl | rfl | rfl | rfl
          · by_cases c1 : nx s i = 48
            · have k48 : ((s[i].toNat : Int) == 48) = true := beq_iff_eq.2 (by omega)
              have D2 : Hid (F = den s M (i + 1)) := by
                show F = _
                rw [HD.out]; exact den_id_leaf (Or.inl c1)
              clear en HD
              go_wp2_with fail
              go_roundg (gk - 1)
              case measure => have := unhide HK; omega
              case rel =>
                have := unhide HK
                exact ⟨M, i + 1, by omega, by omega, by go_num, unhide T _ (B0.alloc (Nat.le_refl _) _), hokM, hM0, by omega, hb.alloc hb.size _, unhide D2⟩
            · by_cases c2 : nx s i = 49
              · have k48 : ((s[i].toNat : Int) == 48) = false := beq_eq_false_iff_ne.2 (by omega)
                have k49 : ((s[i].toNat : Int) == 49) = true := beq_iff_eq.2 (by omega)
                have D2 : Hid (F = den s M (i + 1)) := by
                  show F = _
                  rw [HD.out]; exact den_id_leaf (Or.inr c2)
                clear en HD
                go_wp2_with fail
                go_roundg (gk - 1)
                case measure => have := unhide HK; omega
                case rel =>
                  have := unhide HK
                  exact ⟨M, i + 1, by omega, by omega, by go_num, unhide T _ (B0.alloc (Nat.le_refl _) _), hokM, hM0, by omega, hb.alloc hb.size _, unhide D2⟩
              · by_cases c3 : nx s i = 40
                · by_cases c4 : d < 8
                  · have k48 : ((s[i].toNat : Int) == 48) = false := beq_eq_false_iff_ne.2 (by omega)
                    have k49 : ((s[i].toNat : Int) == 49) = false := beq_eq_false_iff_ne.2 (by omega)
                    have k40 : ((s[i].toNat : Int) == 40) = true := beq_iff_eq.2 (by omega)
                    have d8 : (d : Int) < 8 := by omega
                    have D2 : Hid (F = den s ([(105, d + 1), (44, 0), (105, d + 1), (41, 0)] ++ M) (i + 1)) := by
                      show F = _
                      rw [HD.out]; exact den_id_open c3 c4
                    clear en HD
                    have Y2 := Sy.four (wr.alloc (.cells #[.int .u8 105, .int .i64 (d : Nat)] 162)) d
                    have zz : (wr.alloc (.cells #[.int .u8 105, .int .i64 (d : Nat)] 162)).heap.size = wr.heap.size + 1 := by simp
                    rw [zz] at Y2
                    clear zz
                    have B2 := (B0.alloc (Nat.le_refl _) (.cells #[.int .u8 105, .int .i64 (d : Nat)] 162)).alloc (by simp) (.cells (sym4 d) 162)
                    have PU := hide (push_any _ _ M [(105, d + 1), (44, 0), (105, d + 1), (41, 0)] _ (unhide T _ B2) Y2 (by omega) (by simp) (by simp))
                    clear Y2
                    go_wp2_with fail
                    refine (unhide PU).mono ?_
                    rintro e w3 ⟨v3, rfl, y3, b3⟩
                    have b4 := B2.trans (b3.mono (by simp; omega))
                    go_wp2_with fail
                    go_roundg (gk - 1)
                    case measure => have := unhide HK; omega
                    case rel =>
                      have := unhide HK
                      exact ⟨_, i + 1, by omega, by omega, by go_num, y3, okSy_four hokM (by omega), lastOk_app hM0 rfl, by simp; omega, hb.trans (b4.mono hb.size), unhide D2⟩
                  · have k48 : ((s[i].toNat : Int) == 48) = false := beq_eq_false_iff_ne.2 (by omega)
                    have k49 : ((s[i].toNat : Int) == 49) = false := beq_eq_false_iff_ne.2 (by omega)
                    have k40 : ((s[i].toNat : Int) == 40) = true := beq_iff_eq.2 (by omega)
                    have k105 : ((s[i].toNat : Int) == 105) = false := beq_eq_false_iff_ne.2 (by omega)
                    have d8 : ¬ (d : Int) < 8 := by omega
                    have D2 : Hid (F = some i) := by
                      show F = _
                      rw [HD.out]; exact den_id_bad (by omega) (by omega)
                    clear en HD
                    go_wp2_with fail
                    go_ret
                    rw [unhide D2]
                    exact ⟨rfl, hb.alloc hb.size _⟩
                · by_cases c5 : nx s i = 105
                  · have k48 : ((s[i].toNat : Int) == 48) = false := beq_eq_false_iff_ne.2 (by omega)
                    have k49 : ((s[i].toNat : Int) == 49) = false := beq_eq_false_iff_ne.2 (by omega)
                    have k40 : ((s[i].toNat : Int) == 40) = false := beq_eq_false_iff_ne.2 (by omega)
                    have k105 : ((s[i].toNat : Int) == 105) = true := beq_iff_eq.2 (by omega)
                    have D2 : Hid (F = some i) := by
                      show F = _
                      rw [HD.out]; exact den_id_bad (by omega) (by omega)
                    clear en HD
                    go_wp2_with fail
                    go_ret
                    rw [unhide D2]
                    exact ⟨rfl, hb.alloc hb.size _⟩
                  · have k48 : ((s[i].toNat : Int) == 48) = false := beq_eq_false_iff_ne.2 (by omega)
                    have k49 : ((s[i].toNat : Int) == 49) = false := beq_eq_false_iff_ne.2 (by omega)
                    have k40 : ((s[i].toNat : Int) == 40) = false := beq_eq_false_iff_ne.2 (by omega)
                    have k105 : ((s[i].toNat : Int) == 105) = false := beq_eq_false_iff_ne.2 (by omega)
                    have D2 : Hid (F = some i) := by
                      show F = _
                      rw [HD.out]; exact den_id_bad (by omega) (by omega)
                    clear en HD
                    go_wp2_with fail
                    go_ret
                    rw [unhide D2]
                    exact ⟨rfl, hb.alloc hb.size _⟩
          · by_cases c3 : nx s i = 40
            · by_cases c4 : d < 8
              · have k40 : ((s[i].toNat : Int) == 40) = true := beq_iff_eq.2 (by omega)
                have d8 : (d : Int) < 8 := by omega
                have D2 : Hid (F = den s ([(110, 0), (44, 0), (101, d + 1), (44, 0), (101, d + 1), (41, 0)] ++ M) (i + 1)) := by
                  show F = _
                  rw [HD.out]; exact den_ev_open c3 c4
                clear en HD
                have Y2 := Sy.six (wr.alloc (.cells #[.int .u8 101, .int .i64 (d : Nat)] 162)) d
                have zz : (wr.alloc (.cells #[.int .u8 101, .int .i64 (d : Nat)] 162)).heap.size = wr.heap.size + 1 := by simp
                rw [zz] at Y2
                clear zz
                have B2 := (B0.alloc (Nat.le_refl _) (.cells #[.int .u8 101, .int .i64 (d : Nat)] 162)).alloc (by simp) (.cells (sym6 d) 162)
                have PU := hide (push_any _ _ M [(110, 0), (44, 0), (101, d + 1), (44, 0), (101, d + 1), (41, 0)] _ (unhide T _ B2) Y2 (by omega) (by simp) (by simp))
                clear Y2
                go_wp2_with fail
                refine (unhide PU).mono ?_
                rintro e w3 ⟨v3, rfl, y3, b3⟩
                have b4 := B2.trans (b3.mono (by simp; omega))
                go_wp2_with fail
                go_roundg (gk - 1)
                case measure => have := unhide HK; omega
                case rel =>
                  have := unhide HK
                  exact ⟨_, i + 1, by omega, by omega, by go_num, y3, okSy_six hokM (by omega), lastOk_app hM0 rfl, by simp; omega, hb.trans (b4.mono hb.size), unhide D2⟩
              · have k40 : ((s[i].toNat : Int) == 40) = true := beq_iff_eq.2 (by omega)
                have n40 : ((s[i].toNat : Int) != 40) = false := by rw [bne_eq_false_iff_eq]; omega
                have k101 : ((s[i].toNat : Int) == 101) = false := beq_eq_false_iff_ne.2 (by omega)
                have d8 : ¬ (d : Int) < 8 := by omega
                have D2 : Hid (F = some i) := by
                  show F = _
                  rw [HD.out]; exact den_ev_deep c3 (by omega)
                clear en HD
                go_wp2_with fail
                go_ret
                rw [unhide D2]
                exact ⟨rfl, hb.alloc hb.size _⟩
            · have k40 : ((s[i].toNat : Int) == 40) = false := beq_eq_false_iff_ne.2 (by omega)
              have n40 : ((s[i].toNat : Int) != 40) = true := by rw [bne_iff_ne]; omega
              have NM := hide (fun w1 => number_any s i w1 hs)
              cases f : numF s i using Nm.cs with
              | bad j =>
                have D2 : Hid (F = some j) := by
                  show F = _
                  rw [HD.out]; exact den_ev_bad c3 f
                rw [f] at NM
                clear en HD f
                go_wp2_with fail
                refine (unhide NM _).mono ?_
                rintro e w3 ⟨rfl, rfl⟩
                simp only [numRes]
                have j0 : ¬ (j : Int) < 0 := by omega
                go_wp2_with fail
                go_ret
                rw [unhide D2]
                exact ⟨rfl, hb.alloc hb.size _⟩
              | ok n j =>
                have D2 : Hid (F = den s M j) := by
                  show F = _
                  rw [HD.out]; exact den_ev_ok c3 f
                have lj := numF_le hi f
                rw [f] at NM
                clear en HD f
                go_wp2_with fail
                refine (unhide NM _).mono ?_
                rintro e w3 ⟨rfl, rfl⟩
                simp only [numRes]
                go_wp2_with fail
                go_roundg (gk - (j - i))
                case measure => have := unhide HK; omega
                case rel =>
                  have := unhide HK
                  exact ⟨M, j, by omega, by omega, rfl, unhide T _ (B0.alloc (Nat.le_refl _) _), hokM, hM0, by omega, hb.alloc hb.size _, unhide D2⟩
          · have NM := hide (fun w1 => number_any s i w1 hs)
            cases f : numF s i using Nm.cs with
            | bad j =>
              have D2 : Hid (F = some j) := by
                show F = _
                rw [HD.out]; exact den_num_bad f
              rw [f] at NM
              clear en HD f
              go_wp2_with fail
              refine (unhide NM _).mono ?_
              rintro e w3 ⟨rfl, rfl⟩
              simp only [numRes]
              have j0 : ¬ (j : Int) < 0 := by omega
              go_wp2_with fail
              go_ret
              rw [unhide D2]
              exact ⟨rfl, hb.alloc hb.size _⟩
            | ok n j =>
              have D2 : Hid (F = den s M j) := by
                show F = _
                rw [HD.out]; exact den_num_ok f
              have lj := numF_le hi f
              rw [f] at NM
              clear en HD f
              go_wp2_with fail
              refine (unhide NM _).mono ?_
              rintro e w3 ⟨rfl, rfl⟩
              simp only [numRes]
              go_wp2_with fail
              go_roundg (gk - (j - i))
              case measure => have := unhide HK; omega
              case rel =>
                have := unhide HK
                exact ⟨M, j, by omega, by omega, rfl, unhide T _ (B0.alloc (Nat.le_refl _) _), hokM, hM0, by omega, hb.alloc hb.size _, unhide D2⟩
          · by_cases c1 : nx s i = 44
            · have k44 : ((s[i].toNat : Int) == 44) = true := beq_iff_eq.2 (by omega)
              have D2 : Hid (F = den s M (i + 1)) := by
                show F = _
                rw [HD.out]; exact den_lit_ok 44 (by omega) c1
              clear en HD
              go_wp2_with fail
              go_roundg (gk - 1)
              case measure => have := unhide HK; omega
              case rel =>
                have := unhide HK
                exact ⟨M, i + 1, by omega, by omega, by go_num, unhide T _ (B0.alloc (Nat.le_refl _) _), hokM, hM0, by omega, hb.alloc hb.size _, unhide D2⟩
            · have k44 : ((s[i].toNat : Int) == 44) = false := beq_eq_false_iff_ne.2 (by omega)
              have D2 : Hid (F = some i) := by
                show F = _
                rw [HD.out]; exact den_lit_bad 44 (by omega) c1
              clear en HD
              go_wp2_with fail
              go_ret
              rw [unhide D2]
              exact ⟨rfl, hb.alloc hb.size _⟩
          · by_cases c1 : nx s i = 59
            · have k59 : ((s[i].toNat : Int) == 59) = true := beq_iff_eq.2 (by omega)
              have D2 : Hid (F = den s M (i + 1)) := by
                show F = _
                rw [HD.out]; exact den_lit_ok 59 (by omega) c1
              clear en HD
              go_wp2_with fail
              go_roundg (gk - 1)
              case measure => have := unhide HK; omega
              case rel =>
                have := unhide HK
                exact ⟨M, i + 1, by omega, by omega, by go_num, unhide T _ (B0.alloc (Nat.le_refl _) _), hokM, hM0, by omega, hb.alloc hb.size _, unhide D2⟩
            · have k59 : ((s[i].toNat : Int) == 59) = false := beq_eq_false_iff_ne.2 (by omega)
              have D2 : Hid (F = some i) := by
                show F = _
                rw [HD.out]; exact den_lit_bad 59 (by omega) c1
              clear en HD
              go_wp2_with fail
              go_ret
              rw [unhide D2]
              exact ⟨rfl, hb.alloc hb.size _⟩
          · by_cases c1 : nx s i = 41
            · have k41 : ((s[i].toNat : Int) == 41) = true := beq_iff_eq.2 (by omega)
              have D2 : Hid (F = den s M (i + 1)) := by
                show F = _
                rw [HD.out]; exact den_lit_ok 41 (by omega) c1
              clear en HD
              go_wp2_with fail
              go_roundg (gk - 1)
              case measure => have := unhide HK; omega
              case rel =>
                have := unhide HK
                exact ⟨M, i + 1, by omega, by omega, by go_num, unhide T _ (B0.alloc (Nat.le_refl _) _), hokM, hM0, by omega, hb.alloc hb.size _, unhide D2⟩
            · have k41 : ((s[i].toNat : Int) == 41) = false := beq_eq_false_iff_ne.2 (by omega)
              have D2 : Hid (F = some i) := by
                show F = _
                rw [HD.out]; exact den_lit_bad 41 (by omega) c1
              clear en HD
              go_wp2_with fail
              go_ret
              rw [unhide D2]
              exact ⟨rfl, hb.alloc hb.size _⟩

end Go.Proofs.YtoebmfhgaalcdaaGreatDoor
