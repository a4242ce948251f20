/-
  Our own. sprigskeep.Coded: true, whatever the input.
-/
import Derived.Test.YtoebmfhgaalcdaaDoorPackX
import Derived.Test.YtoebmfhgaalcdaaDoorCallsBad
namespace Go.Proofs.YtoebmfhgaalcdaaDoor
open Go.RowKit

theorem toList_data (c : ByteArray) : c.toList = c.data.toList := by
  have e : strOf c.data.toList = c := by cases c; simp [strOf]
  have := strOf_list c.data.toList
  rwa [e] at this

set_option maxRecDepth 100000 in
set_option maxHeartbeats 4000000 in
theorem coded_any (v : Value) (l : List Int) (n : Int) (any : ByteArray) (w : World) (T : Tab w) (h : Sl w.heap.size w v l) (hn1 : -9223372036854775808 ≤ n) (hn2 : n ≤ 9223372036854775807) (hany : any.size ≤ maxLen) :
    Calls Tryd.prog 8 #[v, .int .i64 n, .string any] w fun e w' => e = .returned (.bool true) ∧ Below w.heap.size w w' := by
  obtain ⟨e1, P⟩ := stamp_tx l
  have A := aStamp_any v l w h
  rw [e1] at A
  generalize stampId l = id at *
  generalize evTree 0 (stampEv l) = ev at *
  have EN := hide (encode_ok P.size P.read P)
  have DK := hide (fun (c : ByteArray) (hp : Packed c (wbits id ev)) => decode_ok (s := c) (by have := hp.1; have := P.bits; unfold maxLen; omega) (hp.read P))
  have DC := hide (fun (c : ByteArray) (hp : Packed c (wbits id ev)) (k : Nat) (hk : k < c.size) => decode_bad (s := c.extract 0 k) (by have := hp.1; have := P.bits; rw [ByteArray.size_extract]; unfold maxLen; omega) (hp.cut P hk))
  have DM := hide (fun (c : ByteArray) (hp : Packed c (wbits id ev)) => decode_bad (s := c ++ { data := #[120] }) (by have := hp.1; have := P.bits; rw [ByteArray.size_append]; unfold maxLen; show _ + 1 ≤ _; omega) (hp.more P (x := { data := #[120] }) rfl))
  have SZ : ∀ (c : ByteArray), Packed c (wbits id ev) → 1 ≤ c.size ∧ c.size ≤ 6000 := fun c hp => by have := hp.1; have := P.bits; omega
  replace SZ := hide SZ
  replace T := hide T
  have A := hide A
  unfold tx at *
  generalize strOf (wtext id ev) = S at *
  generalize wbits id ev = bl at *
  go_enter Tryd.func8, Tryd.ntmps8
  go_wp2_with fail
  refine (unhide A).mono ?_
  rintro e w1 ⟨rfl, b1⟩
  replace b1 := hide b1
  go_wp2_with fail
  refine (unhide EN _).mono ?_
  rintro e w2 ⟨c, rfl, pk, b2⟩
  replace b2 := hide (below_trans (unhide b1) b2)
  have D1 := hide (unhide DK c pk)
  have D2 := hide (unhide DC c pk)
  have D3 := hide (unhide DM c pk)
  obtain ⟨c1, c2⟩ := unhide SZ c pk
  clear EN DK DC DM SZ A b1
  replace pk := hide pk
  go_wp2_with fail
  refine (unhide D1 _ ((unhide T).below (unhide b2))).mono ?_
  rintro e w3 ⟨rfl, b3⟩
  replace b3 := hide (below_trans (unhide b2) b3)
  have cne : (c.toList == []) = false := by
    rw [beq_eq_false_iff_ne]
    intro e
    have := congrArg List.length e
    rw [toList_data] at this
    have : c.size = 0 := by simpa using this
    omega
  obtain ⟨pa, pb⟩ : pickP n c.size < c.size ∧ ∀ w1, Calls Tryd.prog 16 #[.int .i64 n, .int .i64 (c.size : Int)] w1 fun e w' => e = .returned (.int .i64 (pickP n c.size : Nat)) ∧ w' = w1 :=
    ⟨pickP_lt n c.size (by omega), fun w1 => pick_any n c.size w1 hn1 hn2 (by omega) (by omega)⟩
  replace pb := hide pb
  generalize pickP n c.size = k at *
  have D2k := hide (unhide D2 k pa)
  have k0 : (0 : Int) ≤ (k : Int) := by omega
  have k1 : (k : Int) ≤ (c.size : Int) := by omega
  clear D2
  go_wp2_with fail
  refine (unhide pb _).mono ?_
  rintro e w4 ⟨rfl, hw4⟩
  rw [hw4]
  clear hw4 w4
  go_wp2_with fail
  refine (unhide D2k _).mono ?_
  rintro e w5 ⟨rfl, b5⟩
  replace b5 := hide (below_trans (unhide b3) b5)
  have CAT := cat_ok c { data := #[120] } (by show c.size + 1 ≤ _; omega)
  go_wp2_with fail
  refine (unhide D3 _).mono ?_
  rintro e w6 ⟨rfl, b6⟩
  replace b6 := hide (below_trans (unhide b5) b6)
  clear CAT
  cases f : readC any using Rd1.cs with
  | bad er pl =>
    have DB := hide (decode_bad hany f)
    obtain ⟨p1, p2⟩ := readC_bad f
    have p3 : ¬ (er : Int) = 0 := by omega
    have p4 : (0 : Int) ≤ (pl : Int) := by omega
    have p5 : (pl : Int) ≤ (any.size : Int) := by omega
    clear f
    go_wp2_with fail
    refine (unhide DB _).mono ?_
    rintro e w7 ⟨rfl, b7⟩
    replace b7 := hide (below_trans (unhide b6) b7)
    go_wp2_with fail
    go_ret
    exact ⟨rfl, unhide b7⟩
  | ok i2 v2 =>
    obtain ⟨_, Q, PQ⟩ := readC_ok f
    have DB := hide (decode_ok hany f)
    have EN := hide (fun W => encode_ok Q.size Q.read Q W)
    replace PQ := hide PQ
    unfold tx at *
    clear f Q
    generalize strOf (wtext i2 v2) = S2 at *
    generalize wbits i2 v2 = bl2 at *
    go_wp2_with fail
    refine (unhide DB _ ((unhide T).below (unhide b6))).mono ?_
    rintro e w7 ⟨rfl, b7⟩
    replace b7 := hide (below_trans (unhide b6) b7)
    go_wp2_with fail
    refine (unhide EN _).mono ?_
    rintro e w8 ⟨c8, rfl, pk8, b8⟩
    replace b8 := hide (below_trans (unhide b7) b8)
    obtain rfl := Packed.ext pk8 (unhide PQ)
    clear pk8
    go_wp2_with fail
    go_ret
    exact ⟨rfl, unhide b8⟩

end Go.Proofs.YtoebmfhgaalcdaaDoor
