/-
  Our own. (*group).play, whatever the raw numbers.
-/
import Derived.Test.YtoebmfhgaalcdaaDoorPlayPeek
import Derived.Test.YtoebmfhgaalcdaaDoorPlayFork
import Derived.Test.YtoebmfhgaalcdaaDoorPlayFork0
import Derived.Test.YtoebmfhgaalcdaaDoorPlayJoin
namespace Go.Proofs.YtoebmfhgaalcdaaDoor
open Go.RowKit

def inI64 (c : Int) : Prop := -9223372036854775808 ≤ c ∧ c ≤ 9223372036854775807

theorem play_any (B gb : Nat) (w : World) (sv : Value) (L : List Mem) (d : Nat) (what a b : Int) (h1 : inI64 what) (h2 : inI64 a) (h3 : inI64 b) (hp : 0 < L.length) (hL : L.length ≤ 31) (I : GInv L d) (G : Gr B gb w sv L d) (hB : B ≤ w.heap.size) (T : Tab w) :
    Calls Tryd.prog 24 #[.pointer (some ⟨gb, 0, none⟩), .int .i64 what, .int .i64 a, .int .i64 b] w fun e w' => Played B gb w e w' := by
  have hc := pickP_lt what 8 (by omega)
  have hi := pickP_lt a L.length hp
  have hk := pickP_lt b L.length hp
  have PA := fun w1 => pick_any a L.length w1 h2.1 h2.2 hp (by omega)
  have PB := fun w1 => pick_any b L.length w1 h3.1 h3.2 hp (by omega)
  have PW : ∀ w1, Calls Tryd.prog 16 #[.int .i64 what, .int .i64 8] w1 fun e w' => e = .returned (.int .i64 (pickP what 8 : Nat)) ∧ w' = w1 := fun w1 => pick_any what 8 w1 h1.1 h1.2 (by omega) (by omega)
  generalize pickP what 8 = c at *
  generalize pickP a L.length = i at *
  generalize pickP b L.length = k at *
  obtain ⟨m, hm⟩ : ∃ m, L[i]? = some m := ⟨_, List.getElem?_eq_getElem hi⟩
  obtain ⟨m2, hm2⟩ : ∃ m, L[k]? = some m := ⟨_, List.getElem?_eq_getElem hk⟩
  by_cases c01 : c = 0 ∨ c = 1
  · cases hpk : m.peek with
    | true => exact play_fork_none B gb w sv L d what a b i c m hL I G hB hm hpk PA PW c01
    | false =>
      have hs0 : shareP m.id 256 ≠ 0 := fun h => by rw [(I.share hm).1 h] at hpk; cases hpk
      by_cases hs1 : shareP m.id 256 = 1
      · exact play_fork_one B gb w sv L d what a b i c m hL I G hB hm hpk hs1 PA PW c01
      · by_cases h30 : L.length ≤ 30
        · exact play_fork B gb w sv L d what a b i c m hL I G hB hm hpk (by omega) h30 T PA PW c01
        · exact play_fork_many B gb w sv L d what a b i c m hL I G hB hm hpk (by omega) (by omega) T PA PW c01
  · by_cases c24 : c = 2 ∨ c = 3 ∨ c = 4
    · cases hpk : m.peek with
      | true => exact play_event_none B gb w sv L d what a b i c m hL I G hB hm hpk PA PW c24
      | false => exact play_event B gb w sv L d what a b i c m hL I G hB hm hpk T PA PW c24
    · by_cases c5 : c = 5
      · exact play_peek B gb w sv L d what a b i c m hL I G hB hm T PA PW c5
      · have c67 : c = 6 ∨ c = 7 := by omega
        by_cases e : k = i
        · exact play_join_self B gb w sv L d what a b i k c m hL I G hB hm e PA PB PW c67
        · exact play_join B gb w sv L d what a b i k c m hL I G hB hm m2 hm2 (fun h => e h.symm) T PA PB PW c67

end Go.Proofs.YtoebmfhgaalcdaaDoor
