/-
  DERIVED. GIVEN WITH THE SEED: THE CARDS: each row of YtoebmfhgaalcdaaDoorRows.lean that lists a variable, with what it lists TIED to the program's text (the seventh form; the later family's looks); each row that meets fmt, with fmt's text TOLD by the authors' own Lean function (tested against real Go, not proved from fmt's source: count such statements apart). THE CARD IS WHAT COUNTS. Prove the row's statement (the work); the ties are given (YtoebmfhgaalcdaaDoorTie.lean); close each card by the builder's one call (the guide's Derived/Test/ToyasCard.lean, 'card_holds'). Laid BY PROGRAM, IN A SANDBOX (cutbox-door.mjs). By AI agents, Wed Nov 11 2026. No macro, syntax, notation, axiom, sorry.
-/
import Derived.Test.YtoebmfhgaalcdaaDoorRows
import GoSem.ClaimSeven
namespace Go.Proofs.YtoebmfhgaalcdaaDoor
namespace Rows

/-- THE TIED CARD OF 'sprigskeep.Causal'. -/
def causalCard : Claim7 := { stood := { row := causalRow, standIns := [], harness := (true, "0621a7d663d718446b549f308c87abfcbc69cd7ce016bc2c0f22b951206db728"), looks := true }, kinds := [], alts := [], laidByText := true, laidKinds := [.data, .data, .data], laidTests := true, laidLooks := .later }
def CausalCardSaid : Prop := Claim7.holds Tryd.pinned (.plain (OpenSpec.ofChange causalSpec)) causalCard

/-- THE TIED CARD OF 'sprigskeep.Whole'. -/
def wholeCard : Claim7 := { stood := { row := wholeRow, standIns := [], harness := (true, "0621a7d663d718446b549f308c87abfcbc69cd7ce016bc2c0f22b951206db728"), looks := true }, kinds := [], alts := [], laidByText := true, laidKinds := [.data, .data, .data], laidTests := true, laidLooks := .later }
def WholeCardSaid : Prop := Claim7.holds Tryd.pinned (.plain (OpenSpec.ofChange wholeSpec)) wholeCard

/-- THE TIED CARD OF 'sprigskeep.Halves'. -/
def halvesCard : Claim7 := { stood := { row := halvesRow, standIns := [], harness := (true, "0621a7d663d718446b549f308c87abfcbc69cd7ce016bc2c0f22b951206db728"), looks := true }, kinds := [], alts := [], laidByText := true, laidKinds := [.data, .data, .data], laidTests := true, laidLooks := .later }
def HalvesCardSaid : Prop := Claim7.holds Tryd.pinned (.plain (OpenSpec.ofChange halvesSpec)) halvesCard

/-- THE TIED CARD OF 'sprigskeep.Counted'. -/
def countedCard : Claim7 := { stood := { row := countedRow, standIns := [], harness := (true, "0621a7d663d718446b549f308c87abfcbc69cd7ce016bc2c0f22b951206db728"), looks := true }, kinds := [], alts := [], laidByText := true, laidKinds := [.data, .data, .data], laidTests := true, laidLooks := .later }
def CountedCardSaid : Prop := Claim7.holds Tryd.pinned (.plain (OpenSpec.ofChange countedSpec)) countedCard

/-- THE TIED CARD OF 'sprigskeep.Order'. -/
def orderCard : Claim7 := { stood := { row := orderRow, standIns := [], harness := (true, "0621a7d663d718446b549f308c87abfcbc69cd7ce016bc2c0f22b951206db728"), looks := true }, kinds := [], alts := [], laidByText := true, laidKinds := [.data, .data, .data], laidTests := true, laidLooks := .later }
def OrderCardSaid : Prop := Claim7.holds Tryd.pinned (.plain (OpenSpec.ofChange orderSpec)) orderCard

/-- THE TIED CARD OF 'sprigskeep.Coded'. -/
def codedCard : Claim7 := { stood := { row := codedRow, standIns := [], harness := (true, "0621a7d663d718446b549f308c87abfcbc69cd7ce016bc2c0f22b951206db728"), looks := true }, kinds := [], alts := [], laidByText := true, laidKinds := [.data, .data, .data], laidTests := true, laidLooks := .later }
def CodedCardSaid : Prop := Claim7.holds Tryd.pinned (.plain (OpenSpec.ofChange codedSpec)) codedCard

/-- THE SECOND FORM's CARD OF 'sprigskeep.Causal'. -/
def causalUptoCard : Claim7 := { stood := { row := causalUptoRow, standIns := [], harness := (true, "0621a7d663d718446b549f308c87abfcbc69cd7ce016bc2c0f22b951206db728"), looks := true }, kinds := [], alts := [], laidByText := true, laidKinds := [.data, .data, .data], laidTests := true, laidLooks := .later }
def CausalUptoCardSaid : Prop := Claim7.holds Tryd.pinned (.plain (OpenSpec.upto causalSpec)) causalUptoCard

/-- THE SECOND FORM's CARD OF 'sprigskeep.Whole'. -/
def wholeUptoCard : Claim7 := { stood := { row := wholeUptoRow, standIns := [], harness := (true, "0621a7d663d718446b549f308c87abfcbc69cd7ce016bc2c0f22b951206db728"), looks := true }, kinds := [], alts := [], laidByText := true, laidKinds := [.data, .data, .data], laidTests := true, laidLooks := .later }
def WholeUptoCardSaid : Prop := Claim7.holds Tryd.pinned (.plain (OpenSpec.upto wholeSpec)) wholeUptoCard

/-- THE SECOND FORM's CARD OF 'sprigskeep.Halves'. -/
def halvesUptoCard : Claim7 := { stood := { row := halvesUptoRow, standIns := [], harness := (true, "0621a7d663d718446b549f308c87abfcbc69cd7ce016bc2c0f22b951206db728"), looks := true }, kinds := [], alts := [], laidByText := true, laidKinds := [.data, .data, .data], laidTests := true, laidLooks := .later }
def HalvesUptoCardSaid : Prop := Claim7.holds Tryd.pinned (.plain (OpenSpec.upto halvesSpec)) halvesUptoCard

/-- THE SECOND FORM's CARD OF 'sprigskeep.Counted'. -/
def countedUptoCard : Claim7 := { stood := { row := countedUptoRow, standIns := [], harness := (true, "0621a7d663d718446b549f308c87abfcbc69cd7ce016bc2c0f22b951206db728"), looks := true }, kinds := [], alts := [], laidByText := true, laidKinds := [.data, .data, .data], laidTests := true, laidLooks := .later }
def CountedUptoCardSaid : Prop := Claim7.holds Tryd.pinned (.plain (OpenSpec.upto countedSpec)) countedUptoCard

/-- THE SECOND FORM's CARD OF 'sprigskeep.Order'. -/
def orderUptoCard : Claim7 := { stood := { row := orderUptoRow, standIns := [], harness := (true, "0621a7d663d718446b549f308c87abfcbc69cd7ce016bc2c0f22b951206db728"), looks := true }, kinds := [], alts := [], laidByText := true, laidKinds := [.data, .data, .data], laidTests := true, laidLooks := .later }
def OrderUptoCardSaid : Prop := Claim7.holds Tryd.pinned (.plain (OpenSpec.upto orderSpec)) orderUptoCard

/-- THE SECOND FORM's CARD OF 'sprigskeep.Coded'. -/
def codedUptoCard : Claim7 := { stood := { row := codedUptoRow, standIns := [], harness := (true, "0621a7d663d718446b549f308c87abfcbc69cd7ce016bc2c0f22b951206db728"), looks := true }, kinds := [], alts := [], laidByText := true, laidKinds := [.data, .data, .data], laidTests := true, laidLooks := .later }
def CodedUptoCardSaid : Prop := Claim7.holds Tryd.pinned (.plain (OpenSpec.upto codedSpec)) codedUptoCard
end Rows
end Go.Proofs.YtoebmfhgaalcdaaDoor
