/-
  DERIVED. GIVEN WITH THE SEED: THE CARDS: each row of YtdhlheilgagcpaaDoorRows.lean that lists a variable, with what it lists TIED to the program's text (the seventh form; the later family's looks); each row that meets fmt, with fmt's text TOLD by the authors' own Lean function (tested against real Go, not proved from fmt's source: count such statements apart). THE CARD IS WHAT COUNTS. Prove the row's statement (the work); the ties are given (YtdhlheilgagcpaaDoorTie.lean); close each card by the builder's one call (the guide's Derived/Test/ToyasCard.lean, 'card_holds'). Laid BY PROGRAM, IN A SANDBOX (cutbox-door.mjs). By AI agents, Wed Nov 11 2026. No macro, syntax, notation, axiom, sorry.
-/
import Derived.Test.YtdhlheilgagcpaaDoorRows
import GoSem.ClaimSeven
namespace Go.Proofs.YtdhlheilgagcpaaDoor
namespace Rows

/-- THE TIED CARD OF 'incognitolaw11.HistParses'. -/
def histParsesCard : Claim7 := { stood := { row := histParsesRow, standIns := [], harness := (true, "c54272f48e083f5f058134fbd3f4c2a8d64463b1406fa07ec70fd6edec27fe67"), looks := true }, kinds := [], alts := [], laidByText := true, laidKinds := [.data, .data, .data, .widerDeep, .data, .pinned], laidTests := true, laidLooks := .later }
def HistParsesCardSaid : Prop := Claim7.holds Tryd.pinned (.plain (OpenSpec.ofChange histParsesSpec)) histParsesCard

/-- THE TIED CARD OF 'incognitolaw11.HistJoins'. -/
def histJoinsCard : Claim7 := { stood := { row := histJoinsRow, standIns := [], harness := (true, "c54272f48e083f5f058134fbd3f4c2a8d64463b1406fa07ec70fd6edec27fe67"), looks := true }, kinds := [], alts := [], laidByText := true, laidKinds := [.data, .data, .data, .widerDeep, .data, .pinned], laidTests := true, laidLooks := .later }
def HistJoinsCardSaid : Prop := Claim7.holds Tryd.pinned (.plain (OpenSpec.ofChange histJoinsSpec)) histJoinsCard

/-- THE SECOND FORM's CARD OF 'incognitolaw11.HistParses'. -/
def histParsesUptoCard : Claim7 := { stood := { row := histParsesUptoRow, standIns := [], harness := (true, "c54272f48e083f5f058134fbd3f4c2a8d64463b1406fa07ec70fd6edec27fe67"), looks := true }, kinds := [], alts := [], laidByText := true, laidKinds := [.data, .data, .data, .widerDeep, .data, .pinned], laidTests := true, laidLooks := .later }
def HistParsesUptoCardSaid : Prop := Claim7.holds Tryd.pinned (.plain (OpenSpec.upto histParsesSpec)) histParsesUptoCard

/-- THE SECOND FORM's CARD OF 'incognitolaw11.HistJoins'. -/
def histJoinsUptoCard : Claim7 := { stood := { row := histJoinsUptoRow, standIns := [], harness := (true, "c54272f48e083f5f058134fbd3f4c2a8d64463b1406fa07ec70fd6edec27fe67"), looks := true }, kinds := [], alts := [], laidByText := true, laidKinds := [.data, .data, .data, .widerDeep, .data, .pinned], laidTests := true, laidLooks := .later }
def HistJoinsUptoCardSaid : Prop := Claim7.holds Tryd.pinned (.plain (OpenSpec.upto histJoinsSpec)) histJoinsUptoCard
end Rows
end Go.Proofs.YtdhlheilgagcpaaDoor
