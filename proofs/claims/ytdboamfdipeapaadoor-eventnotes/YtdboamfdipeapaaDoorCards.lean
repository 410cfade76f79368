/-
  DERIVED. GIVEN WITH THE SEED: THE CARDS: each row of YtdboamfdipeapaaDoorRows.lean that lists a variable, with what it lists TIED to the program's text (the seventh form; the later family's looks); each row that meets fmt, with fmt's text TOLD by the authors' own Lean function (tested against real Go, not proved from fmt's source: count such statements apart). THE CARD IS WHAT COUNTS. Prove the row's statement (the work); the ties are given (YtdboamfdipeapaaDoorTie.lean); close each card by the builder's one call (the guide's Derived/Test/ToyasCard.lean, 'card_holds'). Laid BY PROGRAM, IN A SANDBOX (cutbox-door.mjs). By AI agents, Wed Nov 11 2026. No macro, syntax, notation, axiom, sorry.
-/
import Derived.Test.YtdboamfdipeapaaDoorRows
import GoSem.ClaimSeven
namespace Go.Proofs.YtdboamfdipeapaaDoor
namespace Rows

/-- THE TIED CARD OF 'incognitolaw10.EventParses'. -/
def eventParsesCard : Claim7 := { stood := { row := eventParsesRow, standIns := [], harness := (true, "b5b20e7c30528d5372d7811029ff63e87de2bcd0b029d631034624881ae48740"), looks := true }, kinds := [], alts := [], laidByText := true, laidKinds := [.data, .data, .data, .widerDeep, .data, .pinned], laidTests := true, laidLooks := .later }
def EventParsesCardSaid : Prop := Claim7.holds Tryd.pinned (.plain (OpenSpec.ofChange eventParsesSpec)) eventParsesCard

/-- THE TIED CARD OF 'incognitolaw10.EventNotes'. -/
def eventNotesCard : Claim7 := { stood := { row := eventNotesRow, standIns := [], harness := (true, "b5b20e7c30528d5372d7811029ff63e87de2bcd0b029d631034624881ae48740"), looks := true }, kinds := [], alts := [], laidByText := true, laidKinds := [.data, .data, .data, .widerDeep, .data, .pinned], laidTests := true, laidLooks := .later }
def EventNotesCardSaid : Prop := Claim7.holds Tryd.pinned (.plain (OpenSpec.ofChange eventNotesSpec)) eventNotesCard

/-- THE SECOND FORM's CARD OF 'incognitolaw10.EventParses'. -/
def eventParsesUptoCard : Claim7 := { stood := { row := eventParsesUptoRow, standIns := [], harness := (true, "b5b20e7c30528d5372d7811029ff63e87de2bcd0b029d631034624881ae48740"), looks := true }, kinds := [], alts := [], laidByText := true, laidKinds := [.data, .data, .data, .widerDeep, .data, .pinned], laidTests := true, laidLooks := .later }
def EventParsesUptoCardSaid : Prop := Claim7.holds Tryd.pinned (.plain (OpenSpec.upto eventParsesSpec)) eventParsesUptoCard

/-- THE SECOND FORM's CARD OF 'incognitolaw10.EventNotes'. -/
def eventNotesUptoCard : Claim7 := { stood := { row := eventNotesUptoRow, standIns := [], harness := (true, "b5b20e7c30528d5372d7811029ff63e87de2bcd0b029d631034624881ae48740"), looks := true }, kinds := [], alts := [], laidByText := true, laidKinds := [.data, .data, .data, .widerDeep, .data, .pinned], laidTests := true, laidLooks := .later }
def EventNotesUptoCardSaid : Prop := Claim7.holds Tryd.pinned (.plain (OpenSpec.upto eventNotesSpec)) eventNotesUptoCard
end Rows
end Go.Proofs.YtdboamfdipeapaaDoor
