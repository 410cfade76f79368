/-
  DERIVED. GIVEN WITH THE SEED: THE CARDS: each row of YtdhlheilgagcpaaGreatDoorRows.lean that lists a variable, with what it lists TIED to the program's text (the seventh form; the later family's looks); each row that meets fmt, with fmt's text TOLD by the authors' own Lean function (tested against real Go, not proved from fmt's source: count such statements apart). THE CARD IS WHAT COUNTS. Prove the row's statement (the work); the ties are given (YtdhlheilgagcpaaGreatDoorTie.lean); close each card by the builder's one call (the guide's Derived/Test/ToyasCard.lean, 'card_holds'). Laid BY PROGRAM, IN A SANDBOX (cutbox-door.mjs). By AI agents, Wed Nov 11 2026. No macro, syntax, notation, axiom, sorry.
-/
import Derived.Test.YtdhlheilgagcpaaGreatDoorRows
import GoSem.ClaimSeven
namespace Go.Proofs.YtdhlheilgagcpaaGreatDoor
namespace Rows

/-- THE TIED CARD OF 'incognitolaw11.HistOne'. -/
def histOneCard : Claim7 := { stood := { row := histOneRow, standIns := [], harness := (true, "3898d179c87a18cb8ee327bcdea503c563a95d4abed0cb027d157cfc8c9314e4"), looks := true }, kinds := [], alts := [], laidByText := true, laidKinds := [.data, .data, .data, .data, .data, .data, .widerDeep, .data, .pinned], laidTests := true, laidLooks := .later }
def HistOneCardSaid : Prop := Claim7.holds Tryz.pinned (.plain (OpenSpec.ofChange histOneSpec)) histOneCard

/-- THE TIED CARD OF 'incognitolaw11.HistBack'. -/
def histBackCard : Claim7 := { stood := { row := histBackRow, standIns := [], harness := (true, "3898d179c87a18cb8ee327bcdea503c563a95d4abed0cb027d157cfc8c9314e4"), looks := true }, kinds := [], alts := [], laidByText := true, laidKinds := [.data, .data, .data, .data, .data, .data, .widerDeep, .data, .pinned], laidTests := true, laidLooks := .later }
def HistBackCardSaid : Prop := Claim7.holds Tryz.pinned (.plain (OpenSpec.ofChange histBackSpec)) histBackCard

/-- THE SECOND FORM's CARD OF 'incognitolaw11.HistOne'. -/
def histOneUptoCard : Claim7 := { stood := { row := histOneUptoRow, standIns := [], harness := (true, "3898d179c87a18cb8ee327bcdea503c563a95d4abed0cb027d157cfc8c9314e4"), looks := true }, kinds := [], alts := [], laidByText := true, laidKinds := [.data, .data, .data, .data, .data, .data, .widerDeep, .data, .pinned], laidTests := true, laidLooks := .later }
def HistOneUptoCardSaid : Prop := Claim7.holds Tryz.pinned (.plain (OpenSpec.upto histOneSpec)) histOneUptoCard

/-- THE SECOND FORM's CARD OF 'incognitolaw11.HistBack'. -/
def histBackUptoCard : Claim7 := { stood := { row := histBackUptoRow, standIns := [], harness := (true, "3898d179c87a18cb8ee327bcdea503c563a95d4abed0cb027d157cfc8c9314e4"), looks := true }, kinds := [], alts := [], laidByText := true, laidKinds := [.data, .data, .data, .data, .data, .data, .widerDeep, .data, .pinned], laidTests := true, laidLooks := .later }
def HistBackUptoCardSaid : Prop := Claim7.holds Tryz.pinned (.plain (OpenSpec.upto histBackSpec)) histBackUptoCard
end Rows
end Go.Proofs.YtdhlheilgagcpaaGreatDoor
