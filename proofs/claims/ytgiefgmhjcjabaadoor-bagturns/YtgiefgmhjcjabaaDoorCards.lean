/-
  DERIVED. GIVEN WITH THE SEED: THE CARDS: each row of YtgiefgmhjcjabaaDoorRows.lean that lists a variable, with what it lists TIED to the program's text (the seventh form; the later family's looks); each row that meets fmt, with fmt's text TOLD by the authors' own Lean function (tested against real Go, not proved from fmt's source: count such statements apart). THE CARD IS WHAT COUNTS. Prove the row's statement (the work); the ties are given (YtgiefgmhjcjabaaDoorTie.lean); close each card by the builder's one call (the guide's Derived/Test/ToyasCard.lean, 'card_holds'). Laid BY PROGRAM, IN A SANDBOX (cutbox-door.mjs). By AI agents, Wed Nov 11 2026. No macro, syntax, notation, axiom, sorry.
-/
import Derived.Test.YtgiefgmhjcjabaaDoorRows
import GoSem.ClaimSeven
namespace Go.Proofs.YtgiefgmhjcjabaaDoor
namespace Rows

/-- THE TIED CARD OF 'incognitolaw14.BagPlays'. -/
def bagPlaysCard : Claim7 := { stood := { row := bagPlaysRow, standIns := [], harness := (true, "d01d1120631d82cb5c763ff8211229a51d588ee5abe2d91a94312530c104f226"), looks := false }, kinds := [], alts := [], laidByText := true, laidKinds := [.widerDeep], laidTests := true, laidLooks := .later }
def BagPlaysCardSaid : Prop := Claim7.holds Tryd.pinned (.plain (OpenSpec.ofChange bagPlaysSpec)) bagPlaysCard

/-- THE TIED CARD OF 'incognitolaw14.BagOuts'. -/
def bagOutsCard : Claim7 := { stood := { row := bagOutsRow, standIns := [], harness := (true, "d01d1120631d82cb5c763ff8211229a51d588ee5abe2d91a94312530c104f226"), looks := false }, kinds := [], alts := [], laidByText := true, laidKinds := [.widerDeep], laidTests := true, laidLooks := .later }
def BagOutsCardSaid : Prop := Claim7.holds Tryd.pinned (.plain (OpenSpec.ofChange bagOutsSpec)) bagOutsCard

/-- THE TIED CARD OF 'incognitolaw14.BagTurns'. -/
def bagTurnsCard : Claim7 := { stood := { row := bagTurnsRow, standIns := [], harness := (true, "d01d1120631d82cb5c763ff8211229a51d588ee5abe2d91a94312530c104f226"), looks := false }, kinds := [], alts := [], laidByText := true, laidKinds := [.widerDeep], laidTests := true, laidLooks := .later }
def BagTurnsCardSaid : Prop := Claim7.holds Tryd.pinned (.plain (OpenSpec.ofChange bagTurnsSpec)) bagTurnsCard

/-- THE SECOND FORM's CARD OF 'incognitolaw14.BagPlays'. -/
def bagPlaysUptoCard : Claim7 := { stood := { row := bagPlaysUptoRow, standIns := [], harness := (true, "d01d1120631d82cb5c763ff8211229a51d588ee5abe2d91a94312530c104f226"), looks := false }, kinds := [], alts := [], laidByText := true, laidKinds := [.widerDeep], laidTests := true, laidLooks := .later }
def BagPlaysUptoCardSaid : Prop := Claim7.holds Tryd.pinned (.plain (OpenSpec.upto bagPlaysSpec)) bagPlaysUptoCard

/-- THE SECOND FORM's CARD OF 'incognitolaw14.BagOuts'. -/
def bagOutsUptoCard : Claim7 := { stood := { row := bagOutsUptoRow, standIns := [], harness := (true, "d01d1120631d82cb5c763ff8211229a51d588ee5abe2d91a94312530c104f226"), looks := false }, kinds := [], alts := [], laidByText := true, laidKinds := [.widerDeep], laidTests := true, laidLooks := .later }
def BagOutsUptoCardSaid : Prop := Claim7.holds Tryd.pinned (.plain (OpenSpec.upto bagOutsSpec)) bagOutsUptoCard

/-- THE SECOND FORM's CARD OF 'incognitolaw14.BagTurns'. -/
def bagTurnsUptoCard : Claim7 := { stood := { row := bagTurnsUptoRow, standIns := [], harness := (true, "d01d1120631d82cb5c763ff8211229a51d588ee5abe2d91a94312530c104f226"), looks := false }, kinds := [], alts := [], laidByText := true, laidKinds := [.widerDeep], laidTests := true, laidLooks := .later }
def BagTurnsUptoCardSaid : Prop := Claim7.holds Tryd.pinned (.plain (OpenSpec.upto bagTurnsSpec)) bagTurnsUptoCard
end Rows
end Go.Proofs.YtgiefgmhjcjabaaDoor
