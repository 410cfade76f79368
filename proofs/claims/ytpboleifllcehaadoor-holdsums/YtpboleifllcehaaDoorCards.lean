/-
  DERIVED. GIVEN WITH THE SEED: THE CARDS: each row of YtpboleifllcehaaDoorRows.lean that lists a variable, with what it lists TIED to the program's text (the seventh form; the later family's looks); each row that meets fmt, with fmt's text TOLD by the authors' own Lean function (tested against real Go, not proved from fmt's source: count such statements apart). THE CARD IS WHAT COUNTS. Prove the row's statement (the work); the ties are given (YtpboleifllcehaaDoorTie.lean); close each card by the builder's one call (the guide's Derived/Test/ToyasCard.lean, 'card_holds'). Laid BY PROGRAM, IN A SANDBOX (cutbox-door.mjs). By AI agents, Wed Nov 11 2026. No macro, syntax, notation, axiom, sorry.
-/
import Derived.Test.YtpboleifllcehaaDoorRows
import GoSem.ClaimSeven
namespace Go.Proofs.YtpboleifllcehaaDoor
namespace Rows

/-- THE TIED CARD OF 'incognitolaw16.HoldPlays'. -/
def holdPlaysCard : Claim7 := { stood := { row := holdPlaysRow, standIns := [], harness := (true, "b9e86dc3483223224c0bd607a0cc4902404aa3b5f360f0dc9ffc6ff6ae76785c"), looks := false }, kinds := [], alts := [], laidByText := true, laidKinds := [.widerDeep], laidTests := true, laidLooks := .later }
def HoldPlaysCardSaid : Prop := Claim7.holds Tryd.pinned (.plain (OpenSpec.ofChange holdPlaysSpec)) holdPlaysCard

/-- THE TIED CARD OF 'incognitolaw16.HoldOuts'. -/
def holdOutsCard : Claim7 := { stood := { row := holdOutsRow, standIns := [], harness := (true, "b9e86dc3483223224c0bd607a0cc4902404aa3b5f360f0dc9ffc6ff6ae76785c"), looks := false }, kinds := [], alts := [], laidByText := true, laidKinds := [.widerDeep], laidTests := true, laidLooks := .later }
def HoldOutsCardSaid : Prop := Claim7.holds Tryd.pinned (.plain (OpenSpec.ofChange holdOutsSpec)) holdOutsCard

/-- THE TIED CARD OF 'incognitolaw16.HoldOne'. -/
def holdOneCard : Claim7 := { stood := { row := holdOneRow, standIns := [], harness := (true, "b9e86dc3483223224c0bd607a0cc4902404aa3b5f360f0dc9ffc6ff6ae76785c"), looks := false }, kinds := [], alts := [], laidByText := true, laidKinds := [.widerDeep], laidTests := true, laidLooks := .later }
def HoldOneCardSaid : Prop := Claim7.holds Tryd.pinned (.plain (OpenSpec.ofChange holdOneSpec)) holdOneCard

/-- THE TIED CARD OF 'incognitolaw16.HoldSums'. -/
def holdSumsCard : Claim7 := { stood := { row := holdSumsRow, standIns := [], harness := (true, "b9e86dc3483223224c0bd607a0cc4902404aa3b5f360f0dc9ffc6ff6ae76785c"), looks := false }, kinds := [], alts := [], laidByText := true, laidKinds := [.widerDeep], laidTests := true, laidLooks := .later }
def HoldSumsCardSaid : Prop := Claim7.holds Tryd.pinned (.plain (OpenSpec.ofChange holdSumsSpec)) holdSumsCard

/-- THE SECOND FORM's CARD OF 'incognitolaw16.HoldPlays'. -/
def holdPlaysUptoCard : Claim7 := { stood := { row := holdPlaysUptoRow, standIns := [], harness := (true, "b9e86dc3483223224c0bd607a0cc4902404aa3b5f360f0dc9ffc6ff6ae76785c"), looks := false }, kinds := [], alts := [], laidByText := true, laidKinds := [.widerDeep], laidTests := true, laidLooks := .later }
def HoldPlaysUptoCardSaid : Prop := Claim7.holds Tryd.pinned (.plain (OpenSpec.upto holdPlaysSpec)) holdPlaysUptoCard

/-- THE SECOND FORM's CARD OF 'incognitolaw16.HoldOuts'. -/
def holdOutsUptoCard : Claim7 := { stood := { row := holdOutsUptoRow, standIns := [], harness := (true, "b9e86dc3483223224c0bd607a0cc4902404aa3b5f360f0dc9ffc6ff6ae76785c"), looks := false }, kinds := [], alts := [], laidByText := true, laidKinds := [.widerDeep], laidTests := true, laidLooks := .later }
def HoldOutsUptoCardSaid : Prop := Claim7.holds Tryd.pinned (.plain (OpenSpec.upto holdOutsSpec)) holdOutsUptoCard

/-- THE SECOND FORM's CARD OF 'incognitolaw16.HoldOne'. -/
def holdOneUptoCard : Claim7 := { stood := { row := holdOneUptoRow, standIns := [], harness := (true, "b9e86dc3483223224c0bd607a0cc4902404aa3b5f360f0dc9ffc6ff6ae76785c"), looks := false }, kinds := [], alts := [], laidByText := true, laidKinds := [.widerDeep], laidTests := true, laidLooks := .later }
def HoldOneUptoCardSaid : Prop := Claim7.holds Tryd.pinned (.plain (OpenSpec.upto holdOneSpec)) holdOneUptoCard

/-- THE SECOND FORM's CARD OF 'incognitolaw16.HoldSums'. -/
def holdSumsUptoCard : Claim7 := { stood := { row := holdSumsUptoRow, standIns := [], harness := (true, "b9e86dc3483223224c0bd607a0cc4902404aa3b5f360f0dc9ffc6ff6ae76785c"), looks := false }, kinds := [], alts := [], laidByText := true, laidKinds := [.widerDeep], laidTests := true, laidLooks := .later }
def HoldSumsUptoCardSaid : Prop := Claim7.holds Tryd.pinned (.plain (OpenSpec.upto holdSumsSpec)) holdSumsUptoCard
end Rows
end Go.Proofs.YtpboleifllcehaaDoor
