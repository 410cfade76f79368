/-
  DERIVED. GIVEN WITH THE SEED: THE CARDS: each row of YtidonnilklplhaaDoorRows.lean that lists a variable, with what it lists TIED to the program's text (the seventh form; the later family's looks); each row that meets fmt, with fmt's text TOLD by the authors' own Lean function (tested against real Go, not proved from fmt's source: count such statements apart). THE CARD IS WHAT COUNTS. Prove the row's statement (the work); the ties are given (YtidonnilklplhaaDoorTie.lean); close each card by the builder's one call (the guide's Derived/Test/ToyasCard.lean, 'card_holds'). Laid BY PROGRAM, IN A SANDBOX (cutbox-door.mjs). By AI agents, Wed Nov 11 2026. No macro, syntax, notation, axiom, sorry.
-/
import Derived.Test.YtidonnilklplhaaDoorRows
import GoSem.ClaimSeven
namespace Go.Proofs.YtidonnilklplhaaDoor
namespace Rows

/-- THE TIED CARD OF 'incognitolaw04.MacSums'. -/
def macSumsCard : Claim7 := { stood := { row := macSumsRow, standIns := [], harness := (true, "42e8913724716c49c36784766c107d321d38b877c198149bbe2f0ef03287e2b0"), looks := false }, kinds := [], alts := [], laidByText := true, laidKinds := [.data], laidTests := true, laidLooks := .later }
def MacSumsCardSaid : Prop := Claim7.holds Tryd.pinned (.plain (OpenSpec.ofChange macSumsSpec)) macSumsCard

/-- THE TIED CARD OF 'incognitolaw04.MacBlocks'. -/
def macBlocksCard : Claim7 := { stood := { row := macBlocksRow, standIns := [], harness := (true, "42e8913724716c49c36784766c107d321d38b877c198149bbe2f0ef03287e2b0"), looks := false }, kinds := [], alts := [], laidByText := true, laidKinds := [.data], laidTests := true, laidLooks := .later }
def MacBlocksCardSaid : Prop := Claim7.holds Tryd.pinned (.plain (OpenSpec.ofChange macBlocksSpec)) macBlocksCard

/-- THE TIED CARD OF 'incognitolaw04.MacParts'. -/
def macPartsCard : Claim7 := { stood := { row := macPartsRow, standIns := [], harness := (true, "42e8913724716c49c36784766c107d321d38b877c198149bbe2f0ef03287e2b0"), looks := false }, kinds := [], alts := [], laidByText := true, laidKinds := [.data], laidTests := true, laidLooks := .later }
def MacPartsCardSaid : Prop := Claim7.holds Tryd.pinned (.plain (OpenSpec.ofChange macPartsSpec)) macPartsCard

/-- THE TIED CARD OF 'incognitolaw04.MacWrites'. -/
def macWritesCard : Claim7 := { stood := { row := macWritesRow, standIns := [], harness := (true, "42e8913724716c49c36784766c107d321d38b877c198149bbe2f0ef03287e2b0"), looks := false }, kinds := [], alts := [], laidByText := true, laidKinds := [.data], laidTests := true, laidLooks := .later }
def MacWritesCardSaid : Prop := Claim7.holds Tryd.pinned (.plain (OpenSpec.ofChange macWritesSpec)) macWritesCard

/-- THE TIED CARD OF 'incognitolaw04.MacSame'. -/
def macSameCard : Claim7 := { stood := { row := macSameRow, standIns := [], harness := (true, "42e8913724716c49c36784766c107d321d38b877c198149bbe2f0ef03287e2b0"), looks := false }, kinds := [], alts := [], laidByText := true, laidKinds := [.data], laidTests := true, laidLooks := .later }
def MacSameCardSaid : Prop := Claim7.holds Tryd.pinned (.plain (OpenSpec.ofChange macSameSpec)) macSameCard

/-- THE SECOND FORM's CARD OF 'incognitolaw04.MacSums'. -/
def macSumsUptoCard : Claim7 := { stood := { row := macSumsUptoRow, standIns := [], harness := (true, "42e8913724716c49c36784766c107d321d38b877c198149bbe2f0ef03287e2b0"), looks := false }, kinds := [], alts := [], laidByText := true, laidKinds := [.data], laidTests := true, laidLooks := .later }
def MacSumsUptoCardSaid : Prop := Claim7.holds Tryd.pinned (.plain (OpenSpec.upto macSumsSpec)) macSumsUptoCard

/-- THE SECOND FORM's CARD OF 'incognitolaw04.MacBlocks'. -/
def macBlocksUptoCard : Claim7 := { stood := { row := macBlocksUptoRow, standIns := [], harness := (true, "42e8913724716c49c36784766c107d321d38b877c198149bbe2f0ef03287e2b0"), looks := false }, kinds := [], alts := [], laidByText := true, laidKinds := [.data], laidTests := true, laidLooks := .later }
def MacBlocksUptoCardSaid : Prop := Claim7.holds Tryd.pinned (.plain (OpenSpec.upto macBlocksSpec)) macBlocksUptoCard

/-- THE SECOND FORM's CARD OF 'incognitolaw04.MacParts'. -/
def macPartsUptoCard : Claim7 := { stood := { row := macPartsUptoRow, standIns := [], harness := (true, "42e8913724716c49c36784766c107d321d38b877c198149bbe2f0ef03287e2b0"), looks := false }, kinds := [], alts := [], laidByText := true, laidKinds := [.data], laidTests := true, laidLooks := .later }
def MacPartsUptoCardSaid : Prop := Claim7.holds Tryd.pinned (.plain (OpenSpec.upto macPartsSpec)) macPartsUptoCard

/-- THE SECOND FORM's CARD OF 'incognitolaw04.MacWrites'. -/
def macWritesUptoCard : Claim7 := { stood := { row := macWritesUptoRow, standIns := [], harness := (true, "42e8913724716c49c36784766c107d321d38b877c198149bbe2f0ef03287e2b0"), looks := false }, kinds := [], alts := [], laidByText := true, laidKinds := [.data], laidTests := true, laidLooks := .later }
def MacWritesUptoCardSaid : Prop := Claim7.holds Tryd.pinned (.plain (OpenSpec.upto macWritesSpec)) macWritesUptoCard

/-- THE SECOND FORM's CARD OF 'incognitolaw04.MacSame'. -/
def macSameUptoCard : Claim7 := { stood := { row := macSameUptoRow, standIns := [], harness := (true, "42e8913724716c49c36784766c107d321d38b877c198149bbe2f0ef03287e2b0"), looks := false }, kinds := [], alts := [], laidByText := true, laidKinds := [.data], laidTests := true, laidLooks := .later }
def MacSameUptoCardSaid : Prop := Claim7.holds Tryd.pinned (.plain (OpenSpec.upto macSameSpec)) macSameUptoCard
end Rows
end Go.Proofs.YtidonnilklplhaaDoor
