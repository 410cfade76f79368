/-
  DERIVED. GIVEN WITH THE SEED: THE CARDS: each row of YtilfmemfnheppaaDoorRows.lean that lists a variable, with what it lists TIED to the program's text (the seventh form; the later family's looks); each row that meets fmt, with fmt's text TOLD by the authors' own Lean function (tested against real Go, not proved from fmt's source: count such statements apart). THE CARD IS WHAT COUNTS. Prove the row's statement (the work); the ties are given (YtilfmemfnheppaaDoorTie.lean); close each card by the builder's one call (the guide's Derived/Test/ToyasCard.lean, 'card_holds'). Laid BY PROGRAM, IN A SANDBOX (cutbox-door.mjs). By AI agents, Wed Nov 11 2026. No macro, syntax, notation, axiom, sorry.
-/
import Derived.Test.YtilfmemfnheppaaDoorRows
import GoSem.ClaimSeven
namespace Go.Proofs.YtilfmemfnheppaaDoor
namespace Rows

/-- THE TIED CARD OF 'incognitolaw05.TagFrames'. -/
def tagFramesCard : Claim7 := { stood := { row := tagFramesRow, standIns := [], harness := (true, "abaa9b2292c6f271d9bca09a136617f792cce10e4714c1adc7656b55d9be4e81"), looks := false }, kinds := [], alts := [], laidByText := true, laidKinds := [.data], laidTests := true, laidLooks := .later }
def TagFramesCardSaid : Prop := Claim7.holds Tryd.pinned (.plain (OpenSpec.ofChange tagFramesSpec)) tagFramesCard

/-- THE TIED CARD OF 'incognitolaw05.TagParts'. -/
def tagPartsCard : Claim7 := { stood := { row := tagPartsRow, standIns := [], harness := (true, "abaa9b2292c6f271d9bca09a136617f792cce10e4714c1adc7656b55d9be4e81"), looks := false }, kinds := [], alts := [], laidByText := true, laidKinds := [.data], laidTests := true, laidLooks := .later }
def TagPartsCardSaid : Prop := Claim7.holds Tryd.pinned (.plain (OpenSpec.ofChange tagPartsSpec)) tagPartsCard

/-- THE TIED CARD OF 'incognitolaw05.TagOf'. -/
def tagOfCard : Claim7 := { stood := { row := tagOfRow, standIns := [], harness := (true, "abaa9b2292c6f271d9bca09a136617f792cce10e4714c1adc7656b55d9be4e81"), looks := false }, kinds := [], alts := [], laidByText := true, laidKinds := [.data], laidTests := true, laidLooks := .later }
def TagOfCardSaid : Prop := Claim7.holds Tryd.pinned (.plain (OpenSpec.ofChange tagOfSpec)) tagOfCard

/-- THE TIED CARD OF 'incognitolaw05.TagBegins'. -/
def tagBeginsCard : Claim7 := { stood := { row := tagBeginsRow, standIns := [], harness := (true, "abaa9b2292c6f271d9bca09a136617f792cce10e4714c1adc7656b55d9be4e81"), looks := false }, kinds := [], alts := [], laidByText := true, laidKinds := [.data], laidTests := true, laidLooks := .later }
def TagBeginsCardSaid : Prop := Claim7.holds Tryd.pinned (.plain (OpenSpec.ofChange tagBeginsSpec)) tagBeginsCard

/-- THE TIED CARD OF 'incognitolaw05.TagApart'. -/
def tagApartCard : Claim7 := { stood := { row := tagApartRow, standIns := [], harness := (true, "abaa9b2292c6f271d9bca09a136617f792cce10e4714c1adc7656b55d9be4e81"), looks := false }, kinds := [], alts := [], laidByText := true, laidKinds := [.data], laidTests := true, laidLooks := .later }
def TagApartCardSaid : Prop := Claim7.holds Tryd.pinned (.plain (OpenSpec.ofChange tagApartSpec)) tagApartCard

/-- THE SECOND FORM's CARD OF 'incognitolaw05.TagFrames'. -/
def tagFramesUptoCard : Claim7 := { stood := { row := tagFramesUptoRow, standIns := [], harness := (true, "abaa9b2292c6f271d9bca09a136617f792cce10e4714c1adc7656b55d9be4e81"), looks := false }, kinds := [], alts := [], laidByText := true, laidKinds := [.data], laidTests := true, laidLooks := .later }
def TagFramesUptoCardSaid : Prop := Claim7.holds Tryd.pinned (.plain (OpenSpec.upto tagFramesSpec)) tagFramesUptoCard

/-- THE SECOND FORM's CARD OF 'incognitolaw05.TagParts'. -/
def tagPartsUptoCard : Claim7 := { stood := { row := tagPartsUptoRow, standIns := [], harness := (true, "abaa9b2292c6f271d9bca09a136617f792cce10e4714c1adc7656b55d9be4e81"), looks := false }, kinds := [], alts := [], laidByText := true, laidKinds := [.data], laidTests := true, laidLooks := .later }
def TagPartsUptoCardSaid : Prop := Claim7.holds Tryd.pinned (.plain (OpenSpec.upto tagPartsSpec)) tagPartsUptoCard

/-- THE SECOND FORM's CARD OF 'incognitolaw05.TagOf'. -/
def tagOfUptoCard : Claim7 := { stood := { row := tagOfUptoRow, standIns := [], harness := (true, "abaa9b2292c6f271d9bca09a136617f792cce10e4714c1adc7656b55d9be4e81"), looks := false }, kinds := [], alts := [], laidByText := true, laidKinds := [.data], laidTests := true, laidLooks := .later }
def TagOfUptoCardSaid : Prop := Claim7.holds Tryd.pinned (.plain (OpenSpec.upto tagOfSpec)) tagOfUptoCard

/-- THE SECOND FORM's CARD OF 'incognitolaw05.TagBegins'. -/
def tagBeginsUptoCard : Claim7 := { stood := { row := tagBeginsUptoRow, standIns := [], harness := (true, "abaa9b2292c6f271d9bca09a136617f792cce10e4714c1adc7656b55d9be4e81"), looks := false }, kinds := [], alts := [], laidByText := true, laidKinds := [.data], laidTests := true, laidLooks := .later }
def TagBeginsUptoCardSaid : Prop := Claim7.holds Tryd.pinned (.plain (OpenSpec.upto tagBeginsSpec)) tagBeginsUptoCard

/-- THE SECOND FORM's CARD OF 'incognitolaw05.TagApart'. -/
def tagApartUptoCard : Claim7 := { stood := { row := tagApartUptoRow, standIns := [], harness := (true, "abaa9b2292c6f271d9bca09a136617f792cce10e4714c1adc7656b55d9be4e81"), looks := false }, kinds := [], alts := [], laidByText := true, laidKinds := [.data], laidTests := true, laidLooks := .later }
def TagApartUptoCardSaid : Prop := Claim7.holds Tryd.pinned (.plain (OpenSpec.upto tagApartSpec)) tagApartUptoCard
end Rows
end Go.Proofs.YtilfmemfnheppaaDoor
