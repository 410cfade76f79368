/-
  NARROWER THAN 'FOR EVERY INPUT', by the rows' own cells (each row's printed sentence says how): HoldPlays: laid · HoldOuts: laid · HoldOne: laid · HoldSums: laid.
  DERIVED. THE GIVEN ROWS OF THIS SEAT. 4 by the template 'for every input the law returns true; each argument reads behind the call as it read before'; 0 by the template 'total and deterministic' (their statements: YtpboleifllcehaaDoorTotals.lean).
  GIVEN WITH THE SEED: the statements are not yours to turn. If you find one false, say at which input.
  Laid BY PROGRAM, IN A SANDBOX (cutbox-rows.mjs): the forced cells as the released guide's own fill.sh prints them over the translation 177ed9fbed91d901… (all of the seat's roots in one cut). By AI agents, Wed Nov 11 2026. No macro, syntax, notation, axiom, sorry.
-/
import Derived.Test.YtpboleifllcehaaDoorChecked
import GoSem.Claim
import GoSem.ClaimJoined
import GoSem.ClaimMapViews
import Derived.JoinedTies
import Derived.KernelRfl
namespace Go.Proofs.YtpboleifllcehaaDoor
/- THE CELL 'sum', in the pinned program and in every row, IS THE sha256 OF THE DUMP (.gsa) THAT YtpboleifllcehaaDoorProg.lean LOADS. Nothing in Lean hashes anything: it is a label: what it is worth is what the hold of that sum in a sandbox is worth. -/
noncomputable def Tryd.pinned : Pinned := { name := "ytpboleifllcehaadoor", sum := "177ed9fbed91d901f896d28da4e147bc1000586bb14294bd32dd9825ab87a699", checked := Tryd.checked }
namespace Rows
def none {H : Type} : Left H := { results := [], args := [] }

/- WHAT THE LISTED PACKAGE-LEVEL VARIABLES READ AS WHEN THE CALL BEGINS. Each datum BY PROGRAM (the guide's laid-datum.mjs) off the statement by which the dump's own 'gosem.cut.vars' lays the variable. In a bare row this is a premise. The card (YtpboleifllcehaaDoorCards.lean) ties it to the program's text. -/
def laid_incognito_sign_signs {H : Type} : DataW H := .agg [.agg [.lit (.int .i64 1), .lit (.int .i64 1), .slice [.lit (.int .i64 2)] [], .nil, .lit (.int .i64 0)], .agg [.lit (.int .i64 1), .lit (.int .i64 2), .nil, .slice [.lit (.int .i64 2)] [], .lit (.int .i64 1)], .agg [.lit (.int .i64 2), .lit (.int .i64 1), .slice [.lit (.int .i64 2)] [], .nil, .lit (.int .i64 0)], .agg [.lit (.int .i64 2), .lit (.int .i64 2), .nil, .slice [.lit (.int .i64 2)] [], .lit (.int .i64 1)], .agg [.lit (.int .i64 2), .lit (.int .i64 3), .slice [.lit (.int .i64 2), .lit (.int .i64 2)] [], .slice [.lit (.int .i64 6)] [], .lit (.int .i64 0)], .agg [.lit (.int .i64 3), .lit (.int .i64 4), .slice [.lit (.int .i64 2)] [], .nil, .lit (.int .i64 0)], .agg [.lit (.int .i64 3), .lit (.int .i64 5), .slice [.lit (.int .i64 2)] [], .nil, .lit (.int .i64 0)], .agg [.lit (.int .i64 3), .lit (.int .i64 6), .slice [.lit (.int .i64 2)] [], .slice [.lit (.int .i64 6)] [], .lit (.int .i64 0)], .agg [.lit (.int .i64 4), .lit (.int .i64 7), .slice [.lit (.int .i64 3), .lit (.int .i64 2)] [], .nil, .lit (.int .i64 0)], .agg [.lit (.int .i64 4), .lit (.int .i64 8), .slice [.lit (.int .i64 3)] [], .slice [.lit (.int .i64 2)] [], .lit (.int .i64 1)], .agg [.lit (.int .i64 4), .lit (.int .i64 5), .slice [.lit (.int .i64 3)] [], .nil, .lit (.int .i64 0)], .agg [.lit (.int .i64 5), .lit (.int .i64 9), .slice [.lit (.int .i64 2)] [], .nil, .lit (.int .i64 0)], .agg [.lit (.int .i64 5), .lit (.int .i64 10), .nil, .slice [.lit (.int .i64 2)] [], .lit (.int .i64 1)], .agg [.lit (.int .i64 6), .lit (.int .i64 9), .slice [.lit (.int .i64 2)] [], .nil, .lit (.int .i64 0)], .agg [.lit (.int .i64 6), .lit (.int .i64 10), .nil, .slice [.lit (.int .i64 2)] [], .lit (.int .i64 1)], .agg [.lit (.int .i64 7), .lit (.int .i64 11), .nil, .slice [.lit (.int .i64 6)] [], .lit (.int .i64 0)], .agg [.lit (.int .i64 7), .lit (.int .i64 12), .nil, .slice [.lit (.int .i64 6)] [], .lit (.int .i64 0)], .agg [.lit (.int .i64 8), .lit (.int .i64 4), .slice [.lit (.int .i64 5)] [], .nil, .lit (.int .i64 0)], .agg [.lit (.int .i64 8), .lit (.int .i64 2), .nil, .slice [.lit (.int .i64 5)] [], .lit (.int .i64 0)], .agg [.lit (.int .i64 9), .lit (.int .i64 1), .slice [.lit (.int .i64 4)] [], .nil, .lit (.int .i64 0)], .agg [.lit (.int .i64 9), .lit (.int .i64 2), .nil, .slice [.lit (.int .i64 4)] [], .lit (.int .i64 1)], .agg [.lit (.int .i64 10), .lit (.int .i64 7), .slice [.lit (.int .i64 4), .lit (.int .i64 2)] [], .nil, .lit (.int .i64 0)], .agg [.lit (.int .i64 10), .lit (.int .i64 5), .slice [.lit (.int .i64 4)] [], .nil, .lit (.int .i64 0)], .agg [.lit (.int .i64 10), .lit (.int .i64 13), .slice [.lit (.int .i64 4), .lit (.int .i64 4)] [], .slice [.lit (.int .i64 4), .lit (.int .i64 2)] [], .lit (.int .i64 2)]]

/-- 'incognitolaw16.HoldPlays': WHATEVER THE INPUT: true; the input reads as it did. -/
def holdPlaysSpec : ChangeSpec := { name := "holdPlays", fn := fun _ => fun
  | [d1, d2] => { results := [.lit (.bool true)], args := [d1, d2] }
  | _ => none }
def holdPlaysRow : OpenClaim := { program := "ytpboleifllcehaadoor", sum := "177ed9fbed91d901f896d28da4e147bc1000586bb14294bd32dd9825ab87a699", func := "incognito/incognitolaw16.HoldPlays", spec := "holdPlays", named := ["incognito/sign.signs"], apart := false, laid := [("incognito/sign.signs", laid_incognito_sign_signs)] }
def HoldPlaysSaid : Prop := holdPlaysRow.holds Tryd.pinned (OpenSpec.ofChange holdPlaysSpec)

/-- ITS FALSE NEIGHBOUR: 'it returns false'. Refute it at one input. -/
def holdPlaysWrong : ChangeSpec := { name := "holdPlays", fn := fun _ => fun
  | [d1, d2] => { results := [.lit (.bool false)], args := [d1, d2] }
  | _ => none }
def HoldPlaysWrongFalsely : Prop := holdPlaysRow.holds Tryd.pinned (OpenSpec.ofChange holdPlaysWrong)

/-- 'incognitolaw16.HoldOuts': WHATEVER THE INPUT: true; the input reads as it did. -/
def holdOutsSpec : ChangeSpec := { name := "holdOuts", fn := fun _ => fun
  | [d1, d2] => { results := [.lit (.bool true)], args := [d1, d2] }
  | _ => none }
def holdOutsRow : OpenClaim := { program := "ytpboleifllcehaadoor", sum := "177ed9fbed91d901f896d28da4e147bc1000586bb14294bd32dd9825ab87a699", func := "incognito/incognitolaw16.HoldOuts", spec := "holdOuts", named := ["incognito/sign.signs"], apart := false, laid := [("incognito/sign.signs", laid_incognito_sign_signs)] }
def HoldOutsSaid : Prop := holdOutsRow.holds Tryd.pinned (OpenSpec.ofChange holdOutsSpec)

/-- ITS FALSE NEIGHBOUR: 'it returns false'. Refute it at one input. -/
def holdOutsWrong : ChangeSpec := { name := "holdOuts", fn := fun _ => fun
  | [d1, d2] => { results := [.lit (.bool false)], args := [d1, d2] }
  | _ => none }
def HoldOutsWrongFalsely : Prop := holdOutsRow.holds Tryd.pinned (OpenSpec.ofChange holdOutsWrong)

/-- 'incognitolaw16.HoldOne': WHATEVER THE INPUT: true; the input reads as it did. -/
def holdOneSpec : ChangeSpec := { name := "holdOne", fn := fun _ => fun
  | [d] => { results := [.lit (.bool true)], args := [d] }
  | _ => none }
def holdOneRow : OpenClaim := { program := "ytpboleifllcehaadoor", sum := "177ed9fbed91d901f896d28da4e147bc1000586bb14294bd32dd9825ab87a699", func := "incognito/incognitolaw16.HoldOne", spec := "holdOne", named := ["incognito/sign.signs"], apart := false, laid := [("incognito/sign.signs", laid_incognito_sign_signs)] }
def HoldOneSaid : Prop := holdOneRow.holds Tryd.pinned (OpenSpec.ofChange holdOneSpec)

/-- ITS FALSE NEIGHBOUR: 'it returns false'. Refute it at one input. -/
def holdOneWrong : ChangeSpec := { name := "holdOne", fn := fun _ => fun
  | [d] => { results := [.lit (.bool false)], args := [d] }
  | _ => none }
def HoldOneWrongFalsely : Prop := holdOneRow.holds Tryd.pinned (OpenSpec.ofChange holdOneWrong)

/-- 'incognitolaw16.HoldSums': WHATEVER THE INPUT: true; the input reads as it did. -/
def holdSumsSpec : ChangeSpec := { name := "holdSums", fn := fun _ => fun
  | [d1, d2] => { results := [.lit (.bool true)], args := [d1, d2] }
  | _ => none }
def holdSumsRow : OpenClaim := { program := "ytpboleifllcehaadoor", sum := "177ed9fbed91d901f896d28da4e147bc1000586bb14294bd32dd9825ab87a699", func := "incognito/incognitolaw16.HoldSums", spec := "holdSums", named := ["incognito/sign.signs"], apart := false, laid := [("incognito/sign.signs", laid_incognito_sign_signs)] }
def HoldSumsSaid : Prop := holdSumsRow.holds Tryd.pinned (OpenSpec.ofChange holdSumsSpec)

/-- ITS FALSE NEIGHBOUR: 'it returns false'. Refute it at one input. -/
def holdSumsWrong : ChangeSpec := { name := "holdSums", fn := fun _ => fun
  | [d1, d2] => { results := [.lit (.bool false)], args := [d1, d2] }
  | _ => none }
def HoldSumsWrongFalsely : Prop := holdSumsRow.holds Tryd.pinned (OpenSpec.ofChange holdSumsWrong)

/- THE SECOND FORM. 'bulk': how many values and letters a reading holds, each counted each time it is reached (what is shared counts as often as it is met; a slice's spare places count too). A statement '..UptoSaid' is the law's where the arguments, and the package variables that the reading takes, are together of bulk at most 1048576: NARROWER than '..Said'. Prove '..Said' where nothing that the law and all that it calls make is longer than what came in: it says more and counts as full. Else prove '..UptoSaid'. A law counts once. -/
mutual
def uptoBulk {H : Type} : DataW H → Nat
  | .lit (.string bytes) => bytes.length + 1
  | .lit _ => 1
  | .nil => 1
  | .ptr d => uptoBulk d + 1
  | .slice elems spare => uptoBulkAll elems + uptoBulkAll spare + 1
  | .agg parts => uptoBulkAll parts + 1
  | .iface _ d => uptoBulk d + 1
  | .map entries => uptoBulkEntries entries + 1
  | .held _ => 1
def uptoBulkAll {H : Type} : List (DataW H) → Nat
  | [] => 0
  | d :: r => uptoBulk d + uptoBulkAll r
def uptoBulkEntries {H : Type} : List (Lit × DataW H) → Nat
  | [] => 0
  | x :: r => uptoBulkEntry x + uptoBulkEntries r
def uptoBulkEntry {H : Type} : Lit × DataW H → Nat
  | (.string bytes, d) => bytes.length + uptoBulk d + 1
  | (_, d) => uptoBulk d + 1
 end
def uptoSmall : (H : Type) → List (DataW H) → Bool := fun _ ds => decide (uptoBulkAll ds ≤ 1048576)
def OpenSpec.upto (s : _root_.Go.ChangeSpec) : _root_.Go.OpenSpec := { _root_.Go.OpenSpec.ofChange s with cond := some uptoSmall }

/-- 'incognitolaw16.HoldPlays', WHERE WHAT IT READS IS OF BULK AT MOST 1048576: true; the input reads as it did. -/
def holdPlaysUptoRow : OpenClaim := { program := "ytpboleifllcehaadoor", sum := "177ed9fbed91d901f896d28da4e147bc1000586bb14294bd32dd9825ab87a699", func := "incognito/incognitolaw16.HoldPlays", spec := "holdPlays", named := ["incognito/sign.signs"], apart := false, laid := [("incognito/sign.signs", laid_incognito_sign_signs)], narrowed := true }
def HoldPlaysUptoSaid : Prop := holdPlaysUptoRow.holds Tryd.pinned (OpenSpec.upto holdPlaysSpec)

/-- 'incognitolaw16.HoldOuts', WHERE WHAT IT READS IS OF BULK AT MOST 1048576: true; the input reads as it did. -/
def holdOutsUptoRow : OpenClaim := { program := "ytpboleifllcehaadoor", sum := "177ed9fbed91d901f896d28da4e147bc1000586bb14294bd32dd9825ab87a699", func := "incognito/incognitolaw16.HoldOuts", spec := "holdOuts", named := ["incognito/sign.signs"], apart := false, laid := [("incognito/sign.signs", laid_incognito_sign_signs)], narrowed := true }
def HoldOutsUptoSaid : Prop := holdOutsUptoRow.holds Tryd.pinned (OpenSpec.upto holdOutsSpec)

/-- 'incognitolaw16.HoldOne', WHERE WHAT IT READS IS OF BULK AT MOST 1048576: true; the input reads as it did. -/
def holdOneUptoRow : OpenClaim := { program := "ytpboleifllcehaadoor", sum := "177ed9fbed91d901f896d28da4e147bc1000586bb14294bd32dd9825ab87a699", func := "incognito/incognitolaw16.HoldOne", spec := "holdOne", named := ["incognito/sign.signs"], apart := false, laid := [("incognito/sign.signs", laid_incognito_sign_signs)], narrowed := true }
def HoldOneUptoSaid : Prop := holdOneUptoRow.holds Tryd.pinned (OpenSpec.upto holdOneSpec)

/-- 'incognitolaw16.HoldSums', WHERE WHAT IT READS IS OF BULK AT MOST 1048576: true; the input reads as it did. -/
def holdSumsUptoRow : OpenClaim := { program := "ytpboleifllcehaadoor", sum := "177ed9fbed91d901f896d28da4e147bc1000586bb14294bd32dd9825ab87a699", func := "incognito/incognitolaw16.HoldSums", spec := "holdSums", named := ["incognito/sign.signs"], apart := false, laid := [("incognito/sign.signs", laid_incognito_sign_signs)], narrowed := true }
def HoldSumsUptoSaid : Prop := holdSumsUptoRow.holds Tryd.pinned (OpenSpec.upto holdSumsSpec)

end Rows
end Go.Proofs.YtpboleifllcehaaDoor
