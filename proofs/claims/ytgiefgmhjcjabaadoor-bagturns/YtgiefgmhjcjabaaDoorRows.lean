/-
  NARROWER THAN 'FOR EVERY INPUT', by the rows' own cells (each row's printed sentence says how): BagPlays: laid · BagOuts: laid · BagTurns: laid.
  DERIVED. THE GIVEN ROWS OF THIS SEAT. 3 by the template 'for every input the law returns true; each argument reads behind the call as it read before'; 0 by the template 'total and deterministic' (their statements: YtgiefgmhjcjabaaDoorTotals.lean).
  GIVEN WITH THE SEED: the statements are not yours to turn. If you find one false, say at which input.
  Laid BY PROGRAM, IN A SANDBOX (cutbox-rows.mjs): the forced cells as the released guide's own fill.sh prints them over the translation 4d033604af89e5f5… (all of the seat's roots in one cut). By AI agents, Wed Nov 11 2026. No macro, syntax, notation, axiom, sorry.
-/
import Derived.Test.YtgiefgmhjcjabaaDoorChecked
import GoSem.Claim
import GoSem.ClaimJoined
import GoSem.ClaimMapViews
import Derived.JoinedTies
import Derived.KernelRfl
namespace Go.Proofs.YtgiefgmhjcjabaaDoor
/- THE CELL 'sum', in the pinned program and in every row, IS THE sha256 OF THE DUMP (.gsa) THAT YtgiefgmhjcjabaaDoorProg.lean LOADS. Nothing in Lean hashes anything: it is a label: what it is worth is what the hold of that sum in a sandbox is worth. -/
noncomputable def Tryd.pinned : Pinned := { name := "ytgiefgmhjcjabaadoor", sum := "4d033604af89e5f5e9a1efdb7e1fe37f65106661b7b104400b48060573e86dce", checked := Tryd.checked }
namespace Rows
def none {H : Type} : Left H := { results := [], args := [] }

/- WHAT THE LISTED PACKAGE-LEVEL VARIABLES READ AS WHEN THE CALL BEGINS. Each datum BY PROGRAM (the guide's laid-datum.mjs) off the statement by which the dump's own 'gosem.cut.vars' lays the variable. In a bare row this is a premise. The card (YtgiefgmhjcjabaaDoorCards.lean) ties it to the program's text. -/
def laid_incognito_sign_signs {H : Type} : DataW H := .agg [.agg [.lit (.int .i64 1), .lit (.int .i64 1), .slice [.lit (.int .i64 2)] [], .nil, .lit (.int .i64 0)], .agg [.lit (.int .i64 1), .lit (.int .i64 2), .nil, .slice [.lit (.int .i64 2)] [], .lit (.int .i64 1)], .agg [.lit (.int .i64 2), .lit (.int .i64 1), .slice [.lit (.int .i64 2)] [], .nil, .lit (.int .i64 0)], .agg [.lit (.int .i64 2), .lit (.int .i64 2), .nil, .slice [.lit (.int .i64 2)] [], .lit (.int .i64 1)], .agg [.lit (.int .i64 2), .lit (.int .i64 3), .slice [.lit (.int .i64 2), .lit (.int .i64 2)] [], .slice [.lit (.int .i64 6)] [], .lit (.int .i64 0)], .agg [.lit (.int .i64 3), .lit (.int .i64 4), .slice [.lit (.int .i64 2)] [], .nil, .lit (.int .i64 0)], .agg [.lit (.int .i64 3), .lit (.int .i64 5), .slice [.lit (.int .i64 2)] [], .nil, .lit (.int .i64 0)], .agg [.lit (.int .i64 3), .lit (.int .i64 6), .slice [.lit (.int .i64 2)] [], .slice [.lit (.int .i64 6)] [], .lit (.int .i64 0)], .agg [.lit (.int .i64 4), .lit (.int .i64 7), .slice [.lit (.int .i64 3), .lit (.int .i64 2)] [], .nil, .lit (.int .i64 0)], .agg [.lit (.int .i64 4), .lit (.int .i64 8), .slice [.lit (.int .i64 3)] [], .slice [.lit (.int .i64 2)] [], .lit (.int .i64 1)], .agg [.lit (.int .i64 4), .lit (.int .i64 5), .slice [.lit (.int .i64 3)] [], .nil, .lit (.int .i64 0)], .agg [.lit (.int .i64 5), .lit (.int .i64 9), .slice [.lit (.int .i64 2)] [], .nil, .lit (.int .i64 0)], .agg [.lit (.int .i64 5), .lit (.int .i64 10), .nil, .slice [.lit (.int .i64 2)] [], .lit (.int .i64 1)], .agg [.lit (.int .i64 6), .lit (.int .i64 9), .slice [.lit (.int .i64 2)] [], .nil, .lit (.int .i64 0)], .agg [.lit (.int .i64 6), .lit (.int .i64 10), .nil, .slice [.lit (.int .i64 2)] [], .lit (.int .i64 1)], .agg [.lit (.int .i64 7), .lit (.int .i64 11), .nil, .slice [.lit (.int .i64 6)] [], .lit (.int .i64 0)], .agg [.lit (.int .i64 7), .lit (.int .i64 12), .nil, .slice [.lit (.int .i64 6)] [], .lit (.int .i64 0)], .agg [.lit (.int .i64 8), .lit (.int .i64 4), .slice [.lit (.int .i64 5)] [], .nil, .lit (.int .i64 0)], .agg [.lit (.int .i64 8), .lit (.int .i64 2), .nil, .slice [.lit (.int .i64 5)] [], .lit (.int .i64 0)], .agg [.lit (.int .i64 9), .lit (.int .i64 1), .slice [.lit (.int .i64 4)] [], .nil, .lit (.int .i64 0)], .agg [.lit (.int .i64 9), .lit (.int .i64 2), .nil, .slice [.lit (.int .i64 4)] [], .lit (.int .i64 1)], .agg [.lit (.int .i64 10), .lit (.int .i64 7), .slice [.lit (.int .i64 4), .lit (.int .i64 2)] [], .nil, .lit (.int .i64 0)], .agg [.lit (.int .i64 10), .lit (.int .i64 5), .slice [.lit (.int .i64 4)] [], .nil, .lit (.int .i64 0)], .agg [.lit (.int .i64 10), .lit (.int .i64 13), .slice [.lit (.int .i64 4), .lit (.int .i64 4)] [], .slice [.lit (.int .i64 4), .lit (.int .i64 2)] [], .lit (.int .i64 2)]]

/-- 'incognitolaw14.BagPlays': WHATEVER THE INPUT: true; the input reads as it did. -/
def bagPlaysSpec : ChangeSpec := { name := "bagPlays", fn := fun _ => fun
  | [d1, d2] => { results := [.lit (.bool true)], args := [d1, d2] }
  | _ => none }
def bagPlaysRow : OpenClaim := { program := "ytgiefgmhjcjabaadoor", sum := "4d033604af89e5f5e9a1efdb7e1fe37f65106661b7b104400b48060573e86dce", func := "incognito/incognitolaw14.BagPlays", spec := "bagPlays", inPlace := ["internal/bytealg.abigen_runtime_cmpstring"], unfollowed := true, recurses := true, named := ["incognito/sign.signs"], apart := false, laid := [("incognito/sign.signs", laid_incognito_sign_signs)] }
def BagPlaysSaid : Prop := bagPlaysRow.holds Tryd.pinned (OpenSpec.ofChange bagPlaysSpec)

/-- ITS FALSE NEIGHBOUR: 'it returns false'. Refute it at one input. -/
def bagPlaysWrong : ChangeSpec := { name := "bagPlays", fn := fun _ => fun
  | [d1, d2] => { results := [.lit (.bool false)], args := [d1, d2] }
  | _ => none }
def BagPlaysWrongFalsely : Prop := bagPlaysRow.holds Tryd.pinned (OpenSpec.ofChange bagPlaysWrong)

/-- 'incognitolaw14.BagOuts': WHATEVER THE INPUT: true; the input reads as it did. -/
def bagOutsSpec : ChangeSpec := { name := "bagOuts", fn := fun _ => fun
  | [d1, d2] => { results := [.lit (.bool true)], args := [d1, d2] }
  | _ => none }
def bagOutsRow : OpenClaim := { program := "ytgiefgmhjcjabaadoor", sum := "4d033604af89e5f5e9a1efdb7e1fe37f65106661b7b104400b48060573e86dce", func := "incognito/incognitolaw14.BagOuts", spec := "bagOuts", inPlace := ["internal/bytealg.abigen_runtime_cmpstring"], unfollowed := true, recurses := true, named := ["incognito/sign.signs"], apart := false, laid := [("incognito/sign.signs", laid_incognito_sign_signs)] }
def BagOutsSaid : Prop := bagOutsRow.holds Tryd.pinned (OpenSpec.ofChange bagOutsSpec)

/-- ITS FALSE NEIGHBOUR: 'it returns false'. Refute it at one input. -/
def bagOutsWrong : ChangeSpec := { name := "bagOuts", fn := fun _ => fun
  | [d1, d2] => { results := [.lit (.bool false)], args := [d1, d2] }
  | _ => none }
def BagOutsWrongFalsely : Prop := bagOutsRow.holds Tryd.pinned (OpenSpec.ofChange bagOutsWrong)

/-- 'incognitolaw14.BagTurns': WHATEVER THE INPUT: true; the input reads as it did. -/
def bagTurnsSpec : ChangeSpec := { name := "bagTurns", fn := fun _ => fun
  | [d1, d2] => { results := [.lit (.bool true)], args := [d1, d2] }
  | _ => none }
def bagTurnsRow : OpenClaim := { program := "ytgiefgmhjcjabaadoor", sum := "4d033604af89e5f5e9a1efdb7e1fe37f65106661b7b104400b48060573e86dce", func := "incognito/incognitolaw14.BagTurns", spec := "bagTurns", inPlace := ["internal/bytealg.abigen_runtime_cmpstring"], unfollowed := true, recurses := true, named := ["incognito/sign.signs"], apart := false, laid := [("incognito/sign.signs", laid_incognito_sign_signs)] }
def BagTurnsSaid : Prop := bagTurnsRow.holds Tryd.pinned (OpenSpec.ofChange bagTurnsSpec)

/-- ITS FALSE NEIGHBOUR: 'it returns false'. Refute it at one input. -/
def bagTurnsWrong : ChangeSpec := { name := "bagTurns", fn := fun _ => fun
  | [d1, d2] => { results := [.lit (.bool false)], args := [d1, d2] }
  | _ => none }
def BagTurnsWrongFalsely : Prop := bagTurnsRow.holds Tryd.pinned (OpenSpec.ofChange bagTurnsWrong)

/- THE SECOND FORM. 'bulk': how many values and letters a reading holds, each counted each time it is reached (what is shared counts as often as it is met; a slice's spare places count too). A statement '..UptoSaid' is the law's where the arguments, and the package variables that the reading takes, are together of bulk at most 1048576: NARROWER than '..Said'. Prove '..Said' where nothing that the law and all that it calls make is longer than what came in: it says more and counts as full. Else prove '..UptoSaid'. A law counts once. -/
mutual
def uptoBulk {H : Type} : DataW H → Nat
  | .lit (.string bytes) => bytes.length + 1
  | .lit _ => 1
  | .nil => 1
  | .ptr d => uptoBulk d + 1
  | .slice elems spare => uptoBulkAll elems + uptoBulkAll spare + 1
  | .agg parts => uptoBulkAll parts + 1
  | .iface _ d => uptoBulk d + 1
  | .map entries => uptoBulkEntries entries + 1
  | .held _ => 1
def uptoBulkAll {H : Type} : List (DataW H) → Nat
  | [] => 0
  | d :: r => uptoBulk d + uptoBulkAll r
def uptoBulkEntries {H : Type} : List (Lit × DataW H) → Nat
  | [] => 0
  | x :: r => uptoBulkEntry x + uptoBulkEntries r
def uptoBulkEntry {H : Type} : Lit × DataW H → Nat
  | (.string bytes, d) => bytes.length + uptoBulk d + 1
  | (_, d) => uptoBulk d + 1
 end
def uptoSmall : (H : Type) → List (DataW H) → Bool := fun _ ds => decide (uptoBulkAll ds ≤ 1048576)
def OpenSpec.upto (s : _root_.Go.ChangeSpec) : _root_.Go.OpenSpec := { _root_.Go.OpenSpec.ofChange s with cond := some uptoSmall }

/-- 'incognitolaw14.BagPlays', WHERE WHAT IT READS IS OF BULK AT MOST 1048576: true; the input reads as it did. -/
def bagPlaysUptoRow : OpenClaim := { program := "ytgiefgmhjcjabaadoor", sum := "4d033604af89e5f5e9a1efdb7e1fe37f65106661b7b104400b48060573e86dce", func := "incognito/incognitolaw14.BagPlays", spec := "bagPlays", inPlace := ["internal/bytealg.abigen_runtime_cmpstring"], unfollowed := true, recurses := true, named := ["incognito/sign.signs"], apart := false, laid := [("incognito/sign.signs", laid_incognito_sign_signs)], narrowed := true }
def BagPlaysUptoSaid : Prop := bagPlaysUptoRow.holds Tryd.pinned (OpenSpec.upto bagPlaysSpec)

/-- 'incognitolaw14.BagOuts', WHERE WHAT IT READS IS OF BULK AT MOST 1048576: true; the input reads as it did. -/
def bagOutsUptoRow : OpenClaim := { program := "ytgiefgmhjcjabaadoor", sum := "4d033604af89e5f5e9a1efdb7e1fe37f65106661b7b104400b48060573e86dce", func := "incognito/incognitolaw14.BagOuts", spec := "bagOuts", inPlace := ["internal/bytealg.abigen_runtime_cmpstring"], unfollowed := true, recurses := true, named := ["incognito/sign.signs"], apart := false, laid := [("incognito/sign.signs", laid_incognito_sign_signs)], narrowed := true }
def BagOutsUptoSaid : Prop := bagOutsUptoRow.holds Tryd.pinned (OpenSpec.upto bagOutsSpec)

/-- 'incognitolaw14.BagTurns', WHERE WHAT IT READS IS OF BULK AT MOST 1048576: true; the input reads as it did. -/
def bagTurnsUptoRow : OpenClaim := { program := "ytgiefgmhjcjabaadoor", sum := "4d033604af89e5f5e9a1efdb7e1fe37f65106661b7b104400b48060573e86dce", func := "incognito/incognitolaw14.BagTurns", spec := "bagTurns", inPlace := ["internal/bytealg.abigen_runtime_cmpstring"], unfollowed := true, recurses := true, named := ["incognito/sign.signs"], apart := false, laid := [("incognito/sign.signs", laid_incognito_sign_signs)], narrowed := true }
def BagTurnsUptoSaid : Prop := bagTurnsUptoRow.holds Tryd.pinned (OpenSpec.upto bagTurnsSpec)

end Rows
end Go.Proofs.YtgiefgmhjcjabaaDoor
