/-
  No cell of these rows narrows 'for every input' (looked for: loops, veiled, ifaces, maps, wideKeys, modest, calm, conditions, laid).
  DERIVED. THE GIVEN ROWS OF THIS SEAT. 4 by the template 'for every input the law returns true; each argument reads behind the call as it read before'; 0 by the template 'total and deterministic' (their statements: YtnloljloddeldaaTotals.lean).
  GIVEN WITH THE SEED: the statements are not yours to turn. If you find one false, say at which input.
  Laid BY PROGRAM, IN A SANDBOX (cutbox-rows.mjs): the forced cells as the released guide's own fill.sh prints them over the translation cbc358dd9c28f5e1… (all of the seat's roots in one cut). By AI agents, Wed Nov 11 2026. No macro, syntax, notation, axiom, sorry.
-/
import Derived.Test.YtnloljloddeldaaChecked
import GoSem.Claim
import GoSem.ClaimJoined
import GoSem.ClaimMapViews
import Derived.JoinedTies
import Derived.KernelRfl
namespace Go.Proofs.Ytnloljloddeldaa
/- THE CELL 'sum', in the pinned program and in every row, IS THE sha256 OF THE DUMP (.gsa) THAT YtnloljloddeldaaProg.lean LOADS. Nothing in Lean hashes anything: it is a label: what it is worth is what the hold of that sum in a sandbox is worth. -/
noncomputable def Try.pinned : Pinned := { name := "ytnloljloddeldaa", sum := "cbc358dd9c28f5e141d3e84cf0ccf06d3ec290d892c3b1f4dcdee3d9fb22a4e3", checked := Try.checked }
namespace Rows
def none {H : Type} : Left H := { results := [], args := [] }

/-- 'incognitolaw02.PrimeIs': WHATEVER THE INPUT: true; the input reads as it did. -/
def primeIsSpec : ChangeSpec := { name := "primeIs", fn := fun _ => fun
  | [d] => { results := [.lit (.bool true)], args := [d] }
  | _ => none }
def primeIsRow : OpenClaim := { program := "ytnloljloddeldaa", sum := "cbc358dd9c28f5e141d3e84cf0ccf06d3ec290d892c3b1f4dcdee3d9fb22a4e3", func := "incognito/incognitolaw02.PrimeIs", spec := "primeIs", unfollowed := true, recurses := true, apart := false }
def PrimeIsSaid : Prop := primeIsRow.holds Try.pinned (OpenSpec.ofChange primeIsSpec)

/-- ITS FALSE NEIGHBOUR: 'it returns false'. Refute it at one input. -/
def primeIsWrong : ChangeSpec := { name := "primeIs", fn := fun _ => fun
  | [d] => { results := [.lit (.bool false)], args := [d] }
  | _ => none }
def PrimeIsWrongFalsely : Prop := primeIsRow.holds Try.pinned (OpenSpec.ofChange primeIsWrong)

/-- 'incognitolaw02.PrimeNth': WHATEVER THE INPUT: true; the input reads as it did. -/
def primeNthSpec : ChangeSpec := { name := "primeNth", fn := fun _ => fun
  | [d] => { results := [.lit (.bool true)], args := [d] }
  | _ => none }
def primeNthRow : OpenClaim := { program := "ytnloljloddeldaa", sum := "cbc358dd9c28f5e141d3e84cf0ccf06d3ec290d892c3b1f4dcdee3d9fb22a4e3", func := "incognito/incognitolaw02.PrimeNth", spec := "primeNth", unfollowed := true, recurses := true, apart := false }
def PrimeNthSaid : Prop := primeNthRow.holds Try.pinned (OpenSpec.ofChange primeNthSpec)

/-- ITS FALSE NEIGHBOUR: 'it returns false'. Refute it at one input. -/
def primeNthWrong : ChangeSpec := { name := "primeNth", fn := fun _ => fun
  | [d] => { results := [.lit (.bool false)], args := [d] }
  | _ => none }
def PrimeNthWrongFalsely : Prop := primeNthRow.holds Try.pinned (OpenSpec.ofChange primeNthWrong)

/-- 'incognitolaw02.PrimeRoots': WHATEVER THE INPUT: true; the input reads as it did. -/
def primeRootsSpec : ChangeSpec := { name := "primeRoots", fn := fun _ => fun
  | [d1, d2] => { results := [.lit (.bool true)], args := [d1, d2] }
  | _ => none }
def primeRootsRow : OpenClaim := { program := "ytnloljloddeldaa", sum := "cbc358dd9c28f5e141d3e84cf0ccf06d3ec290d892c3b1f4dcdee3d9fb22a4e3", func := "incognito/incognitolaw02.PrimeRoots", spec := "primeRoots", unfollowed := true, recurses := true, apart := false }
def PrimeRootsSaid : Prop := primeRootsRow.holds Try.pinned (OpenSpec.ofChange primeRootsSpec)

/-- ITS FALSE NEIGHBOUR: 'it returns false'. Refute it at one input. -/
def primeRootsWrong : ChangeSpec := { name := "primeRoots", fn := fun _ => fun
  | [d1, d2] => { results := [.lit (.bool false)], args := [d1, d2] }
  | _ => none }
def PrimeRootsWrongFalsely : Prop := primeRootsRow.holds Try.pinned (OpenSpec.ofChange primeRootsWrong)

/-- 'incognitolaw02.PrimeSquares': WHATEVER THE INPUT: true; the input reads as it did. -/
def primeSquaresSpec : ChangeSpec := { name := "primeSquares", fn := fun _ => fun
  | [d] => { results := [.lit (.bool true)], args := [d] }
  | _ => none }
def primeSquaresRow : OpenClaim := { program := "ytnloljloddeldaa", sum := "cbc358dd9c28f5e141d3e84cf0ccf06d3ec290d892c3b1f4dcdee3d9fb22a4e3", func := "incognito/incognitolaw02.PrimeSquares", spec := "primeSquares", unfollowed := true, recurses := true, apart := false }
def PrimeSquaresSaid : Prop := primeSquaresRow.holds Try.pinned (OpenSpec.ofChange primeSquaresSpec)

/-- ITS FALSE NEIGHBOUR: 'it returns false'. Refute it at one input. -/
def primeSquaresWrong : ChangeSpec := { name := "primeSquares", fn := fun _ => fun
  | [d] => { results := [.lit (.bool false)], args := [d] }
  | _ => none }
def PrimeSquaresWrongFalsely : Prop := primeSquaresRow.holds Try.pinned (OpenSpec.ofChange primeSquaresWrong)

/- THE SECOND FORM. 'bulk': how many values and letters a reading holds, each counted each time it is reached (what is shared counts as often as it is met; a slice's spare places count too). A statement '..UptoSaid' is the law's where the arguments, and the package variables that the reading takes, are together of bulk at most 1048576: NARROWER than '..Said'. Prove '..Said' where nothing that the law and all that it calls make is longer than what came in: it says more and counts as full. Else prove '..UptoSaid'. A law counts once. -/
mutual
def uptoBulk {H : Type} : DataW H → Nat
  | .lit (.string bytes) => bytes.length + 1
  | .lit _ => 1
  | .nil => 1
  | .ptr d => uptoBulk d + 1
  | .slice elems spare => uptoBulkAll elems + uptoBulkAll spare + 1
  | .agg parts => uptoBulkAll parts + 1
  | .iface _ d => uptoBulk d + 1
  | .map entries => uptoBulkEntries entries + 1
  | .held _ => 1
def uptoBulkAll {H : Type} : List (DataW H) → Nat
  | [] => 0
  | d :: r => uptoBulk d + uptoBulkAll r
def uptoBulkEntries {H : Type} : List (Lit × DataW H) → Nat
  | [] => 0
  | x :: r => uptoBulkEntry x + uptoBulkEntries r
def uptoBulkEntry {H : Type} : Lit × DataW H → Nat
  | (.string bytes, d) => bytes.length + uptoBulk d + 1
  | (_, d) => uptoBulk d + 1
 end
def uptoSmall : (H : Type) → List (DataW H) → Bool := fun _ ds => decide (uptoBulkAll ds ≤ 1048576)
def OpenSpec.upto (s : _root_.Go.ChangeSpec) : _root_.Go.OpenSpec := { _root_.Go.OpenSpec.ofChange s with cond := some uptoSmall }

/-- 'incognitolaw02.PrimeIs', WHERE WHAT IT READS IS OF BULK AT MOST 1048576: true; the input reads as it did. -/
def primeIsUptoRow : OpenClaim := { program := "ytnloljloddeldaa", sum := "cbc358dd9c28f5e141d3e84cf0ccf06d3ec290d892c3b1f4dcdee3d9fb22a4e3", func := "incognito/incognitolaw02.PrimeIs", spec := "primeIs", unfollowed := true, recurses := true, apart := false, narrowed := true }
def PrimeIsUptoSaid : Prop := primeIsUptoRow.holds Try.pinned (OpenSpec.upto primeIsSpec)

/-- 'incognitolaw02.PrimeNth', WHERE WHAT IT READS IS OF BULK AT MOST 1048576: true; the input reads as it did. -/
def primeNthUptoRow : OpenClaim := { program := "ytnloljloddeldaa", sum := "cbc358dd9c28f5e141d3e84cf0ccf06d3ec290d892c3b1f4dcdee3d9fb22a4e3", func := "incognito/incognitolaw02.PrimeNth", spec := "primeNth", unfollowed := true, recurses := true, apart := false, narrowed := true }
def PrimeNthUptoSaid : Prop := primeNthUptoRow.holds Try.pinned (OpenSpec.upto primeNthSpec)

/-- 'incognitolaw02.PrimeRoots', WHERE WHAT IT READS IS OF BULK AT MOST 1048576: true; the input reads as it did. -/
def primeRootsUptoRow : OpenClaim := { program := "ytnloljloddeldaa", sum := "cbc358dd9c28f5e141d3e84cf0ccf06d3ec290d892c3b1f4dcdee3d9fb22a4e3", func := "incognito/incognitolaw02.PrimeRoots", spec := "primeRoots", unfollowed := true, recurses := true, apart := false, narrowed := true }
def PrimeRootsUptoSaid : Prop := primeRootsUptoRow.holds Try.pinned (OpenSpec.upto primeRootsSpec)

/-- 'incognitolaw02.PrimeSquares', WHERE WHAT IT READS IS OF BULK AT MOST 1048576: true; the input reads as it did. -/
def primeSquaresUptoRow : OpenClaim := { program := "ytnloljloddeldaa", sum := "cbc358dd9c28f5e141d3e84cf0ccf06d3ec290d892c3b1f4dcdee3d9fb22a4e3", func := "incognito/incognitolaw02.PrimeSquares", spec := "primeSquares", unfollowed := true, recurses := true, apart := false, narrowed := true }
def PrimeSquaresUptoSaid : Prop := primeSquaresUptoRow.holds Try.pinned (OpenSpec.upto primeSquaresSpec)

end Rows
end Go.Proofs.Ytnloljloddeldaa
