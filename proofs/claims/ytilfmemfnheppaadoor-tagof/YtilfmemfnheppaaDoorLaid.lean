/- That the program's table holds the rounds' numbers, out of what a row says of it; the start that meets it. No conditions. -/
import Derived.Test.YtilfmemfnheppaaDoorO
import Derived.ProofKit
import Derived.LaidMore
import Derived.OpenShut
import Derived.Stop.Joined
namespace Go.Proofs.YtilfmemfnheppaaDoor
open Go.RowKit Hx
set_option linter.unusedVariables false

theorem ownT : ownKnob Tryd.prog.godebug = none := by kernel_rfl
theorem laidOutT : laidOutB Tryd.prog = true := by kernel_rfl
theorem gRounds : Tryd.prog.globalNamed "incognito/sha.rounds" = some 0 := by kernel_rfl
theorem tRounds : (Tryd.prog.globals[0]?).map (·.type) = some 79 := by kernel_rfl
theorem cells28 : Tryd.prog.cellsOf 68 = 1 := by kernel_rfl
theorem cells59 : Tryd.prog.cellsOf 79 = 64 := by kernel_rfl
/-- what the rows list -/
def laid1 : List (String × DataW Unit) := [("incognito/sha.rounds", Rows.laid_incognito_sha_rounds)]
theorem laid1_eq : laid1 = [("incognito/sha.rounds", Lib.tabData .u32 kTab)] := rfl

/-- the door's own heap meets it -/
theorem door_met (os : Os) (args : Array Value) : laidMetH Tryd.prog laid1 ((World.doorLaid Tryd.prog 25 os).forCall (fun _ _ => 0) ⟨#[], args, []⟩).memory :=
  laidMetH_of_parts3 (fuel := 8) (laidMet_of_run' 8 (by kernel_rfl) (by kernel_rfl)) (by kernel_rfl) (by kernel_rfl)

theorem kt_of_laid {W : World} (h : laidMetH Tryd.prog laid1 W) : Kt W := by
  rw [MakeChecks.laidMetH_plain _ _ _ (by kernel_rfl), laid1_eq] at h
  have hT := Lib.tabIs_of_head gRounds tRounds Tryd.underlying79 Tryd.underlying68 cells28 cells59 h
  exact fun i hi => hT.cell gRounds i hi
end Go.Proofs.YtilfmemfnheppaaDoor
