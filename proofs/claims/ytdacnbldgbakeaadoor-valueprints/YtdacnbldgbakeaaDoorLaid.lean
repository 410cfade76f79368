/- That the library's table holds the powers of ten, out of what a row says of it; the start that meets it. No conditions. -/
import Derived.Test.YtdacnbldgbakeaaDoorVR
import Derived.ProofKit
import Derived.LaidMore
import Derived.OpenShut
import Derived.Stop.Joined
import Derived.Stop.LaidErr
namespace Go.Proofs.YtdacnbldgbakeaaDoor
open Go.RowKit
set_option linter.unusedVariables false

theorem ownT : ownKnob Tryd.prog.godebug = none := by kernel_rfl
theorem laidOutT : laidOutB Tryd.prog = true := by kernel_rfl
theorem gPow : Tryd.prog.globalNamed "internal/strconv.uint64pow10" = some 0 := by kernel_rfl
theorem tPow : (Tryd.prog.globals[0]?).map (·.type) = some 60 := by kernel_rfl
theorem cellsOne : Tryd.prog.cellsOf 49 = 1 := by kernel_rfl
theorem cellsAll : Tryd.prog.cellsOf 60 = 20 := by kernel_rfl
/-- what the rows list -/
def laid1 : List (String × DataW Unit) := [("math/bits.deBruijn32tab", Rows.laid_math_bits_deBruijn32tab), ("math/bits.deBruijn64tab", Rows.laid_math_bits_deBruijn64tab), ("internal/strconv.uint64pow10", Rows.laid_internal_strconv_uint64pow10)]
theorem laid1_eq : laid1 = [("math/bits.deBruijn32tab", Rows.laid_math_bits_deBruijn32tab), ("math/bits.deBruijn64tab", Rows.laid_math_bits_deBruijn64tab), ("internal/strconv.uint64pow10", Lib.tabData .u64 Lib.pow10Tab)] := rfl

/-- the door's own heap meets it -/
theorem door_met (os : Os) (args : Array Value) : laidMetH Tryd.prog laid1 ((World.doorLaid Tryd.prog 35 os).forCall (fun _ _ => 0) ⟨#[], args, []⟩).memory :=
  laidMetH_of_parts3 (fuel := 8) (laidMet_of_run' 8 (by kernel_rfl) (by kernel_rfl)) (by kernel_rfl) (by kernel_rfl)

theorem kt_of_laid {W : World} (h : laidMetH Tryd.prog laid1 W) : Pt W := by
  rw [MakeChecks.laidMetH_plain _ _ _ (by kernel_rfl), laid1_eq] at h
  exact Lib.tabIs_of_head gPow tPow Tryd.underlying60 Tryd.underlying49 cellsOne cellsAll h.tail.tail
end Go.Proofs.YtdacnbldgbakeaaDoor
