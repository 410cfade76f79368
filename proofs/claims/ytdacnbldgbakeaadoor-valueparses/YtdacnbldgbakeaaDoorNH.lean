/- The contract of wakes: the document's examples hold, whatever lies in memory. No conditions. -/
import Derived.Test.YtdacnbldgbakeaaDoorNG
namespace Go.Proofs.YtdacnbldgbakeaaDoor
open Go.RowKit Go.PlainAid
set_option linter.unusedVariables false

theorem ex1 : sgnR ⟨#[45, 48]⟩ = (0, 2) := by decide +kernel
theorem ex2 : sgnR ⟨#[57, 50, 50, 51, 51, 55, 50, 48, 51, 54, 56, 53, 52, 55, 55, 53, 56, 48, 56]⟩ = (0, 3) := by decide +kernel
theorem ex3 : cntR ⟨#[45, 53]⟩ 9 = (0, 2) := by decide +kernel

end Go.Proofs.YtdacnbldgbakeaaDoor
