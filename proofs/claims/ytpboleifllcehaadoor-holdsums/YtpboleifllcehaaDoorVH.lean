/- The contracts of the library's own that compare numbers and texts, and of what takes the first that is not nought. No conditions. -/
import Derived.Test.YtpboleifllcehaaDoorBV
import Derived.Lib.Bytealg
import Derived.Lib.Small
namespace Go.Proofs.YtpboleifllcehaaDoor
open Go.RowKit Go.PlainAid
set_option linter.unusedVariables false

theorem ret_i {k : IntKind} {a b : Int} (h : a = b) : Ending.returned (.int k a) = .returned (.int k b) := by rw [h]

/-- the first of three that is not nought -/
def or3 (a b c : Int) : Int := if a ≠ 0 then a else if b ≠ 0 then b else c
theorem or3_a {a b c : Int} (h : a ≠ 0) : or3 a b c = a := if_pos h
theorem or3_b {a b c : Int} (h : a = 0) (k : b ≠ 0) : or3 a b c = b := by unfold or3; rw [if_neg (by omega), if_pos k]
theorem or3_c {a b c : Int} (h : a = 0) (k : b = 0) : or3 a b c = c := by unfold or3; rw [if_neg (by omega), if_neg (by omega)]

end Go.Proofs.YtpboleifllcehaaDoor
