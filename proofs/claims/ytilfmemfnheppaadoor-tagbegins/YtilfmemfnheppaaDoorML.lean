/- The walk of MacSums. Conditions: the table holds the rounds' numbers. -/
import Derived.Test.YtilfmemfnheppaaDoorMJ
import Derived.Test.YtilfmemfnheppaaDoorMH
import Derived.Test.YtilfmemfnheppaaDoorU
namespace Go.Proofs.YtilfmemfnheppaaDoor
open Go.RowKit Hx
set_option linter.unusedVariables false

theorem few_two {a b : List Int} (h : Few [a, b]) : a.length ≤ 200 ∧ b.length ≤ 200 := ⟨h.2 0 (by simp), h.2 1 (by simp)⟩
theorem sl_form {w : World} {v : Value} {xs : List Int} (h : Sl w v xs) : ∃ a n c, v = .slice a n c := by obtain ⟨a, c, h, _⟩ := h; exact ⟨a, _, c, h⟩
end Go.Proofs.YtilfmemfnheppaaDoor
