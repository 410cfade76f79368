/- The contract of the document's Split: the lines of a text, or the number of the one that has no end. Conditions: at most 900,000 bytes. -/
import Derived.Test.YtmmlafhifnmkpaaDoorLB
namespace Go.Proofs.YtmmlafhifnmkpaaDoor
open Go.RowKit Go.PlainAid
set_option linter.unusedVariables false

/-- what the document's Split hands back of a text -/
def RSplit (w : World) (l : List UInt8) (e : Ending) (w' : World) : Prop :=
  ∃ v, Below w.heap.size w w' ∧ (((cutL 10 l).2 = [] ∧ e = .returned (.tuple #[v, .int .i64 0]) ∧ SSl w' v (cutL 10 l).1) ∨
    ((cutL 10 l).2 ≠ [] ∧ e = .returned (.tuple #[.slice none 0 0, .int .i64 (((cutL 10 l).1.length : Int) + 1)])))
theorem cutL_count (c : UInt8) (l : List UInt8) : (cutL c l).1.length ≤ l.length := by
  have h : ∀ L : List (List UInt8), L.length ≤ (flatC c L).length := by
    intro L
    induction L with
    | nil => simp [flatC_nil]
    | cons x L ih => rw [flatC_cons]; simp; omega
  have h2 := congrArg List.length (cutL_text c l)
  rw [List.length_append] at h2
  have := h (cutL c l).1
  omega

end Go.Proofs.YtmmlafhifnmkpaaDoor
