/- Which models are queues and stacks: the contract of the statement's own. No conditions. -/
import Derived.Test.YthgafmhpajikdaaDoorKM
import Derived.Test.YthgafmhpajikdaaDoorGE
namespace Go.Proofs.YthgafmhpajikdaaDoor
open Go.RowKit Go.PlainAid Ln Go.Sort
set_option linter.unusedVariables false
set_option linter.unusedSimpArgs false

def ownQ (m : Int) : Bool := m == 5 || m == 6
theorem ownQ_iff (m : Int) : ownQ m = true ↔ m = 5 ∨ m = 6 := by unfold ownQ; simp
theorem ownQ_ne {m : Int} (h : ownQ m = true) : m ≠ 0 := by
  rcases (ownQ_iff m).1 h with rfl | rfl <;> decide
theorem own_anyQ (m : Int) (w : World) : Calls Tryd.prog 8 #[.int .i64 m] w fun e w' => e = .returned (.bool (ownQ m)) ∧ Below w.heap.size w w' := by
  by_cases h5 : m = 5
  · subst h5
    rw [show ownQ 5 = true by kernel_rfl]
    go_enter Tryd.func8, Tryd.ntmps8
    go_wp2
    go_ret
    exact ⟨rfl, Below.refl _ _⟩
  by_cases h6 : m = 6
  · subst h6
    rw [show ownQ 6 = true by kernel_rfl]
    go_enter Tryd.func8, Tryd.ntmps8
    go_wp2
    go_ret
    exact ⟨rfl, Below.refl _ _⟩
  have e5 : (m == 5) = false := by simp [h5]
  have e6 : (m == 6) = false := by simp [h6]
  have e : ownQ m = false := by unfold ownQ; rw [e5, e6]; rfl
  rw [e]
  go_enter Tryd.func8, Tryd.ntmps8
  go_wp2
  go_ret
  exact ⟨rfl, Below.refl _ _⟩
/-- of a queue and a stack there are two things to do -/
def OkQ (d : Dd) : Prop := (d.o = 9 ∧ d.a.length = 1) ∨ (d.o = 10 ∧ d.a.length = 0)
theorem outQ_10 {m : Int} {l : List Val} {d : Dd} (h : d.o = 10) : outQ m l d = [topQ m l] := if_pos h
theorem outQ_9 {m : Int} {l : List Val} {d : Dd} (h : d.o = 9) : outQ m l d = [] := if_neg (by omega)
end Go.Proofs.YthgafmhpajikdaaDoor
