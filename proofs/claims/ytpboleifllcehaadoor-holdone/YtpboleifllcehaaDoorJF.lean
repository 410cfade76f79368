/- Which models are locks and counters: the contract of the statement's own. No conditions. -/
import Derived.Test.YtpboleifllcehaaDoorJE
namespace Go.Proofs.YtpboleifllcehaaDoor
open Go.RowKit Go.PlainAid Ln Go.Sort
set_option linter.unusedVariables false
set_option linter.unusedSimpArgs false

def ownH (m : Int) : Bool := m == 7 || m == 8
theorem ownH_iff (m : Int) : ownH m = true ↔ m = 7 ∨ m = 8 := by unfold ownH; simp
theorem ownH_ne {m : Int} (h : ownH m = true) : m ≠ 0 := by
  rcases (ownH_iff m).1 h with rfl | rfl <;> decide
theorem own_anyH (m : Int) (w : World) : Calls Tryd.prog 9 #[.int .i64 m] w fun e w' => e = .returned (.bool (ownH m)) ∧ Below w.heap.size w w' := by
  by_cases h5 : m = 7
  · subst h5
    rw [show ownH 7 = true by kernel_rfl]
    go_enter Tryd.func9, Tryd.ntmps9
    go_wp2
    go_ret
    exact ⟨rfl, Below.refl _ _⟩
  by_cases h6 : m = 8
  · subst h6
    rw [show ownH 8 = true by kernel_rfl]
    go_enter Tryd.func9, Tryd.ntmps9
    go_wp2
    go_ret
    exact ⟨rfl, Below.refl _ _⟩
  have e5 : (m == 7) = false := by simp [h5]
  have e6 : (m == 8) = false := by simp [h6]
  have e : ownH m = false := by unfold ownH; rw [e5, e6]; rfl
  rw [e]
  go_enter Tryd.func9, Tryd.ntmps9
  go_wp2
  go_ret
  exact ⟨rfl, Below.refl _ _⟩
/-- what is added is handed in -/
def OkH (d : Dd) : Prop := d.o = 4 → 0 < d.a.length
end Go.Proofs.YtpboleifllcehaaDoor
