/- How large what is told of a text can be: plain mathematics. No conditions. -/
import Derived.Test.YtdhlheilgagcpaaGreatDoorHM
import Derived.Test.YtdhlheilgagcpaaGreatDoorHE
import Derived.Test.YtdhlheilgagcpaaGreatDoorEV
namespace Go.Proofs.YtdhlheilgagcpaaGreatDoor
open Go.RowKit Go.PlainAid Ln
set_option linter.unusedVariables false

theorem hR_ml {t : List UInt8} (h : t.length ≤ 900000) : ∀ x ∈ (hR t).1, MlE x := by
  rcases hR_cases t with ⟨_, e⟩ | ⟨k, _, h1, _, _, e⟩ | ⟨_, _, e⟩
  · rw [e]; intro x hx; cases hx
  · rw [e]; intro x hx; cases hx
  · rw [e]
    intro x hx
    obtain ⟨l, hl, rfl⟩ := List.mem_map.1 hx
    exact pE_len l (Nat.le_trans (line_le hl) h)
theorem hR_len (t : List UInt8) : (hR t).1.length ≤ t.length := by
  have h := cutL_count 10 t
  rcases hR_cases t with ⟨_, e⟩ | ⟨k, _, h1, _, _, e⟩ | ⟨_, _, e⟩
  · rw [e]; exact Nat.zero_le _
  · rw [e]; exact Nat.zero_le _
  · rw [e]; show (evs _).length ≤ _; rw [evs_len]; exact h
end Go.Proofs.YtdhlheilgagcpaaGreatDoor
