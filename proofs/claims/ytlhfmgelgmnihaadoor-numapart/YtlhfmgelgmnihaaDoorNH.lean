/- The contract of wakes: the document's examples hold, whatever lies in memory. No conditions. -/
import Derived.Test.YtlhfmgelgmnihaaDoorNG
namespace Go.Proofs.YtlhfmgelgmnihaaDoor
open Go.RowKit Go.PlainAid
set_option linter.unusedVariables false

theorem ex1 : sgnR ⟨#[45, 48]⟩ = (0, 2) := by decide +kernel
theorem ex2 : sgnR ⟨#[57, 50, 50, 51, 51, 55, 50, 48, 51, 54, 56, 53, 52, 55, 55, 53, 56, 48, 56]⟩ = (0, 3) := by decide +kernel
theorem ex3 : cntR ⟨#[45, 53]⟩ 9 = (0, 2) := by decide +kernel

set_option maxHeartbeats 800000 in
theorem wakes_any (w : World) : Calls Tryd.prog 6 #[] w fun e w' => e = .returned (.bool true) ∧ Below w.heap.size w w' := by
  have h1 := parse_any ⟨#[45, 48]⟩
  have h2 := parse_any ⟨#[57, 50, 50, 51, 51, 55, 50, 48, 51, 54, 56, 53, 52, 55, 55, 53, 56, 48, 56]⟩
  have h3 := count_any ⟨#[45, 53]⟩ 9
  rw [ex1] at h1
  rw [ex2] at h2
  rw [ex3] at h3
  go_enter Tryd.func6, Tryd.ntmps6
  go_wp2_with fail
  refine (h1 _ (by decide)).mono ?_
  rintro e w1 ⟨rfl, hb1⟩
  go_wp2_with fail
  refine (h2 _ (by decide)).mono ?_
  rintro e w2 ⟨rfl, hb2⟩
  go_wp2_with fail
  refine (h3 _ (by decide) (by decide) (by decide)).mono ?_
  rintro e w3 ⟨rfl, hb3⟩
  go_wp2
  go_ret
  exact ⟨rfl, below_next (below_next hb1 hb2) hb3⟩
end Go.Proofs.YtlhfmgelgmnihaaDoor
