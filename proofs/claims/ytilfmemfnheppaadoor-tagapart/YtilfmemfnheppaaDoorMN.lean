/- The walk of MacParts. Conditions: the table holds the rounds' numbers. -/
import Derived.Test.YtilfmemfnheppaaDoorML
namespace Go.Proofs.YtilfmemfnheppaaDoor
open Go.RowKit Hx
set_option linter.unusedVariables false

theorem few_flat {ps : List (List Int)} (h : Few ps) : ∀ k, k ≤ ps.length → ((ps.take k).flatten).length ≤ 200 * k := by
  intro k
  induction k with
  | zero => intro _; simp
  | succ k ih =>
    intro hk
    rw [flat_next ps k (by omega), List.length_append]
    have := ih (by omega)
    have := h.2 k (by omega)
    omega
theorem few_all {ps : List (List Int)} (h : Few ps) : ps.flatten.length ≤ 4000 := by
  have := few_flat h ps.length (Nat.le_refl _)
  rw [List.take_length] at this
  have := h.1
  omega
theorem psn_by {w : World} {v : Value} {ps : List (List Int)} (h : PSn w v ps) : By ps.flatten := by
  intro x hx
  obtain ⟨p, hp, hxp⟩ := List.mem_flatten.1 hx
  obtain ⟨i, hi', rfl⟩ := List.getElem_of_mem hp
  obtain ⟨a, c, hv, _, _, hr⟩ := h
  obtain ⟨b, off, rfl, hb, hc⟩ := hr (by omega)
  obtain ⟨u, _, ⟨_, _, _, h2, _⟩, _⟩ := hc i hi'
  rw [part_eq ps i hi'] at h2
  exact h2 x hxp
end Go.Proofs.YtilfmemfnheppaaDoor
