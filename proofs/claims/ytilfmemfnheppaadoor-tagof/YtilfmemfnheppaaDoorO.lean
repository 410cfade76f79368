/- That the document's examples hold. Conditions: the table holds the rounds' numbers. -/
import Derived.Test.YtilfmemfnheppaaDoorM
import Derived.Lib.SlBytesConst
namespace Go.Proofs.YtilfmemfnheppaaDoor
open Go.RowKit Hx
set_option linter.unusedVariables false

theorem sl_lit (w : World) (xs : List Int) (hx : ∀ x ∈ xs, 0 ≤ x ∧ x ≤ 255) (hl : xs.length ≤ 100) (fr : Nat × Nat) : Sl (w.alloc (.cells (cells8 xs).toArray 5 fr)) (.slice (some ⟨w.heap.size, 0, none⟩) xs.length xs.length) xs := by
  refine ⟨_, _, rfl, hx, by omega, Nat.le_refl _, fun h => ⟨w.heap.size, 0, rfl, by simp, fun i hi => ?_⟩⟩
  rw [cell_of_row _ w.heap.size (0 + i) (cells8 xs).toArray 5 fr (heap_alloc_new w _), Nat.zero_add]
  simpa using cells8_at xs i hi

/-- one part, newly laid -/
theorem psl_one {w : World} {u : Value} {xs : List Int} (h : Sl w u xs) (o : Obj) (ho : ∃ T, o = .cells #[u] T) : PSl (w.alloc o) (.slice (some ⟨w.heap.size, 0, none⟩) 1 1) [xs] := by
  obtain ⟨T, rfl⟩ := ho
  refine ⟨some ⟨w.heap.size, 0, none⟩, 1, rfl, by simp, by simp, fun _ => ⟨w.heap.size, 0, rfl, by simp, fun i hi => ?_⟩⟩
  have hi0 : i = 0 := by simpa using hi
  subst hi0
  refine ⟨u, by simp, ?_⟩
  exact h.later ((Below.refl _ _).alloc (Nat.le_refl _) _)
end Go.Proofs.YtilfmemfnheppaaDoor
