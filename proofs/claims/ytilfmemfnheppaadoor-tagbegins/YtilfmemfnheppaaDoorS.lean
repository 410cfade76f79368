/- The walk of ShaTurns. Conditions: the table holds the rounds' numbers. -/
import Derived.Test.YtilfmemfnheppaaDoorLaid
import Derived.Test.YtilfmemfnheppaaDoorG
namespace Go.Proofs.YtilfmemfnheppaaDoor
open Go.RowKit Hx
set_option linter.unusedVariables false

theorem slice30a (w : World) (p : Nat) : (Instr.sliceAt 59 (.pointer (some ⟨p, 0, none⟩)) none none none).run Tryd.prog w = .ok (.slice (some ⟨p, 0, none⟩) 64 64) w := by
  rw [run_sliceAt_array_all w 59 _ Tryd.arr59, Tryd.elem59, Tryd.sizeOf5, Tryd.len59]
  simp only [Result.andThen_ok, slicedAt, Nat.mul_one]
  rfl

theorem wpOp_do {P : Program} {ops : Array Oper} {Q : Exit → Act → World → Prop} {K : Act → World → Prop} {a : Act} {w : World} {o : Oper} (i : Nat) (ho : ops[i]? = some o) (hg : o.guard = none) (h : o.wp P a w K Q) : wpOp P ops Q i K a w := by
  unfold wpOp
  rw [ho]
  show if Region.wanted o (yielded ops a.tmps) then _ else _
  rw [if_pos (by simp [Region.wanted, hg])]
  exact .inl h
/-- a new array of noughts, as an operation that comes up in a region that draws its order -/
theorem wpOp_allocR {P : Program} {ops : Array Oper} {Q : Exit → Act → World → Prop} {K : Act → World → Prop} {a : Act} {w : World} {o : Oper} (i : Nat) (ho : ops[i]? = some o) (ty : TypeId) (k : IntKind) (n : Nat)
    (hz : (P.info? ty).bind (·.zero) = some (arr k (List.replicate n 0))) (hop : o.guard = none ∧ o.op = .alloc ty)
    (hK : ∀ g w', w.heap.size ≤ g → Row w' g k (List.replicate n 0) → Below w.heap.size w w' → K (a.put o.dst (.pointer (some ⟨g, 0, none⟩))) w') : wpOp P ops Q i K a w := by
  refine wpOp_do i ho hop.1 ?_
  have hrun : (Instr.alloc ty true (.tuple #[])).run P w = .ok (.pointer (some ⟨w.heap.size, 0, none⟩)) (w.alloc (.cells (cellsK k (List.replicate n 0)).toArray ty)) := by
    cases hi : P.info? ty with
    | none => simp [hi] at hz
    | some i =>
      have hz' : i.zero = some (arr k (List.replicate n 0)) := by simpa [hi] using hz
      simp [Instr.alloc, zeroValue, typeInfo, hi, hz', newVar, newRow, arr, Value.cells]
  unfold Oper.wp
  simp only [execOp, hop.2, Sem.run_bind, hrun, Result.andThen_ok, Sem.run_pure]
  exact hK w.heap.size _ (Nat.le_refl _) ⟨ty, heap_alloc_new w _⟩ ((Below.refl _ _).alloc (Nat.le_refl _) _)
end Go.Proofs.YtilfmemfnheppaaDoor
