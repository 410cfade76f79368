/- When two failures are one; a failure as it lies in memory. No conditions. -/
import Derived.Test.YtgdegbmakbfaaaaDoorLX
import Derived.Laws.StructEq
namespace Go.Proofs.YtgdegbmakbfaaaaDoor
namespace Ln
open Go.RowKit Go.PlainAid
set_option linter.unusedVariables false

/-- are two failures one? -/
def eqfB (c n c' n' : Int) : Bool := (c == c') && (n == n')
theorem eqfB_self (c n : Int) : eqfB c n c n = true := by unfold eqfB; simp
theorem eqF_in (d : Nat) (k n k' n' : Int) (w : World) : (Op.equalIn (d + 2) 27 (.agg #[.int .i64 k, .int .i64 n]) (.agg #[.int .i64 k', .int .i64 n'])).run Tryd.prog w = .ok (eqfB k n k' n') w := by
  have hS : Tryd.prog.underlying 27 = some (.struct (Tryd.prog.fieldsOf 27)) := by kernel_rfl
  have hp : Tryd.prog.stoodInHeld 27 = false := by kernel_rfl
  have u2 := Tryd.underlying25
  have u3 := Tryd.underlying3
  have a2 := Tryd.isAgg25
  have a3 := Tryd.isAgg3
  have z2 := Tryd.sizeOf25
  have z3 := Tryd.sizeOf3
  rw [run_equalIn_agg w (d + 1) 27 _ _ hS hp]
  simp only [Program.fieldsOf, Tryd.underlying27]
  unfold eqfB
  go_simp
  by_cases h1 : k = k' <;> by_cases h2 : n = n' <;> simp [h1, h2]
theorem eqF (k n k' n' : Int) (w : World) : (binOp .eql 27 (.agg #[.int .i64 k, .int .i64 n]) (.agg #[.int .i64 k', .int .i64 n'])).run Tryd.prog w = .ok (.bool (eqfB k n k' n')) w := by
  rw [run_eql_struct, eqF_in 9998]
  rfl
theorem eqgF (op : BinOp) (x y : Operand) (a b : Array Value) (w : World) : (eqGuard op 27 x y (.agg a) (.agg b)).run Tryd.prog w = .ok () w := run_eqGuard_agg w op 27 x y _ _ (by kernel_rfl)

/-- a failure laid in memory -/
def FBox (w : World) (p : Nat) (k n : Int) : Prop :=
  p < w.heap.size ∧ w.cell? ⟨p, 0, none⟩ = some (.int .i64 k) ∧ w.cell? ⟨p, 1, none⟩ = some (.int .i64 n) ∧ w.frozen? ⟨p, 0, none⟩ = false ∧ w.frozen? ⟨p, 1, none⟩ = false
theorem FBox.later {w w' : World} {p : Nat} {k n : Int} (h : FBox w p k n) (hb : Below w.heap.size w w') : FBox w' p k n :=
  ⟨Nat.lt_of_lt_of_le h.1 hb.size, (hb.cell (p := ⟨p, 0, none⟩) h.1).trans h.2.1, (hb.cell (p := ⟨p, 1, none⟩) h.1).trans h.2.2.1, (hb.frozen (p := ⟨p, 0, none⟩) h.1).trans h.2.2.2.1, (hb.frozen (p := ⟨p, 1, none⟩) h.1).trans h.2.2.2.2⟩
theorem FBox.new (w : World) (k n : Int) (T : TypeId) : FBox (w.alloc (.cells #[.int .i64 k, .int .i64 n] T)) w.heap.size k n := ⟨by simp, by simp, by simp, by simp, by simp⟩
end Ln
end Go.Proofs.YtgdegbmakbfaaaaDoor
