/- When two failures are one; the contract of what wakes a statement: the examples. No conditions. -/
import Derived.Test.YtdhlheilgagcpaaGreatDoorLH
import Derived.Laws.StructEq
namespace Go.Proofs.YtdhlheilgagcpaaGreatDoor
namespace Ln
open Go.RowKit Go.PlainAid
set_option linter.unusedVariables false

/-- are two failures one? -/
def eqfB (c n c' n' : Int) : Bool := (c == c') && (n == n')
theorem eqfB_self (c n : Int) : eqfB c n c n = true := by unfold eqfB; simp
theorem eqF_in (d : Nat) (k n k' n' : Int) (w : World) : (Op.equalIn (d + 2) 26 (.agg #[.int .i64 k, .int .i64 n]) (.agg #[.int .i64 k', .int .i64 n'])).run Tryz.prog w = .ok (eqfB k n k' n') w := by
  have hS : Tryz.prog.underlying 26 = some (.struct (Tryz.prog.fieldsOf 26)) := by kernel_rfl
  have hp : Tryz.prog.stoodInHeld 26 = false := by kernel_rfl
  have u2 := Tryz.underlying24
  have u3 := Tryz.underlying3
  have a2 := Tryz.isAgg24
  have a3 := Tryz.isAgg3
  have z2 := Tryz.sizeOf24
  have z3 := Tryz.sizeOf3
  rw [run_equalIn_agg w (d + 1) 26 _ _ hS hp]
  simp only [Program.fieldsOf, Tryz.underlying26]
  unfold eqfB
  go_simp
  by_cases h1 : k = k' <;> by_cases h2 : n = n' <;> simp [h1, h2]
theorem eqF (k n k' n' : Int) (w : World) : (binOp .eql 26 (.agg #[.int .i64 k, .int .i64 n]) (.agg #[.int .i64 k', .int .i64 n'])).run Tryz.prog w = .ok (.bool (eqfB k n k' n')) w := by
  rw [run_eql_struct, eqF_in 9998]
  rfl
theorem eqgF (op : BinOp) (x y : Operand) (a b : Array Value) (w : World) : (eqGuard op 26 x y (.agg a) (.agg b)).run Tryz.prog w = .ok () w := run_eqGuard_agg w op 26 x y _ _ (by kernel_rfl)

theorem ex_split : cutL 10 (tx ⟨#[97, 98]⟩) = ([], [97, 98]) := by decide
theorem ex_note : noteR (tx ⟨#[97, 32, 59, 98, 32, 59, 99]⟩) = ([97], [98, 32, 59, 99], true, true) := by decide
/-- a failure laid in memory -/
def FBox (w : World) (p : Nat) (k n : Int) : Prop :=
  p < w.heap.size ∧ w.cell? ⟨p, 0, none⟩ = some (.int .i64 k) ∧ w.cell? ⟨p, 1, none⟩ = some (.int .i64 n) ∧ w.frozen? ⟨p, 0, none⟩ = false ∧ w.frozen? ⟨p, 1, none⟩ = false
theorem FBox.later {w w' : World} {p : Nat} {k n : Int} (h : FBox w p k n) (hb : Below w.heap.size w w') : FBox w' p k n :=
  ⟨Nat.lt_of_lt_of_le h.1 hb.size, (hb.cell (p := ⟨p, 0, none⟩) h.1).trans h.2.1, (hb.cell (p := ⟨p, 1, none⟩) h.1).trans h.2.2.1, (hb.frozen (p := ⟨p, 0, none⟩) h.1).trans h.2.2.2.1, (hb.frozen (p := ⟨p, 1, none⟩) h.1).trans h.2.2.2.2⟩
theorem FBox.new (w : World) (k n : Int) (T : TypeId) : FBox (w.alloc (.cells #[.int .i64 k, .int .i64 n] T)) w.heap.size k n := ⟨by simp, by simp, by simp, by simp, by simp⟩

end Ln
end Go.Proofs.YtdhlheilgagcpaaGreatDoor
