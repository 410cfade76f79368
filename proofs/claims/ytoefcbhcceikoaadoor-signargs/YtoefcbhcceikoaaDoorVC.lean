/- Values: when two are one; the contracts of what makes one of a number, of a word, of a truth. No conditions. -/
import Derived.Test.YtoefcbhcceikoaaDoorVA
import Derived.Laws.StructEq
namespace Go.Proofs.YtoefcbhcceikoaaDoor
open Go.RowKit Go.PlainAid
set_option linter.unusedVariables false

/-- are two values one? -/
def eqvB (k n : Int) (s : ByteArray) (k' n' : Int) (s' : ByteArray) : Bool := (k == k') && ((n == n') && (s.toList == s'.toList))
/-- a value's cells, and a value -/
def vcs (k n : Int) (s : ByteArray) : Array Value := #[.int .i64 k, .int .i64 n, .string s]

theorem eqV_in (d : Nat) (k n k' n' : Int) (s s' : ByteArray) (w : World) : (Op.equalIn (d + 2) 29 (.agg #[.int .i64 k, .int .i64 n, .string s]) (.agg #[.int .i64 k', .int .i64 n', .string s'])).run Tryd.prog w = .ok (eqvB k n s k' n' s') w := by
  have hS : Tryd.prog.underlying 29 = some (.struct (Tryd.prog.fieldsOf 29)) := by kernel_rfl
  have hp : Tryd.prog.stoodInHeld 29 = false := by kernel_rfl
  have u2 := Tryd.underlying2
  have u3 := Tryd.underlying3
  have u9 := Tryd.underlying9
  have a2 := Tryd.isAgg2
  have a3 := Tryd.isAgg3
  have a9 := Tryd.isAgg9
  have z2 := Tryd.sizeOf2
  have z3 := Tryd.sizeOf3
  have z9 := Tryd.sizeOf9
  rw [run_equalIn_agg w (d + 1) 29 _ _ hS hp]
  simp only [Program.fieldsOf, Tryd.underlying29]
  unfold eqvB
  go_simp
  by_cases h1 : k = k' <;> by_cases h2 : n = n' <;> by_cases h3 : s.toList = s'.toList <;> simp [h1, h2, h3]
theorem eqV (k n k' n' : Int) (s s' : ByteArray) (w : World) : (binOp .eql 29 (.agg #[.int .i64 k, .int .i64 n, .string s]) (.agg #[.int .i64 k', .int .i64 n', .string s'])).run Tryd.prog w = .ok (.bool (eqvB k n s k' n' s')) w := by
  rw [run_eql_struct, eqV_in 9998]
  rfl
theorem neV (k n k' n' : Int) (s s' : ByteArray) (w : World) : (binOp .neq 29 (.agg #[.int .i64 k, .int .i64 n, .string s]) (.agg #[.int .i64 k', .int .i64 n', .string s'])).run Tryd.prog w = .ok (.bool (!eqvB k n s k' n' s')) w := by
  rw [run_neq_struct, eqV_in 9998]
  rfl
theorem eqgV (op : BinOp) (x y : Operand) (a b : Array Value) (w : World) : (eqGuard op 29 x y (.agg a) (.agg b)).run Tryd.prog w = .ok () w := run_eqGuard_agg w op 29 x y _ _ (by kernel_rfl)

/-- a value laid in memory -/
def VBox (w : World) (p : Nat) (k n : Int) (s : ByteArray) : Prop :=
  p < w.heap.size ∧ w.cell? ⟨p, 0, none⟩ = some (.int .i64 k) ∧ w.cell? ⟨p, 1, none⟩ = some (.int .i64 n) ∧ w.cell? ⟨p, 2, none⟩ = some (.string s) ∧
    w.frozen? ⟨p, 0, none⟩ = false ∧ w.frozen? ⟨p, 1, none⟩ = false ∧ w.frozen? ⟨p, 2, none⟩ = false
theorem VBox.later {w w' : World} {p : Nat} {k n : Int} {s : ByteArray} (h : VBox w p k n s) (hb : Below w.heap.size w w') : VBox w' p k n s :=
  ⟨Nat.lt_of_lt_of_le h.1 hb.size, (hb.cell (p := ⟨p, 0, none⟩) h.1).trans h.2.1, (hb.cell (p := ⟨p, 1, none⟩) h.1).trans h.2.2.1, (hb.cell (p := ⟨p, 2, none⟩) h.1).trans h.2.2.2.1,
    (hb.frozen (p := ⟨p, 0, none⟩) h.1).trans h.2.2.2.2.1, (hb.frozen (p := ⟨p, 1, none⟩) h.1).trans h.2.2.2.2.2.1, (hb.frozen (p := ⟨p, 2, none⟩) h.1).trans h.2.2.2.2.2.2⟩
theorem VBox.new (w : World) (k n : Int) (s : ByteArray) (T : TypeId) : VBox (w.alloc (.cells #[.int .i64 k, .int .i64 n, .string s] T)) w.heap.size k n s :=
  ⟨by simp, by simp, by simp, by simp, by simp, by simp, by simp⟩
/-- a value stored in memory of the call's own -/
theorem below_store {w a : World} (h : Below w.heap.size w a) {p : Nat} (hp : w.heap.size ≤ p) (x y z : Value) : Below w.heap.size w (((a.setCell ⟨p, 0, none⟩ x).setCell ⟨p, 1, none⟩ y).setCell ⟨p, 2, none⟩ z) :=
  ((h.setCell hp x).setCell hp y).setCell hp z

/-- no text -/
def noB : ByteArray := ⟨#[]⟩
theorem ofBool_any (n : Int) (w : World) : Calls Tryd.prog 35 #[.int .i64 n] w fun e w' => e = .returned (.agg #[.int .i64 3, .int .i64 n, .string noB]) ∧ Below w.heap.size w w' := by
  go_enter Tryd.func35, Tryd.ntmps35
  go_wp2
  refine bodyPost_ret (v := .agg #[.int .i64 3, .int .i64 n, .string noB]) (by simp [results, Tryd.f35, go_sem]; rfl) rfl ?_
  exact ⟨rfl, by first | exact below_more (Below.refl _ _) _ | skip⟩
theorem ofNumber_any (n : Int) (w : World) : Calls Tryd.prog 32 #[.int .i64 n] w fun e w' => e = .returned (.agg #[.int .i64 1, .int .i64 n, .string noB]) ∧ Below w.heap.size w w' := by
  go_enter Tryd.func32, Tryd.ntmps32
  go_wp2
  refine bodyPost_ret (v := .agg #[.int .i64 1, .int .i64 n, .string noB]) (by simp [results, Tryd.f32, go_sem]; rfl) rfl ?_
  exact ⟨rfl, by first | exact below_more (Below.refl _ _) _ | skip⟩
theorem ofWord_any (s : ByteArray) (w : World) : Calls Tryd.prog 33 #[.string s] w fun e w' => e = .returned (.agg #[.int .i64 2, .int .i64 0, .string s]) ∧ Below w.heap.size w w' := by
  go_enter Tryd.func33, Tryd.ntmps33
  go_wp2
  refine bodyPost_ret (v := .agg #[.int .i64 2, .int .i64 0, .string s]) (by simp [results, Tryd.f33, go_sem]) rfl ?_
  exact ⟨rfl, by first | exact below_more (Below.refl _ _) _ | skip⟩
end Go.Proofs.YtoefcbhcceikoaaDoor
