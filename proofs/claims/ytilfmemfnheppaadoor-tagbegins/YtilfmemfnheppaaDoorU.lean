/- Two arrays of the same numbers are the same. No conditions. -/
import Derived.Test.YtilfmemfnheppaaDoorR
namespace Go.Proofs.YtilfmemfnheppaaDoor
open Go.RowKit Hx
set_option linter.unusedVariables false

theorem part24 (X : List Int) (i : Nat) (hi : i < X.length) (w : World) : (Go.part 5 (cellsK .u8 X).toArray i).run Tryd.prog w = .ok (.int .u8 (nth X i)) w := by
  simp [Go.part, Tryd.isAgg5, cellsK_at .u8 X i hi]
theorem eq5 (d : Nat) (x : Int) (w : World) : (Op.equalIn (d + 1) 5 (.int .u8 x) (.int .u8 x)).run Tryd.prog w = .ok true w := by
  simp [Op.equalIn, run_underlying Tryd.underlying5]
theorem eq24_in (d : Nat) (X : List Int) (hX : X.length = 32) (w : World) : (Op.equalIn (d + 2) 49 (arr .u8 X) (arr .u8 X)).run Tryd.prog w = .ok true w := by
  unfold arr
  rw [Op.equalIn]
  simp only [Sem.run_bind, run_underlying Tryd.underlying49, Result.andThen_ok, Tryd.sizeOf5, Std.Legacy.Range.forIn_eq_forIn_range', Std.Legacy.Range.size, Nat.sub_zero, Nat.add_sub_cancel, Nat.div_one]
  have hl : ∀ i ∈ List.range' 0 32 1, i < 32 := fun i hi => by simpa using (List.mem_range'_1.1 hi).2
  generalize List.range' 0 32 1 = l at hl ⊢
  induction l with
  | nil => simp
  | cons i l ih =>
    have hi : i < 32 := hl i (by simp)
    have px : (Go.part 5 (cellsK .u8 X).toArray (i * 1)).run Tryd.prog w = .ok (.int .u8 (nth X i)) w := by
      rw [Nat.mul_one]; exact part24 X i (by omega) w
    simp only [List.forIn_cons, Sem.run_bind, px, eq5, Result.andThen_ok]
    simp only [Bool.not_true, Bool.false_eq_true, if_false, Sem.run_pure, Result.andThen_ok]
    exact ih fun j hj => hl j (by simp [hj])
theorem eq24 (X : List Int) (hX : X.length = 32) (w : World) : (binOp .eql 49 (arr .u8 X) (arr .u8 X)).run Tryd.prog w = .ok (.bool true) w := by
  have := eq24_in 9998 X hX w
  unfold arr at this ⊢
  rw [run_eql_struct, this]
  rfl
theorem eqg24 (X : List Int) (x y : Operand) (w : World) : (eqGuard .eql 49 x y (arr .u8 X) (arr .u8 X)).run Tryd.prog w = .ok () w := run_eqGuard_agg w .eql 49 x y _ _ (by kernel_rfl)
end Go.Proofs.YtilfmemfnheppaaDoor
