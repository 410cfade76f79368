/- The first hundred primes, and the roots of the first of them, by the kernel. No conditions. -/
import Derived.Test.YtilfmemfnheppaaDoorPD
namespace Go.Proofs.YtilfmemfnheppaaDoor.Pr
open Go.RowKit
set_option linter.unusedVariables false

theorem below_next {n : Nat} {w w1 w2 : World} (h : Below n w w1) (hn : n ≤ w.heap.size) (h2 : Below w1.heap.size w1 w2) : Below n w w2 :=
  h.trans (h2.mono (Nat.le_trans hn h.size))

theorem rt_2_2 : rt 2 2 % 4294967296 = 1779033703 := by decide +kernel
theorem rt_4_2 : rt 4 2 % 4294967296 = 0 := by decide +kernel
theorem pr_3 : pr 3 = 7 := by
  unfold pr
  rw [if_pos (by omega), upTo_small 542 (by omega)]
  decide +kernel

theorem root_2_2 (w : World) : Calls Tryd.prog 49 #[.int .i64 2, .int .i64 2] w fun e w' => e = .returned (.tuple #[.int .u32 1779033703, .int .i64 0]) ∧ w' = w := by
  have := root_any 2 2 (by omega) (by omega) (.inl rfl) w
  rw [rt_2_2] at this
  exact this
theorem root_4_2 (w : World) : Calls Tryd.prog 49 #[.int .i64 4, .int .i64 2] w fun e w' => e = .returned (.tuple #[.int .u32 0, .int .i64 0]) ∧ w' = w := by
  have := root_any 4 2 (by omega) (by omega) (.inl rfl) w
  rw [rt_4_2] at this
  exact this
theorem nth_3 (w : World) : Calls Tryd.prog 50 #[.int .i64 3] w fun e w' => e = .returned (.int .i64 7) ∧ Below w.heap.size w w' := by
  have := nth_any 3 w
  rw [pr_3] at this
  exact this

/-- the hundred primes -/
def hundred : List Nat := [2, 3, 5, 7, 11, 13, 17, 19, 23, 29, 31, 37, 41, 43, 47, 53, 59, 61, 67, 71, 73, 79, 83, 89, 97, 101, 103, 107, 109, 113, 127, 131, 137, 139, 149, 151, 157, 163, 167, 173, 179, 181, 191, 193, 197, 199, 211, 223, 227, 229, 233, 239, 241, 251, 257, 263, 269, 271, 277, 281, 283, 293, 307, 311, 313, 317, 331, 337, 347, 349, 353, 359, 367, 373, 379, 383, 389, 397, 401, 409, 419, 421, 431, 433, 439, 443, 449, 457, 461, 463, 467, 479, 487, 491, 499, 503, 509, 521, 523, 541]
theorem hundred_eq : (List.range 542).filter smB = hundred := by decide +kernel
theorem hundred_gap : ∀ i, i < 99 → hundred.getD i 0 < hundred.getD (i + 1) 0 ∧ hundred.getD (i + 1) 0 < 576 ∧ smB (hundred.getD (i + 1) 0) = true ∧
    ∀ n, n < hundred.getD (i + 1) 0 → hundred.getD i 0 < n → smB n = false := by decide +kernel

theorem pr_hundred (i : Nat) (h : i < 100) : pr i = (hundred.getD i 0 : Nat) := by
  have hl : i < hundred.length := h
  unfold pr
  rw [if_pos (by omega), upTo_small 542 (by omega), hundred_eq, nth_eq _ _ (by simp; exact hl)]
  simp [hl]
end Go.Proofs.YtilfmemfnheppaaDoor.Pr
