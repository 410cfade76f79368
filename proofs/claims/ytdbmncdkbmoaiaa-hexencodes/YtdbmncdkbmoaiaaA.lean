/- The contracts of the three functions that only compute: what a digit stands for (twice) and the digit of a number. No conditions but the ranges named in each. -/
import Derived.Test.YtdbmncdkbmoaiaaRows
import Derived.WalkKit
import Derived.WalkSpells
import Derived.WalkLawsBesides
import Derived.Handy
namespace Go.Proofs.Ytdbmncdkbmoaiaa
open Go.RowKit
set_option linter.unusedVariables false

/-- the digit of a number from 0 to 15 -/
def sgn (n : Int) : Int := if n < 10 then 48 + n else 87 + n
/-- what a byte stands for; -1: none -/
def dig (c : Int) : Int := if 48 ≤ c ∧ c ≤ 57 then c - 48 else if 97 ≤ c ∧ c ≤ 102 then c - 87 else -1

theorem ret_int {k : IntKind} {a b : Int} (h : a = b) : Ending.returned (.int k a) = .returned (.int k b) := by rw [h]

set_option maxHeartbeats 400000 in
theorem sign_any (n : Int) (w : World) (h0 : 0 ≤ n) (h1 : n ≤ 15) :
    Calls Try.prog 19 #[.int .u8 n] w fun e w' => e = .returned (.int .u8 (sgn n)) ∧ w' = w := by
  by_cases h : n < 10
  · go_enter Try.func19, Try.ntmps19
    go_wp2
    go_ret
    exact ⟨ret_int (by unfold sgn; rw [if_pos h]), rfl⟩
  · go_enter Try.func19, Try.ntmps19
    go_wp2
    go_ret
    exact ⟨ret_int (by unfold sgn; split <;> omega), rfl⟩

set_option maxHeartbeats 400000 in
theorem digit_any (c : Int) (w : World) (h0 : 0 ≤ c) (h1 : c ≤ 255) :
    Calls Try.prog 14 #[.int .u8 c] w fun e w' => e = .returned (.int .i64 (dig c)) ∧ w' = w := by
  go_enter Try.func14, Try.ntmps14
  go_wp2
  all_goals go_ret
  all_goals refine ⟨ret_int ?_, rfl⟩
  all_goals (unfold dig; split <;> (try split) <;> omega)

theorem sgn_dig (c n : Int) (h0 : 0 ≤ n) (h1 : n ≤ 15) : sgn n = c ↔ dig c = n := by
  unfold sgn dig; split <;> split <;> (try split) <;> omega

theorem dig_lo (c : Int) : -1 ≤ dig c ∧ dig c ≤ 15 := by
  unfold dig; split <;> (try split) <;> omega

set_option maxHeartbeats 400000 in
theorem rdigit_any (c : Int) (w : World) (h0 : 0 ≤ c) (h1 : c ≤ 255) :
    Calls Try.prog 15 #[.int .u8 c] w fun e w' => e = .returned (.int .i64 (dig c)) ∧ w' = w := by
  go_enter Try.func15, Try.ntmps15
  go_wp2
  go_loop [3] (fun n => ∃ k : Int, 0 ≤ k ∧ k ≤ 16 ∧ n = .int .u8 k ∧ ∀ j, 0 ≤ j → j < k → dig c ≠ j) (fun n => (16 - intOf n).toNat)
  case atStart => exact ⟨0, by omega, by omega, rfl, fun j _ _ => by omega⟩
  case round =>
    obtain ⟨k, hk0, hk1, rfl, hno⟩ := hrel
    have HN : Hid (∀ j, 0 ≤ j → j < k → dig c ≠ j) := hno
    clear hno
    by_cases hlt : k < 16
    · by_cases he : sgn k = c
      · have he' : (sgn k == c) = true := by simp [he]
        have HE : Hid (sgn k = c) := he
        clear he
        go_wp2_with (go_at_call 19; refine (sign_any _ _ (by omega) (by omega)).mono ?_; rintro e w' ⟨rfl, rfl⟩)
        go_ret
        exact ⟨ret_int ((sgn_dig c k (by omega) (by omega)).1 HE.out).symm, rfl⟩
      · have he' : (sgn k == c) = false := by simp [he]
        have HE : Hid (¬ sgn k = c) := he
        clear he
        go_wp2_with (go_at_call 19; refine (sign_any _ _ (by omega) (by omega)).mono ?_; rintro e w' ⟨rfl, rfl⟩)
        go_round
        case rel => 
          refine ⟨k + 1, by omega, by omega, by go_num, fun j hj0 hj1 => ?_⟩
          by_cases hjk : j = k
          · subst hjk; exact fun h => HE.out ((sgn_dig c j (by omega) (by omega)).2 h)
          · exact HN.out j hj0 (by omega)
        case measure => simp [intOf]; omega
    · go_wp2
      go_ret
      have := dig_lo c
      exact ⟨ret_int (by by_cases hz : dig c = -1; exact hz.symm; exact absurd rfl (HN.out (dig c) (by omega) (by omega))), rfl⟩
end Go.Proofs.Ytdbmncdkbmoaiaa
