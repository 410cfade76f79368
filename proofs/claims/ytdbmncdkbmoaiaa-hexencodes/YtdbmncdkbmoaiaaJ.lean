/- The walk of the statement HexDigits: each byte is the digit that the document says, or none; no two digits stand for one number. No conditions. -/
import Derived.Test.YtdbmncdkbmoaiaaI
namespace Go.Proofs.Ytdbmncdkbmoaiaa
open Go.RowKit Go.PlainAid
set_option linter.unusedVariables false

theorem dig_inj (a b : Int) (h : 0 ≤ dig a) (e : dig a = dig b) : a = b := by
  have hd : ∀ c : Int, (48 ≤ c ∧ c ≤ 57 ∧ dig c = c - 48) ∨ (97 ≤ c ∧ c ≤ 102 ∧ dig c = c - 87) ∨ dig c = -1 := by
    intro c; unfold dig; split
    · omega
    · split <;> omega
  have h1 := hd a
  have h2 := hd b
  omega

set_option maxHeartbeats 800000 in
theorem digits_walk (a b : Int) (w : World) (a0 : 0 ≤ a) (a1 : a ≤ 255) (b0 : 0 ≤ b) (b1 : b ≤ 255) :
    Calls Try.prog 5 #[.int .u8 a, .int .u8 b] w fun e w' => e = .returned (.bool true) ∧ Below w.heap.size w w' := by
  rcases (show dig a < 0 ∨ (0 ≤ dig a ∧ dig a ≠ dig b) ∨ (0 ≤ dig a ∧ dig a = dig b) from by omega) with h | ⟨h, hn⟩ | ⟨h, hn⟩
  · go_enter Try.func5, Try.ntmps5
    go_wp2_with (first | (go_at_call 8; refine (wakes_any _).mono ?_; rintro e w1 ⟨rfl, hb1⟩) | (go_at_call 14; refine (digit_any _ _ (by assumption) (by assumption)).mono ?_; rintro e w2 ⟨rfl, hw2⟩; subst hw2) | (go_at_call 15; refine (rdigit_any _ _ (by assumption) (by assumption)).mono ?_; rintro e w2 ⟨rfl, hw2⟩; subst hw2))
    go_ret
    exact ⟨rfl, by assumption⟩
  · have hb : (dig a != dig b) = true := by simp [hn]
    have HN : Hid (dig a ≠ dig b) := hn
    clear hn
    go_enter Try.func5, Try.ntmps5
    go_wp2_with (first | (go_at_call 8; refine (wakes_any _).mono ?_; rintro e w1 ⟨rfl, hb1⟩) | (go_at_call 14; refine (digit_any _ _ (by assumption) (by assumption)).mono ?_; rintro e w2 ⟨rfl, hw2⟩; subst hw2) | (go_at_call 15; refine (rdigit_any _ _ (by assumption) (by assumption)).mono ?_; rintro e w2 ⟨rfl, hw2⟩; subst hw2))
    go_ret
    exact ⟨rfl, by assumption⟩
  · have := dig_inj a b h hn
    subst this
    clear hn
    go_enter Try.func5, Try.ntmps5
    go_wp2_with (first | (go_at_call 8; refine (wakes_any _).mono ?_; rintro e w1 ⟨rfl, hb1⟩) | (go_at_call 14; refine (digit_any _ _ (by assumption) (by assumption)).mono ?_; rintro e w2 ⟨rfl, hw2⟩; subst hw2) | (go_at_call 15; refine (rdigit_any _ _ (by assumption) (by assumption)).mono ?_; rintro e w2 ⟨rfl, hw2⟩; subst hw2))
    go_ret
    exact ⟨rfl, by assumption⟩
end Go.Proofs.Ytdbmncdkbmoaiaa
