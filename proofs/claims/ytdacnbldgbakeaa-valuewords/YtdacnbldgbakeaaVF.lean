/- The walk of ValueWords. No conditions. -/
import Derived.Test.YtdacnbldgbakeaaVE
import Derived.Test.YtdacnbldgbakeaaVB
namespace Go.Proofs.Ytdacnbldgbakeaa
open Go.RowKit Go.PlainAid
set_option linter.unusedVariables false

set_option maxHeartbeats 800000 in
theorem law_words (s : ByteArray) (w : World) : Calls Try.prog 3 #[.string s] w fun e w' => e = .returned (.bool true) ∧ Below w.heap.size w w' := by
  by_cases hs : 200 < s.size
  · have hs' : (200 : Int) < (s.size : Int) := by omega
    go_enter Try.func3, Try.ntmps3
    go_wp2_with fail
    refine (wakes_any _).mono ?_
    rintro e w1 ⟨rfl, hb1⟩
    go_wp2
    go_ret
    exact ⟨rfl, hb1⟩
  · have hs' : ¬ (200 : Int) < (s.size : Int) := by omega
    have h1 := isWord_any s
    have h2 := risWord_any s
    generalize wordB s = b at *
    go_enter Try.func3, Try.ntmps3
    go_wp2_with fail
    refine (wakes_any _).mono ?_
    rintro e w1 ⟨rfl, hb1⟩
    go_wp2_with (first | (go_at_call 7; refine (h1 _ (by omega)).mono ?_; rintro e w2 ⟨rfl, rfl⟩) | (go_at_call 8; refine (h2 _ (by omega)).mono ?_; rintro e w2 ⟨rfl, rfl⟩))
    go_ret
    exact ⟨ret_b (by cases b <;> rfl), hb1⟩
end Go.Proofs.Ytdacnbldgbakeaa
