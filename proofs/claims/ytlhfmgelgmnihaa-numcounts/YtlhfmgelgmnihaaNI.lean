/- The contract of the document's own Count, and the walk of NumCounts. Conditions: the bound is one of 64 bits. -/
import Derived.Test.YtlhfmgelgmnihaaNH
namespace Go.Proofs.Ytlhfmgelgmnihaa
open Go.RowKit Go.PlainAid
set_option linter.unusedVariables false

theorem plain_of_ok {s : ByteArray} (h : okD s) : ¬ bt s 0 = 45 := by have := h.2.1 0 h.1; omega

set_option maxHeartbeats 800000 in
theorem rcount_any (s : ByteArray) (m : Int) (w : World) (hz : s.size ≤ 4611686018427387904) (hm0 : -9223372036854775808 ≤ m) (hm1 : m ≤ 9223372036854775807) :
    Calls Try.prog 6 #[.string s, .int .i64 m] w fun e w' => e = .returned (.tuple #[.int .i64 (cntR s m).1, .int .i64 (cntR s m).2]) ∧ w' = w := by
  have hd := digits_any s
  have hp := rparse_any s
  by_cases hk : okD s
  · rw [okB_true hk] at hd
    rw [sgnR_plain (plain_of_ok hk)] at hp
    by_cases hv : (valN s s.size : Int) ≤ 9223372036854775807
    · rw [cntR_good hk hv] at hp
      by_cases hm : (valN s s.size : Int) ≤ m
      · rw [cntR_good hk hm]
        clear hk
        have hn0 : (0 : Int) ≤ (valN s s.size : Int) := by omega
        generalize (valN s s.size : Int) = n at *
        go_enter Try.func6, Try.ntmps6
        go_wp2_with (first | (go_at_call 10; refine (hd _ hz).mono ?_; rintro e w1 ⟨rfl, rfl⟩) | (go_at_call 11; refine (hp _ hz).mono ?_; rintro e w1 ⟨rfl, rfl⟩))
        go_ret2
        exact ⟨rfl, rfl⟩
      · rw [cntR_great hk hm]
        clear hk
        have hn0 : (0 : Int) ≤ (valN s s.size : Int) := by omega
        generalize (valN s s.size : Int) = n at *
        go_enter Try.func6, Try.ntmps6
        go_wp2_with (first | (go_at_call 10; refine (hd _ hz).mono ?_; rintro e w1 ⟨rfl, rfl⟩) | (go_at_call 11; refine (hp _ hz).mono ?_; rintro e w1 ⟨rfl, rfl⟩))
        go_ret2
        exact ⟨rfl, rfl⟩
    · rw [cntR_great hk hv] at hp
      rw [cntR_great hk (show ¬ (valN s s.size : Int) ≤ m from by omega)]
      clear hk
      go_enter Try.func6, Try.ntmps6
      go_wp2_with (first | (go_at_call 10; refine (hd _ hz).mono ?_; rintro e w1 ⟨rfl, rfl⟩) | (go_at_call 11; refine (hp _ hz).mono ?_; rintro e w1 ⟨rfl, rfl⟩))
      all_goals go_ret2
      all_goals exact ⟨rfl, rfl⟩
  · rw [okB_false hk] at hd
    rw [cntR_bad m hk]
    clear hk
    go_enter Try.func6, Try.ntmps6
    go_wp2_with (first | (go_at_call 10; refine (hd _ hz).mono ?_; rintro e w1 ⟨rfl, rfl⟩))
    go_ret2
    exact ⟨rfl, rfl⟩

set_option maxHeartbeats 800000 in
theorem law_counts (s : ByteArray) (m : Int) (w : World) (hm : -9223372036854775808 ≤ m ∧ m ≤ 9223372036854775807) :
    Calls Try.prog 3 #[.string s, .int .i64 m] w fun e w' => e = .returned (.bool true) ∧ Below w.heap.size w w' := by
  by_cases hs : 1000 < s.size
  · have hs' : (1000 : Int) < (s.size : Int) := by omega
    go_enter Try.func3, Try.ntmps3
    go_wp2_with fail
    refine (wakes_any _).mono ?_
    rintro e w1 ⟨rfl, hb1⟩
    go_wp2
    go_ret
    exact ⟨rfl, hb1⟩
  · have hs' : ¬ (1000 : Int) < (s.size : Int) := by omega
    have h1 := count_any s m
    have h2 := rcount_any s m
    generalize cntR s m = R at *
    go_enter Try.func3, Try.ntmps3
    go_wp2_with fail
    refine (wakes_any _).mono ?_
    rintro e w1 ⟨rfl, hb1⟩
    go_wp2_with fail
    refine (h1 _ (by omega) hm.1 hm.2).mono ?_
    rintro e w2 ⟨rfl, hb2⟩
    go_wp2_with fail
    refine (h2 _ (by omega) hm.1 hm.2).mono ?_
    rintro e w3 ⟨rfl, rfl⟩
    go_wp2
    go_ret
    exact ⟨rfl, below_next hb1 hb2⟩
end Go.Proofs.Ytlhfmgelgmnihaa
