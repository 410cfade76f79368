/- The contracts of what reads the text of a number from 0 on, and of a number with a sign. Conditions: the text is at most 2^62 bytes; the bound is one of 64 bits. -/
import Derived.Test.YtdacnbldgbakeaaNB
namespace Go.Proofs.Ytdacnbldgbakeaa
open Go.RowKit Go.PlainAid
set_option linter.unusedVariables false

/-- how what reads the text of a number from 0 to m ends -/
def countE (s : ByteArray) (m : Int) : Ending := if okD s then (if (valN s s.size : Int) ≤ m then .returned (.int .i64 (valN s s.size)) else gaveUp 3) else gaveUp 2
theorem countE_bad {s : ByteArray} (b : Int) (h : ¬ okD s) : gaveUp 2 = countE s b := (if_neg h).symm
theorem countE_great {s : ByteArray} {b : Int} (h : okD s) (h' : ¬ (valN s s.size : Int) ≤ b) : gaveUp 3 = countE s b := by unfold countE; rw [if_pos h, if_neg h']
theorem countE_good {s : ByteArray} {b : Int} (h : okD s) (h' : (valN s s.size : Int) ≤ b) : .returned (.int .i64 (valN s s.size)) = countE s b := by unfold countE; rw [if_pos h, if_pos h']

set_option maxHeartbeats 1600000 in
theorem counted_any (s : ByteArray) (m : Int) (w : World) (hz : s.size ≤ 4611686018427387904) (hm0 : -9223372036854775808 ≤ m) (hm1 : m ≤ 9223372036854775807) :
    Calls Try.prog 46 #[.string s, .int .i64 m] w fun e w' => e = countE s m ∧ w' = w := by
  by_cases h : okD s
  · by_cases hv : (valN s s.size : Int) ≤ 9223372036854775807
    · have hp := (plainE_good h hv).symm
      by_cases hm : (valN s s.size : Int) ≤ m
      · have hE := countE_good h hm
        have hn0 : (0 : Int) ≤ (valN s s.size : Int) := by omega
        generalize (valN s s.size : Int) = n at *
        generalize countE s m = E at *
        go_enter Try.func46, Try.ntmps46
        go_wp2_with (go_at_call 47; refine (plain_any s _ _ hz (by omega) (by omega)).mono ?_; rintro e w1 ⟨he, rfl⟩; rw [hp] at he; subst he)
        go_ret
        exact ⟨hE, rfl⟩
      · have hE := countE_great h hm
        have hn0 : (0 : Int) ≤ (valN s s.size : Int) := by omega
        generalize (valN s s.size : Int) = n at *
        generalize countE s m = E at *
        go_enter Try.func46, Try.ntmps46
        go_wp2_with (go_at_call 47; refine (plain_any s _ _ hz (by omega) (by omega)).mono ?_; rintro e w1 ⟨he, rfl⟩; rw [hp] at he; subst he)
        exact ⟨rfl, hE, rfl⟩
    · have hp := (plainE_great h hv).symm
      have hE := countE_great h (show ¬ (valN s s.size : Int) ≤ m from by omega)
      generalize countE s m = E at *
      go_enter Try.func46, Try.ntmps46
      go_wp2_with (go_at_call 47; refine (plain_any s _ _ hz (by omega) (by omega)).mono ?_; rintro e w1 ⟨he, rfl⟩; rw [hp] at he; unfold gaveUp at he; subst he)
      exact ⟨rfl, hE, rfl⟩
  · have hp := (plainE_bad 9223372036854775807 h).symm
    have hE := countE_bad m h
    generalize countE s m = E at *
    go_enter Try.func46, Try.ntmps46
    go_wp2_with (go_at_call 47; refine (plain_any s _ _ hz (by omega) (by omega)).mono ?_; rintro e w1 ⟨he, rfl⟩; rw [hp] at he; unfold gaveUp at he; subst he)
    exact ⟨rfl, hE, rfl⟩

/-- a text without its first byte -/
def tl (s : ByteArray) : ByteArray := s.extract 1 s.size
theorem tl_size (s : ByteArray) : (tl s).size = s.size - 1 := by unfold tl; rw [ByteArray.size_extract]; omega

/-- how what reads a number's text ends -/
def signE (s : ByteArray) : Ending :=
  if bt s 0 = 45 then (if okD (tl s) then (if (valN (tl s) (tl s).size : Int) ≤ 9223372036854775808 then (if valN (tl s) (tl s).size = 0 then gaveUp 2 else .returned (.int .i64 (-(valN (tl s) (tl s).size : Int)))) else gaveUp 3) else gaveUp 2)
  else countE s 9223372036854775807

theorem countE_two (s : ByteArray) (m : Int) : (∃ n, countE s m = .returned (.int .i64 n)) ∨ (∃ c, countE s m = gaveUp c) := by
  unfold countE; split
  · split
    · exact .inl ⟨_, rfl⟩
    · exact .inr ⟨_, rfl⟩
  · exact .inr ⟨_, rfl⟩

set_option maxHeartbeats 1600000 in
theorem signed_any (s : ByteArray) (w : World) (hz : s.size ≤ 4611686018427387904) :
    Calls Try.prog 34 #[.string s] w fun e w' => e = signE s ∧ w' = w := by
  have hbt := get_bt s
  by_cases hm : bt s 0 = 45
  · have h0 : ¬ s.size = 0 := fun h => by rw [bt_end s (by omega)] at hm; omega
    have hi : s.toList.isEmpty = false := by cases h : s.toList.isEmpty; rfl; exact absurd (toList_nil.1 (List.isEmpty_iff.1 h)) h0
    have hs : (0 : Int) < (s.size : Int) := by omega
    have hs1 : (1 : Int) ≤ (s.size : Int) := by omega
    have hx : (bt s 0 == 45) = true := by simp [hm]
    have hP := plain_any (tl s) 9223372036854775808
    have hzt : (tl s).size ≤ 4611686018427387904 := by rw [tl_size]; omega
    have e0 : signE s = (if okD (tl s) then (if (valN (tl s) (tl s).size : Int) ≤ 9223372036854775808 then (if valN (tl s) (tl s).size = 0 then gaveUp 2 else .returned (.int .i64 (-(valN (tl s) (tl s).size : Int)))) else gaveUp 3) else gaveUp 2) := if_pos hm
    rw [e0]
    clear e0
    by_cases hk : okD (tl s)
    · rw [if_pos hk]
      by_cases hv : (valN (tl s) (tl s).size : Int) ≤ 9223372036854775808
      · rw [if_pos hv]
        rw [← plainE_good hk hv] at hP
        by_cases hn : valN (tl s) (tl s).size = 0
        · rw [if_pos hn]
          rw [hn] at hP
          unfold gaveUp
          go_enter Try.func34, Try.ntmps34
          go_wp2_with (go_at_call 47; refine (hP _ hzt (by omega) (by omega)).mono ?_; rintro e w1 ⟨rfl, rfl⟩)
          exact ⟨rfl, rfl, rfl⟩
        · rw [if_neg hn]
          obtain ⟨n, hN⟩ : ∃ n : Int, n = (valN (tl s) (tl s).size : Int) := ⟨_, rfl⟩
          have hn1 : 1 ≤ n := by omega
          rw [← hN] at hP hv ⊢
          clear hN hn
          have q1 : IntKind.u64.wrap (-n) = 18446744073709551616 - n := by rw [u64_neg (by omega) (by omega)]; omega
          have q2 : IntKind.i64.wrap (18446744073709551616 - n) = -n := by rw [i64_high (by omega) (by omega)]; omega
          have q3 : wrap64 (18446744073709551616 - n) = -n := by rw [← i64_is]; exact q2
          go_enter Try.func34, Try.ntmps34
          go_wp2_with (go_at_call 47; refine (hP _ hzt (by omega) (by omega)).mono ?_; rintro e w1 ⟨rfl, rfl⟩)
          go_ret
          exact ⟨ret_int (by first | rfl | (rw [q1]; first | exact q2 | exact q3)), rfl⟩
      · rw [if_neg hv]
        rw [← plainE_great hk hv] at hP
        unfold gaveUp at hP ⊢
        go_enter Try.func34, Try.ntmps34
        go_wp2_with (go_at_call 47; refine (hP _ hzt (by omega) (by omega)).mono ?_; rintro e w1 ⟨rfl, rfl⟩)
        exact ⟨rfl, rfl, rfl⟩
    · rw [if_neg hk]
      rw [← plainE_bad _ hk] at hP
      unfold gaveUp at hP ⊢
      go_enter Try.func34, Try.ntmps34
      go_wp2_with (go_at_call 47; refine (hP _ hzt (by omega) (by omega)).mono ?_; rintro e w1 ⟨rfl, rfl⟩)
      exact ⟨rfl, rfl, rfl⟩
  · have e1 : signE s = countE s 9223372036854775807 := if_neg hm
    rw [e1]
    clear e1
    have hx : (bt s 0 == 45) = false := by simp [hm]
    by_cases h0 : s.size = 0
    case' pos => have hi : s.toList.isEmpty = true := List.isEmpty_iff.2 (toList_nil.2 h0)
    case' neg =>
      have hi : s.toList.isEmpty = false := by cases h : s.toList.isEmpty; rfl; exact absurd (toList_nil.1 (List.isEmpty_iff.1 h)) h0
      have hs : (0 : Int) < (s.size : Int) := by omega
    all_goals
      have hC := counted_any s 9223372036854775807
      rcases countE_two s 9223372036854775807 with ⟨n, hE⟩ | ⟨c, hE⟩
      · rw [hE] at hC ⊢
        go_enter Try.func34, Try.ntmps34
        go_wp2_with (go_at_call 46; refine (hC _ hz (by omega) (by omega)).mono ?_; rintro e w1 ⟨rfl, rfl⟩)
        go_ret
        exact ⟨rfl, rfl⟩
      · rw [hE] at hC ⊢
        unfold gaveUp at hC ⊢
        go_enter Try.func34, Try.ntmps34
        go_wp2_with (go_at_call 46; refine (hC _ hz (by omega) (by omega)).mono ?_; rintro e w1 ⟨rfl, rfl⟩)
        exact ⟨rfl, rfl, rfl⟩
end Go.Proofs.Ytdacnbldgbakeaa
