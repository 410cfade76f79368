/- The examples hold: the contract of wakes. The walks of PrimeIs, PrimeNth and PrimeSquares. No conditions. -/
import Derived.Test.YtnloljloddeldaaD
namespace Go.Proofs.Ytnloljloddeldaa
open Go.RowKit
set_option linter.unusedVariables false

theorem below_next {n : Nat} {w w1 w2 : World} (h : Below n w w1) (hn : n ≤ w.heap.size) (h2 : Below w1.heap.size w1 w2) : Below n w w2 :=
  h.trans (h2.mono (Nat.le_trans hn h.size))

theorem rt_2_2 : rt 2 2 % 4294967296 = 1779033703 := by decide +kernel
theorem rt_4_2 : rt 4 2 % 4294967296 = 0 := by decide +kernel
theorem pr_3 : pr 3 = 7 := by
  unfold pr
  rw [if_pos (by omega), upTo_small 542 (by omega)]
  decide +kernel

theorem root_2_2 (w : World) : Calls Try.prog 12 #[.int .i64 2, .int .i64 2] w fun e w' => e = .returned (.tuple #[.int .u32 1779033703, .int .i64 0]) ∧ w' = w := by
  have := root_any 2 2 (by omega) (by omega) (.inl rfl) w
  rw [rt_2_2] at this
  exact this
theorem root_4_2 (w : World) : Calls Try.prog 12 #[.int .i64 4, .int .i64 2] w fun e w' => e = .returned (.tuple #[.int .u32 0, .int .i64 0]) ∧ w' = w := by
  have := root_any 4 2 (by omega) (by omega) (.inl rfl) w
  rw [rt_4_2] at this
  exact this
theorem nth_3 (w : World) : Calls Try.prog 10 #[.int .i64 3] w fun e w' => e = .returned (.int .i64 7) ∧ Below w.heap.size w w' := by
  have := nth_any 3 w
  rw [pr_3] at this
  exact this

set_option maxHeartbeats 400000 in
theorem wakes_any (w : World) : Calls Try.prog 7 #[] w fun e w' => e = .returned (.bool true) ∧ Below w.heap.size w w' := by
  go_enter Try.func7, Try.ntmps7
  go_wp2_with fail
  refine (root_2_2 _).mono ?_
  rintro e w1 ⟨rfl, rfl⟩
  go_wp2_with fail
  refine (root_4_2 _).mono ?_
  rintro e w2 ⟨rfl, rfl⟩
  go_wp2_with fail
  refine (nth_3 _).mono ?_
  rintro e w3 ⟨rfl, hb3⟩
  go_wp2
  go_ret
  exact ⟨rfl, hb3⟩

set_option maxHeartbeats 400000 in
theorem law_is (n : Int) (w : World) (h0 : -9223372036854775808 ≤ n) (h1 : n ≤ 9223372036854775807) :
    Calls Try.prog 3 #[.int .i64 n] w fun e w' => e = .returned (.bool true) ∧ Below w.heap.size w w' := by
  go_enter Try.func3, Try.ntmps3
  go_wp2_with fail
  refine (wakes_any _).mono ?_
  rintro e w1 ⟨rfl, hb1⟩
  go_wp2_with fail
  refine (is_any n _ h0 h1).mono ?_
  rintro e w2 ⟨rfl, rfl⟩
  go_wp2_with fail
  refine (ris_any n _ h0 h1).mono ?_
  rintro e w3 ⟨rfl, rfl⟩
  go_wp2
  go_ret
  exact ⟨ret_bool (by simp), hb1⟩

/-- the hundred primes -/
def hundred : List Nat := [2, 3, 5, 7, 11, 13, 17, 19, 23, 29, 31, 37, 41, 43, 47, 53, 59, 61, 67, 71, 73, 79, 83, 89, 97, 101, 103, 107, 109, 113, 127, 131, 137, 139, 149, 151, 157, 163, 167, 173, 179, 181, 191, 193, 197, 199, 211, 223, 227, 229, 233, 239, 241, 251, 257, 263, 269, 271, 277, 281, 283, 293, 307, 311, 313, 317, 331, 337, 347, 349, 353, 359, 367, 373, 379, 383, 389, 397, 401, 409, 419, 421, 431, 433, 439, 443, 449, 457, 461, 463, 467, 479, 487, 491, 499, 503, 509, 521, 523, 541]
theorem hundred_eq : (List.range 542).filter smB = hundred := by decide +kernel
theorem hundred_gap : ∀ i, i < 99 → hundred.getD i 0 < hundred.getD (i + 1) 0 ∧ hundred.getD (i + 1) 0 < 576 ∧ smB (hundred.getD (i + 1) 0) = true ∧
    ∀ n, n < hundred.getD (i + 1) 0 → hundred.getD i 0 < n → smB n = false := by decide +kernel

theorem pr_hundred (i : Nat) (h : i < 100) : pr i = (hundred.getD i 0 : Nat) := by
  have hl : i < hundred.length := h
  unfold pr
  rw [if_pos (by omega), upTo_small 542 (by omega), hundred_eq, nth_eq _ _ (by simp; exact hl)]
  simp [hl]

/-- between one prime and the next there is none -/
theorem pr_gap (i : Int) (h0 : 1 ≤ i) (h1 : i ≤ 99) : pr (i - 1) < pr i ∧ 0 ≤ pr (i - 1) ∧ pr i < 576 ∧ isB (pr i) = true ∧ ∀ n, pr (i - 1) < n → n < pr i → isB n = false := by
  obtain ⟨m, rfl⟩ : ∃ m : Nat, i = (m : Int) + 1 := ⟨(i - 1).toNat, by omega⟩
  have e1 : ((m : Int) + 1 - 1) = (m : Int) := by omega
  have e2 : ((m : Int) + 1) = ((m + 1 : Nat) : Int) := by omega
  rw [e1, e2, pr_hundred m (by omega), pr_hundred (m + 1) (by omega)]
  obtain ⟨g1, g2, g3, g4⟩ := hundred_gap m (by omega)
  refine ⟨by omega, by omega, by omega, by rw [smB_eq _ g2]; exact g3, fun n hn1 hn2 => ?_⟩
  obtain ⟨q, rfl⟩ : ∃ q : Nat, n = q := ⟨n.toNat, by omega⟩
  rw [smB_eq q (by omega)]
  exact g4 q (by omega) (by omega)

set_option maxHeartbeats 400000 in
theorem law_nth (i : Int) (w : World) (h0 : -9223372036854775808 ≤ i) (h1 : i ≤ 9223372036854775807) :
    Calls Try.prog 4 #[.int .i64 i] w fun e w' => e = .returned (.bool true) ∧ Below w.heap.size w w' := by
  by_cases hi : i < 1 ∨ 99 < i
  · have hn : (pr i != pr i) = false := by simp
    go_enter Try.func4, Try.ntmps4
    go_wp2_with fail
    refine (wakes_any _).mono ?_
    rintro e w1 ⟨rfl, hb1⟩
    go_wp2_with fail
    refine (nth_any i _).mono ?_
    rintro e w2 ⟨rfl, hb2⟩
    go_wp2_with fail
    refine (rnth_any i _ h0 h1).mono ?_
    rintro e w3 ⟨rfl, rfl⟩
    by_cases ha : i < 1
    · go_wp2
      go_ret
      exact ⟨rfl, below_next hb1 (Nat.le_refl _) hb2⟩
    · have hb : 99 < i := by omega
      go_wp2
      go_ret
      exact ⟨rfl, below_next hb1 (Nat.le_refl _) hb2⟩
  · obtain ⟨g1, g2, g3, g4, g5⟩ := pr_gap i (by omega) (by omega)
    have hn : (pr i != pr i) = false := by simp
    have G5 : Hid (∀ n, pr (i - 1) < n → n < pr i → isB n = false) := g5
    clear g5
    go_enter Try.func4, Try.ntmps4
    go_wp2_with fail
    refine (wakes_any _).mono ?_
    rintro e w1 ⟨rfl, hb1⟩
    go_wp2_with fail
    refine (nth_any i _).mono ?_
    rintro e w2 ⟨rfl, hb2⟩
    go_wp2_with fail
    refine (rnth_any i _ h0 h1).mono ?_
    rintro e w3 ⟨rfl, rfl⟩
    have hb12 := below_next hb1 (Nat.le_refl _) hb2
    clear hb1 hb2
    go_wp2_with fail
    refine (nth_any (i - 1) _).mono ?_
    rintro e w4 ⟨rfl, hb4⟩
    have hb24 := below_next hb12 (Nat.le_refl _) hb4
    clear hb12 hb4
    go_wp2_with fail
    go_loop [4] (fun n => ∃ q : Int, pr (i - 1) < q ∧ q ≤ pr i ∧ n = .int .i64 q) (fun n => (pr i - intOf n).toNat)
    case atStart => exact ⟨pr (i - 1) + 1, by omega, by omega, by go_num⟩
    case round =>
      obtain ⟨q, hq1, hq2, rfl⟩ := hrel
      by_cases hlt : q < pr i
      · have hf := G5.out q hq1 hlt
        go_wp2_with fail
        refine (is_any q _ (by omega) (by omega)).mono ?_
        rintro e w5 ⟨rfl, rfl⟩
        rw [hf]
        go_wp2_with fail
        go_round
        case rel => exact ⟨q + 1, by omega, by omega, by go_num⟩
        case measure => simp [intOf]; omega
      · go_wp2_with fail
        refine (is_any (pr i) _ (by omega) (by omega)).mono ?_
        rintro e w5 ⟨rfl, rfl⟩
        rw [g4]
        go_wp2_with fail
        refine (nth_any (i - 1) _).mono ?_
        rintro e w6 ⟨rfl, hb6⟩
        go_wp2
        go_ret
        exact ⟨ret_bool (by first | (simp; done) | (simp; omega)), below_next hb24 (Nat.le_refl _) hb6⟩
end Go.Proofs.Ytnloljloddeldaa
