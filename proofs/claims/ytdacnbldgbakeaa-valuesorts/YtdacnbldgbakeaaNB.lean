/- The contract of what reads digits up to a bound. Conditions: the text is at most 2^62 bytes; the bound is from 9 to 2^64 - 1. -/
import Derived.Test.YtdacnbldgbakeaaNA
namespace Go.Proofs.Ytdacnbldgbakeaa
open Go.RowKit Go.PlainAid
set_option linter.unusedVariables false

theorem ret_int {k : IntKind} {a b : Int} (h : a = b) : Ending.returned (.int k a) = .returned (.int k b) := by rw [h]

theorem valN_mono (s : ByteArray) : ∀ k j : Nat, valN s k ≤ valN s (k + j) := by
  intro k j
  induction j with
  | zero => exact Nat.le_refl _
  | succ j ih => rw [← Nat.add_assoc]; show _ ≤ 10 * valN s (k + j) + _; omega

/-- how what reads digits up to a bound ends -/
def plainE (s : ByteArray) (b : Int) : Ending := if okD s then (if (valN s s.size : Int) ≤ b then .returned (.int .u64 (valN s s.size)) else gaveUp 3) else gaveUp 2
theorem plainE_bad {s : ByteArray} (b : Int) (h : ¬ okD s) : gaveUp 2 = plainE s b := (if_neg h).symm
theorem plainE_great {s : ByteArray} {b : Int} (h : okD s) (h' : ¬ (valN s s.size : Int) ≤ b) : gaveUp 3 = plainE s b := by unfold plainE; rw [if_pos h, if_neg h']
theorem plainE_good {s : ByteArray} {b : Int} (h : okD s) (h' : (valN s s.size : Int) ≤ b) : .returned (.int .u64 (valN s s.size)) = plainE s b := by unfold plainE; rw [if_pos h, if_pos h']

set_option maxHeartbeats 1600000 in
theorem plain_any (s : ByteArray) (b : Int) (w : World) (hz : s.size ≤ 4611686018427387904) (hb0 : 9 ≤ b) (hb1 : b ≤ 18446744073709551615) :
    Calls Try.prog 47 #[.string s, .int .u64 b] w fun e w' => e = plainE s b ∧ w' = w := by
  have hbt := get_bt s
  by_cases h : okD s
  · have hm : mustE s = .returned (.tuple #[]) := (mustE_good h).symm
    have HK : Hid (okD s) := h
    clear h
    go_enter Try.func47, Try.ntmps47
    go_wp2_with (go_at_call 53; refine (must_any s _ hz).mono ?_; rintro e w1 ⟨he, rfl⟩; rw [hm] at he; subst he)
    go_loop [5, 12] (fun n i => ∃ k : Nat, k ≤ s.size ∧ i = .int .i64 (k : Int) ∧ n = .int .u64 (valN s k : Int) ∧ (valN s k : Int) ≤ b) (fun _ i => s.size - (intOf i).toNat)
    case atStart => exact ⟨0, by omega, rfl, rfl, by show ((0 : Nat) : Int) ≤ b; omega⟩
    case round =>
      obtain ⟨k, hk, rfl, rfl, hv⟩ := hrel
      by_cases hlt : k < s.size
      · have hlt' : (k : Int) < (s.size : Int) := by omega
        obtain ⟨d0, d1⟩ := HK.out.2.1 k hlt
        have HV : Hid ((valN s (k + 1) : Int) = 10 * (valN s k : Int) + (bt s k - 48)) := by
          show ((10 * valN s k + (bt s k - 48).toNat : Nat) : Int) = _
          omega
        have HM : Hid (valN s (k + 1) ≤ valN s s.size) := by
          have := valN_mono s (k + 1) (s.size - (k + 1))
          rwa [show k + 1 + (s.size - (k + 1)) = s.size from by omega] at this
        obtain ⟨n, hn⟩ : ∃ n : Int, n = (valN s k : Int) := ⟨_, rfl⟩
        have HN : Hid (n = (valN s k : Int)) := hn
        have hn0 : 0 ≤ n := by omega
        rw [← hn] at hv ⊢
        have HV' : Hid ((valN s (k + 1) : Int) = 10 * n + (bt s k - 48)) := by show _ = _; rw [hn]; exact HV.out
        clear hn HV
        have hq : (b - (bt s k - 48)).tdiv 10 = (b - (bt s k - 48)) / 10 := Int.tdiv_eq_ediv_of_nonneg (by omega)
        by_cases hg : n > (b - (bt s k - 48)) / 10
        · go_wp2
          exact ⟨rfl, plainE_great HK.out (by have := HV'.out; have := HM.out; omega), rfl⟩
        · have hg2 : 10 * n + (bt s k - 48) ≤ b := by omega
          go_wp2
          go_round
          case rel => exact ⟨k + 1, by omega, by go_num, by rw [HV'.out], by rw [HV'.out]; omega⟩
          case measure => simp [intOf]; omega
      · go_wp2
        go_ret
        have e : k = s.size := by omega
        subst e
        exact ⟨plainE_good HK.out hv, rfl⟩
  · have hm : mustE s = gaveUp 2 := (mustE_bad h).symm
    have HK : Hid (¬ okD s) := h
    clear h
    go_enter Try.func47, Try.ntmps47
    go_wp2_with (go_at_call 53; refine (must_any s _ hz).mono ?_; rintro e w1 ⟨he, rfl⟩; rw [hm] at he; unfold gaveUp at he; subst he)
    exact ⟨rfl, plainE_bad b HK.out, rfl⟩
end Go.Proofs.Ytdacnbldgbakeaa
