/- The contracts of the document's own Parse and Count. Conditions: the text is at most 2^62 bytes; the bound is one of 64 bits. -/
import Derived.Test.YtdacnbldgbakeaaDoorNF
import Derived.Test.YtdacnbldgbakeaaDoorND
namespace Go.Proofs.YtdacnbldgbakeaaDoor
open Go.RowKit Go.PlainAid
set_option linter.unusedVariables false

/-- the least number's digits, and the greatest's -/
def far8 : ByteArray := ⟨#[57, 50, 50, 51, 51, 55, 50, 48, 51, 54, 56, 53, 52, 55, 55, 53, 56, 48, 56]⟩
def far7 : ByteArray := ⟨#[57, 50, 50, 51, 51, 55, 50, 48, 51, 54, 56, 53, 52, 55, 55, 53, 56, 48, 55]⟩
theorem okL_far8 : okL far8.toList := (ok_list far8).1 (by decide)
theorem okL_far7 : okL far7.toList := (ok_list far7).1 (by decide)
theorem v_far8 : vL far8.toList = 9223372036854775808 := by rw [← val_list]; decide
theorem v_far7 : vL far7.toList = 9223372036854775807 := by rw [← val_list]; decide
theorem least_far8 {s : ByteArray} (h : okD s) : leastB s far8 = decide ((valN s s.size : Int) ≤ 9223372036854775808) := by
  rw [Bool.eq_iff_iff, least_iff ((ok_list s).1 h) okL_far8, v_far8, val_list, decide_eq_true_iff]; omega
theorem least_far7 {s : ByteArray} (h : okD s) : leastB s far7 = decide ((valN s s.size : Int) ≤ 9223372036854775807) := by
  rw [Bool.eq_iff_iff, least_iff ((ok_list s).1 h) okL_far7, v_far7, val_list, decide_eq_true_iff]; omega
theorem nought_iff {s : ByteArray} (h : okD s) : s.toList = [48] ↔ valN s s.size = 0 := by
  rw [val_list]
  constructor
  · intro e; rw [e]; rfl
  · intro e
    exact one_text ((ok_list s).1 h) (⟨by decide, by intro c hc; simp at hc; subst hc; decide, by decide⟩ : okL [48]) (by rw [e]; rfl)

theorem sgnR_bad {s : ByteArray} (hm : bt s 0 = 45) (h : ¬ okD (tl s)) : sgnR s = (0, 2) := by unfold sgnR; rw [if_pos hm, if_neg h]
theorem sgnR_nought {s : ByteArray} (hm : bt s 0 = 45) (h : okD (tl s)) (h0 : valN (tl s) (tl s).size = 0) : sgnR s = (0, 2) := by
  unfold sgnR; rw [if_pos hm, if_pos h, if_pos (by omega), if_pos h0]
theorem sgnR_great {s : ByteArray} (hm : bt s 0 = 45) (h : okD (tl s)) (h0 : ¬ (valN (tl s) (tl s).size : Int) ≤ 9223372036854775808) : sgnR s = (0, 3) := by
  unfold sgnR; rw [if_pos hm, if_pos h, if_neg h0]
theorem sgnR_neg {s : ByteArray} (hm : bt s 0 = 45) (h : okD (tl s)) (h0 : (valN (tl s) (tl s).size : Int) ≤ 9223372036854775808) (h1 : ¬ valN (tl s) (tl s).size = 0) : sgnR s = (-(valN (tl s) (tl s).size : Int), 0) := by
  unfold sgnR; rw [if_pos hm, if_pos h, if_pos h0, if_neg h1]
theorem sgnR_plain {s : ByteArray} (hm : ¬ bt s 0 = 45) : sgnR s = cntR s 9223372036854775807 := if_neg hm
theorem cntR_bad {s : ByteArray} (m : Int) (h : ¬ okD s) : cntR s m = (0, 2) := if_neg h
theorem cntR_great {s : ByteArray} {m : Int} (h : okD s) (h0 : ¬ (valN s s.size : Int) ≤ m) : cntR s m = (0, 3) := by unfold cntR; rw [if_pos h, if_neg h0]
theorem cntR_good {s : ByteArray} {m : Int} (h : okD s) (h0 : (valN s s.size : Int) ≤ m) : cntR s m = ((valN s s.size : Int), 0) := by unfold cntR; rw [if_pos h, if_pos h0]
theorem ret_two {k l : IntKind} {a b c d : Int} (h : a = b) (h' : c = d) : Ending.returned (.tuple #[.int k a, .int l c]) = .returned (.tuple #[.int k b, .int l d]) := by rw [h, h']

set_option maxHeartbeats 1600000 in
theorem rparse_neg (s t : ByteArray) (w : World) (hz : s.size ≤ 4611686018427387904) (hm : bt s 0 = 45) (ht : s.extract 1 s.size = t) :
    Calls Tryd.prog 21 #[.string s] w fun e w' => e = .returned (.tuple #[.int .i64 (sgnR s).1, .int .i64 (sgnR s).2]) ∧ w' = w := by
  have hbt := get_bt s
  have hbt2 := get_bt t
  have h0 : ¬ s.size = 0 := fun h => by rw [bt_end s (by omega)] at hm; omega
  have hs : (0 : Int) < (s.size : Int) := by omega
  have hs1 : (1 : Int) ≤ (s.size : Int) := by omega
  have hx : (bt s 0 == 45) = true := by simp [hm]
  have hzt : t.size ≤ 4611686018427387904 := by rw [← ht, ByteArray.size_extract]; omega
  have hd := digits_any t
  have htl : tl s = t := ht
  by_cases hk : okD t
  · rw [okB_true hk] at hd
    by_cases hv0 : valN t t.size = 0
    · rw [sgnR_nought hm (by rw [htl]; exact hk) (by rw [htl]; exact hv0)]
      have hq : (t.toList == [48]) = true := by rw [beq_iff_eq]; exact (nought_iff hk).2 hv0
      clear hk hv0 htl
      go_enter Tryd.func21, Tryd.ntmps21
      go_wp2_with (go_at_call 28; refine (hd _ hzt).mono ?_; rintro e w1 ⟨rfl, rfl⟩)
      go_ret2
      exact ⟨rfl, rfl⟩
    · have hq : (t.toList == [48]) = false := by
        cases h : (t.toList == [48])
        · rfl
        · exact absurd ((nought_iff hk).1 (beq_iff_eq.1 h)) hv0
      have hL := least_any t far8
      rw [least_far8 hk] at hL
      by_cases hv : (valN t t.size : Int) ≤ 9223372036854775808
      · rw [sgnR_neg hm (by rw [htl]; exact hk) (by rw [htl]; exact hv) (by rw [htl]; exact hv0), htl]
        rw [decide_eq_true hv] at hL
        have HK : Hid (okD t) := hk
        have HV : Hid ((valN t t.size : Int) ≤ 9223372036854775808) := hv
        clear hk hv0 htl hv
        go_enter Tryd.func21, Tryd.ntmps21
        go_wp2_with (first | (go_at_call 28; refine (hd _ hzt).mono ?_; rintro e w1 ⟨rfl, rfl⟩) | (go_at_call 29; refine (hL _).mono ?_; rintro e w1 ⟨rfl, rfl⟩))
        go_loop [5, 6] (fun n i => ∃ k : Nat, k ≤ t.size ∧ i = .int .i64 (k : Int) ∧ n = .int .i64 (-(valN t k : Int))) (fun _ i => t.size - (intOf i).toNat)
        case atStart => exact ⟨0, by omega, rfl, rfl⟩
        case round =>
          obtain ⟨k, hkz, rfl, rfl⟩ := hrel
          by_cases hlt : k < t.size
          · have hlt' : (k : Int) < (t.size : Int) := by omega
            obtain ⟨d0, d1⟩ := HK.out.2.1 k hlt
            have HW : Hid ((valN t (k + 1) : Int) = 10 * (valN t k : Int) + (bt t k - 48)) := by
              show ((10 * valN t k + (bt t k - 48).toNat : Nat) : Int) = _
              omega
            have HM : (valN t (k + 1) : Int) ≤ 9223372036854775808 := by
              have := valN_mono t (k + 1) (t.size - (k + 1))
              rw [show k + 1 + (t.size - (k + 1)) = t.size from by omega] at this
              have := HV.out
              omega
            obtain ⟨n, hn⟩ : ∃ n : Int, n = (valN t k : Int) := ⟨_, rfl⟩
            have hn0 : 0 ≤ n := by omega
            rw [← hn]
            have HW' : Hid ((valN t (k + 1) : Int) = 10 * n + (bt t k - 48)) := by show _ = _; rw [hn]; exact HW.out
            have hn1 : 10 * n + (bt t k - 48) ≤ 9223372036854775808 := by rw [← HW'.out]; exact HM
            clear hn HW HM
            go_wp2
            go_round
            case rel => exact ⟨k + 1, by omega, by go_num, by rw [HW'.out]; congr 1; omega⟩
            case measure => simp [intOf]; omega
          · go_wp2
            go_ret2
            have e : k = t.size := by omega
            subst e
            exact ⟨rfl, rfl⟩
      · rw [sgnR_great hm (by rw [htl]; exact hk) (by rw [htl]; exact hv)]
        rw [decide_eq_false hv] at hL
        clear hk hv0 htl hv
        go_enter Tryd.func21, Tryd.ntmps21
        go_wp2_with (first | (go_at_call 28; refine (hd _ hzt).mono ?_; rintro e w1 ⟨rfl, rfl⟩) | (go_at_call 29; refine (hL _).mono ?_; rintro e w1 ⟨rfl, rfl⟩))
        go_ret2
        exact ⟨rfl, rfl⟩
  · rw [sgnR_bad hm (by rw [htl]; exact hk)]
    rw [okB_false hk] at hd
    clear hk htl
    go_enter Tryd.func21, Tryd.ntmps21
    go_wp2_with (go_at_call 28; refine (hd _ hzt).mono ?_; rintro e w1 ⟨rfl, rfl⟩)
    go_ret2
    exact ⟨rfl, rfl⟩

set_option maxHeartbeats 1600000 in
theorem rparse_plain (s : ByteArray) (w : World) (hz : s.size ≤ 4611686018427387904) (hm : ¬ bt s 0 = 45) :
    Calls Tryd.prog 21 #[.string s] w fun e w' => e = .returned (.tuple #[.int .i64 (sgnR s).1, .int .i64 (sgnR s).2]) ∧ w' = w := by
  have hbt := get_bt s
  have hx : (bt s 0 == 45) = false := by simp [hm]
  have hd := digits_any s
  rw [sgnR_plain hm]
  by_cases hk : okD s
  · rw [okB_true hk] at hd
    have hs : (0 : Int) < (s.size : Int) := by have := hk.1; omega
    have hL := least_any s far7
    rw [least_far7 hk] at hL
    by_cases hv : (valN s s.size : Int) ≤ 9223372036854775807
    · rw [cntR_good hk hv]
      rw [decide_eq_true hv] at hL
      have HK : Hid (okD s) := hk
      have HV : Hid ((valN s s.size : Int) ≤ 9223372036854775807) := hv
      clear hk hv
      go_enter Tryd.func21, Tryd.ntmps21
      go_wp2_with (first | (go_at_call 28; refine (hd _ hz).mono ?_; rintro e w1 ⟨rfl, rfl⟩) | (go_at_call 29; refine (hL _).mono ?_; rintro e w1 ⟨rfl, rfl⟩))
      · go_loop [7, 8] (fun n i => ∃ k : Nat, k ≤ s.size ∧ i = .int .i64 (k : Int) ∧ n = .int .i64 ((valN s k : Int))) (fun _ i => s.size - (intOf i).toNat)
        case atStart => exact ⟨0, by omega, rfl, rfl⟩
        case round =>
          obtain ⟨k, hkz, rfl, rfl⟩ := hrel
          by_cases hlt : k < s.size
          · have hlt' : (k : Int) < (s.size : Int) := by omega
            obtain ⟨d0, d1⟩ := HK.out.2.1 k hlt
            have HW : Hid ((valN s (k + 1) : Int) = 10 * (valN s k : Int) + (bt s k - 48)) := by
              show ((10 * valN s k + (bt s k - 48).toNat : Nat) : Int) = _
              omega
            have HM : (valN s (k + 1) : Int) ≤ 9223372036854775807 := by
              have := valN_mono s (k + 1) (s.size - (k + 1))
              rw [show k + 1 + (s.size - (k + 1)) = s.size from by omega] at this
              have := HV.out
              omega
            obtain ⟨n, hn⟩ : ∃ n : Int, n = (valN s k : Int) := ⟨_, rfl⟩
            have hn0 : 0 ≤ n := by omega
            rw [← hn]
            have HW' : Hid ((valN s (k + 1) : Int) = 10 * n + (bt s k - 48)) := by show _ = _; rw [hn]; exact HW.out
            have hn1 : 10 * n + (bt s k - 48) ≤ 9223372036854775807 := by rw [← HW'.out]; exact HM
            clear hn HW HM
            go_wp2
            go_round
            case rel => exact ⟨k + 1, by omega, by go_num, by rw [HW'.out]; congr 1; omega⟩
            case measure => simp [intOf]; omega
          · go_wp2
            go_ret2
            have e : k = s.size := by omega
            subst e
            exact ⟨rfl, rfl⟩
    · rw [cntR_great hk hv]
      rw [decide_eq_false hv] at hL
      clear hk hv
      go_enter Tryd.func21, Tryd.ntmps21
      go_wp2_with (first | (go_at_call 28; refine (hd _ hz).mono ?_; rintro e w1 ⟨rfl, rfl⟩) | (go_at_call 29; refine (hL _).mono ?_; rintro e w1 ⟨rfl, rfl⟩))
      go_ret2
      exact ⟨rfl, rfl⟩
  · rw [cntR_bad _ hk]
    rw [okB_false hk] at hd
    clear hk
    by_cases h0 : s.size = 0
    case' pos => have hs : ¬ (0 : Int) < (s.size : Int) := by omega
    case' neg => have hs : (0 : Int) < (s.size : Int) := by omega
    all_goals
      go_enter Tryd.func21, Tryd.ntmps21
      go_wp2_with (go_at_call 28; refine (hd _ hz).mono ?_; rintro e w1 ⟨rfl, rfl⟩)
      go_ret2
      exact ⟨rfl, rfl⟩

theorem rparse_any (s : ByteArray) (w : World) (hz : s.size ≤ 4611686018427387904) :
    Calls Tryd.prog 21 #[.string s] w fun e w' => e = .returned (.tuple #[.int .i64 (sgnR s).1, .int .i64 (sgnR s).2]) ∧ w' = w := by
  by_cases hm : bt s 0 = 45
  · exact rparse_neg s _ w hz hm rfl
  · exact rparse_plain s w hz hm
end Go.Proofs.YtdacnbldgbakeaaDoor
