/- The contract of the document's Check. Conditions: the events and their lists lie in memory; sizes as the contracts take. -/
import Derived.Test.YtgdegbmakbfaaaaDoorPW
namespace Go.Proofs.YtgdegbmakbfaaaaDoor
open Go.RowKit Go.PlainAid Ln
set_option linter.unusedVariables false
set_option linter.unusedSimpArgs false

set_option maxRecDepth 100000 in
set_option maxHeartbeats 8000000 in
theorem rcheck_any (v : Value) (ys : List YE) (w : World) (hv : YSl w v ys) (hl : InL w ys) (hz : ∀ i, i < ys.length → SzE (ye ys i).1) (hlen : ys.length ≤ 1000000) :
    Calls Tryd.prog 11 #[v] w fun e w' => e = .returned (.tuple #[.int .i64 (checkE (ys.map (·.1))).1, .int .i64 (checkE (ys.map (·.1))).2]) ∧ Below w.heap.size w w' := by
  have HW : Hid (∀ w' k, Below w.heap.size w w' → k < ys.length → Calls Tryd.prog 21 #[v, .int .i64 (k : Int)] w' fun e w'' => e = .returned (.int .i64 (wrongE (ys.map (·.1)) k)) ∧ Below w'.heap.size w' w'') := fun w' k h hk => rwrong_any v ys k w' (hv.later h) (hl.later h) hz hk (by omega)
  have HL : Hid ((ys.map (·.1)).length = ys.length) := List.length_map ..
  obtain ⟨a, c, rfl, hc1, hc2, _⟩ := hv.form
  clear hv hl hz
  generalize ys.map (·.1) = xs at *
  generalize ys.length = q at *
  go_enter Tryd.func11, Tryd.ntmps11
  go_wp2
  go_loopw [4] (fun i wr => ∃ k : Nat, k ≤ q ∧ i = .int .i64 (k : Int) ∧ okE xs k ∧ Below w.heap.size w wr) (fun i wr => q - (intOf i).toNat)
  case atStart => exact ⟨0, Nat.zero_le _, rfl, fun i hi => absurd hi (Nat.not_lt_zero i), Below.refl _ _⟩
  case round =>
    obtain ⟨k, hk, rfl, hok, hb⟩ := hrel
    have HO : Hid (okE xs k) := hok
    have HB : Hid (Below w.heap.size w wr) := hb
    clear hok hb
    by_cases hlt : k < q
    · have hlt' : (k : Int) < (q : Int) := by omega
      go_wp2_with fail
      refine (HW.out wr k HB.out hlt).mono ?_
      rintro e w1 ⟨rfl, b1⟩
      have HB1 : Hid (Below w.heap.size w w1) := below_next HB.out b1
      clear b1
      obtain ⟨cd, hcd⟩ : ∃ cd, wrongE xs k = cd := ⟨_, rfl⟩
      have HC : Hid (wrongE xs k = cd) := hcd
      rw [hcd]
      clear hcd
      by_cases h0 : cd = 0
      · subst h0
        go_wp2
        go_roundw
        case rel => exact ⟨k + 1, by omega, by go_num, okE_succ HO.out HC.out, HB1.out⟩
        case measure => simp [intOf] <;> omega
      · have hne : (cd != 0) = true := by simp [h0]
        have HN : Hid (cd ≠ 0) := h0
        clear h0
        go_wp2
        go_ret2
        exact ⟨by rw [checkE_bad (by rw [HL.out]; exact hlt) HO.out (by rw [HC.out]; exact HN.out), HC.out]; rfl, HB1.out⟩
    · obtain rfl : k = q := by omega
      go_wp2
      go_ret2
      exact ⟨by rw [checkE_ok (by rw [HL.out]; exact HO.out)]; rfl, HB.out⟩
end Go.Proofs.YtgdegbmakbfaaaaDoor
