/- The contract of the document's Great of a history. Conditions: the events lie in memory, their texts and lists at most 2^47 bytes. -/
import Derived.Test.YtgdegbmakbfaaaaDoorBH
import Derived.Test.YtgdegbmakbfaaaaDoorRG
namespace Go.Proofs.YtgdegbmakbfaaaaDoor
open Go.RowKit Go.PlainAid Ln
set_option linter.unusedVariables false
set_option linter.unusedSimpArgs false

/-- what Great says: no more than statements take -/
def RGrY (w : World) (ys : List YE) (m : Nat) (e : Ending) (w' : World) : Prop := ∃ b, e = .returned (.bool b) ∧ (b = false → ys.length ≤ m ∧ ∀ i, i < ys.length → SmE (ye ys i).1) ∧ Below w.heap.size w w'
set_option maxRecDepth 100000 in
set_option maxHeartbeats 8000000 in
theorem rgreat_h (v : Value) (ys : List YE) (m : Nat) (w : World) (hv : YSl w v ys) (hl : InL w ys) (hg : ∀ i, i < ys.length → LgE (ye ys i).1) :
    Calls Tryd.prog 9 #[v, .int .i64 (m : Int)] w fun e w' => RGrY w ys m e w' := by
  have HL : Hid (InL w ys) := hl
  have HG : Hid (∀ i, i < ys.length → LgE (ye ys i).1) := hg
  obtain ⟨a, c, rfl, _, _, _⟩ := hv.form
  have HV : Hid (YSl w (.slice a ys.length c) ys) := hv
  obtain ⟨n, hnn⟩ : ∃ n, ys.length = n := ⟨_, rfl⟩
  have HN : Hid (ys.length = n) := hnn
  rw [hnn] at HV HG ⊢
  clear hl hg hv hnn
  by_cases hm : m < n
  · have hm' : (m : Int) < (n : Int) := by omega
    go_enter Tryd.func9, Tryd.ntmps9
    go_wp2
    go_ret
    exact ⟨true, rfl, (fun h => by cases h), Below.refl _ _⟩
  have hm' : ¬ (m : Int) < (n : Int) := by omega
  go_enter Tryd.func9, Tryd.ntmps9
  go_wp2
  go_loopw [5] (fun i wr => ∃ k : Nat, k ≤ n ∧ i = .int .i64 (k : Int) ∧ (∀ i, i < k → SmE (ye ys i).1) ∧ Below w.heap.size w wr) (fun i wr => n - (intOf i).toNat)
  case atStart => exact ⟨0, Nat.zero_le _, rfl, fun i hi => absurd hi (Nat.not_lt_zero i), Below.refl _ _⟩
  case round =>
    obtain ⟨k, hk, rfl, hall, hb⟩ := hrel
    have HA : Hid (∀ i, i < k → SmE (ye ys i).1) := hall
    have HB : Hid (Below w.heap.size w wr) := hb
    clear hall hb
    by_cases hlt : k < n
    · have hlt' : (k : Int) < (n : Int) := by omega
      have hly : k < ys.length := by rw [HN.out]; exact hlt
      obtain ⟨b, o, rfl, hb1⟩ := HV.out.block (by omega)
      have HRY0 := (HV.out.later HB.out).at hly
      have ql := HL.out k hly
      have qg := HG.out k hlt
      have HAs : Hid (SmE (ye ys k).1 → ∀ i, i < k + 1 → SmE (ye ys i).1) := fun h i hi => by
        by_cases e : i = k
        · rw [e]; exact h
        · exact HA.out i (by omega)
      rcases hye : ye ys k with ⟨X, va, vr⟩
      rw [hye] at HRY0 ql qg HAs
      have HRY : Hid (wr.rangeAt b (o + k * 14) (evC X va vr)) := HRY0
      have hR := rgreat_ev X va vr wr (ql.1.later HB.out) (ql.2.later HB.out) qg
      have HR : Hid (Calls Tryd.prog 19 #[.agg (evC X va vr).toArray] wr fun e w' => RGrE wr X e w') := hR
      clear HRY0 ql qg hye hb1 hR
      go_wp2_with ((with_reducible refine wpList_load_mid ?_ 47 (.tmp 18) ?_ b (o + k * 14) ?_ (evC X va vr) _ HRY.out Tryd.underlying47 ?_ ?_ ?_); (exact rfl); (exact rfl); (exact rfl); (exact rfl); (exact sizeE))
      refine HR.out.mono ?_
      rintro e w5 ⟨g, rfl, hsm, b5⟩
      have HB5 : Hid (Below w.heap.size w w5) := below_next HB.out b5
      clear b5
      cases g
      · have HS : Hid (SmE X) := hsm rfl
        clear hsm
        go_wp2
        go_roundw
        case rel => exact ⟨k + 1, by omega, by go_num, HAs.out HS.out, HB5.out⟩
        case measure => simp [intOf]; omega
      · clear hsm
        go_wp2
        go_ret
        exact ⟨true, rfl, (fun h => by cases h), HB5.out⟩
    · have e : k = n := by omega
      subst e
      go_wp2
      go_ret
      exact ⟨false, rfl, fun _ => ⟨by rw [HN.out]; omega, by rw [HN.out]; exact HA.out⟩, HB.out⟩
end Go.Proofs.YtgdegbmakbfaaaaDoor
