/- The contracts of the document's Print of a history, and of its Great. Conditions: the events lie in memory; Print: at most a million events, their numbers of 64 bits, their texts at most 2^62 bytes, their values few enough; Great: their texts and lists at most 2^47 bytes. -/
import Derived.Test.YtdhlheilgagcpaaGreatDoorHP
import Derived.Test.YtdhlheilgagcpaaGreatDoorBY
import Derived.Test.YtdhlheilgagcpaaGreatDoorRG
namespace Go.Proofs.YtdhlheilgagcpaaGreatDoor
open Go.RowKit Go.PlainAid Ln
set_option linter.unusedVariables false
set_option linter.unusedSimpArgs false

set_option maxRecDepth 100000 in
set_option maxHeartbeats 8000000 in
theorem rprint_h (v : Value) (ys : List YE) (w : World) (hv : YSl w v ys) (hl : InL w ys) (ho : OkYs ys) (hn : ys.length ≤ 1000000) :
    Calls Tryz.prog 9 #[v] w fun e w' => e = .returned (.string (bs (hT (ys.map (·.1))))) ∧ Below w.heap.size w w' := by
  have HL : Hid (InL w ys) := hl
  have HOk : Hid (OkYs ys) := ho
  obtain ⟨a, c, rfl, _, _, _⟩ := hv.form
  have HV : Hid (YSl w (.slice a ys.length c) ys) := hv
  have HLn : Hid (∀ k, k ≤ ys.length → (∀ i, i < k → rightE (ye ys i).1 = true) → (txtK ys k).length ≤ 56000001000000) := fun k hk h => by
    have := txtK_len hk h (fun i hi => (ho i hi).2.1) (fun i hi => (ho i hi).2.2)
    have h2 : k * 56000001 ≤ 1000000 * 56000001 := Nat.mul_le_mul_right _ (by omega)
    omega
  obtain ⟨n, hnn⟩ : ∃ n, ys.length = n := ⟨_, rfl⟩
  have HN : Hid (ys.length = n) := hnn
  rw [hnn] at HV HLn ⊢
  clear hl ho hv hnn hn
  go_enter Tryz.func9, Tryz.ntmps9
  go_wp2
  go_loopw [3, 4] (fun t i wr => ∃ k : Nat, k ≤ n ∧ i = .int .i64 (k : Int) ∧ t = .string (bs (txtK ys k)) ∧ (∀ i, i < k → rightE (ye ys i).1 = true) ∧ Below w.heap.size w wr) (fun t i wr => n - (intOf i).toNat)
  case atStart => exact ⟨0, Nat.zero_le _, rfl, rfl, fun i hi => absurd hi (Nat.not_lt_zero i), Below.refl _ _⟩
  case round =>
    obtain ⟨k, hk, rfl, rfl, hall, hb⟩ := hrel
    have HA : Hid (∀ i, i < k → rightE (ye ys i).1 = true) := hall
    have HB : Hid (Below w.heap.size w wr) := hb
    have HLK := HLn.out k hk hall
    clear hall hb
    by_cases hlt : k < n
    · have hlt' : (k : Int) < (n : Int) := by omega
      have hly : k < ys.length := by rw [HN.out]; exact hlt
      obtain ⟨b, o, rfl, hb1⟩ := HV.out.block (by omega)
      have HRY0 : Hid (∀ w', Below w.heap.size w w' → w'.rangeAt b (o + k * 14) (encE (ye ys k))) := fun w' hb => (HV.out.later hb).at hly
      have ql := HL.out k hly
      have qo := HOk.out k hly
      have HTx : Hid (txtK ys (k + 1) = txtK ys k ++ lineE (ye ys k).1 ++ [10]) := txtK_succ ys k hly
      have HNo : Hid (rightE (ye ys k).1 = false → hT (ys.map (·.1)) = []) := fun h => hT_none hly h
      have HAs : Hid (rightE (ye ys k).1 = true → ∀ i, i < k + 1 → rightE (ye ys i).1 = true) := fun h i hi => by
        by_cases e : i = k
        · rw [e]; exact h
        · exact HA.out i (by omega)
      rcases hye : ye ys k with ⟨X, va, vr⟩
      rw [hye] at HRY0 ql qo HTx HNo HAs
      have HRY : Hid (∀ w', Below w.heap.size w w' → w'.rangeAt b (o + k * 14) (evC X va vr)) := HRY0.out
      have HQ : Hid (VSl w va X.a ∧ VSl w vr X.r) := ql
      have hE := fun w' (hb : Below w.heap.size w w') => rprint_ev X va vr w' (HQ.out.1.later hb) (HQ.out.2.later hb) qo.1 qo.2.1 qo.2.2
      have hRi := fun w' (hb : Below w.heap.size w w') => rright_ev X va vr w' (HQ.out.1.later hb) (HQ.out.2.later hb) qo.1
      have hll := fun h : rightE X = true => line_len2 h qo.2.1 qo.2.2
      have HE : Hid (∀ w', Below w.heap.size w w' → _) := hE
      have HRi : Hid (∀ w', Below w.heap.size w w' → _) := hRi
      clear HRY0 ql qo hE hRi hye hb1
      by_cases hr : rightE X = true
      · have hL1 := hll hr
        rw [hr] at HRi
        rw [if_pos hr] at HE
        obtain ⟨l, hle⟩ : ∃ l, lineE X = l := ⟨_, rfl⟩
        rw [hle] at HTx HE hL1
        have HR : Hid (rightE X = true) := hr
        obtain ⟨t, htk⟩ : ∃ t, txtK ys k = t := ⟨_, rfl⟩
        rw [htk] at HTx HLK ⊢
        have e1 := bs_app t l
        have e2 : bs (t ++ l) ++ (⟨#[10]⟩ : ByteArray) = bs (t ++ l ++ [10]) := bs_app (t ++ l) [10]
        have z1 : (bs t).size = t.length := rfl
        have z2 : (bs l).size = l.length := rfl
        have z3 : (bs (t ++ l)).size = t.length + l.length := by rw [bs_size, List.length_append]
        have q1 : ¬ 9223372036854775807 < (bs t).size + (bs l).size := by omega
        have q2 : ¬ 9223372036854775807 < (bs (t ++ l)).size + 1 := by omega
        clear hll hr hle htk
        go_wp2_with ((with_reducible refine wpList_load_mid ?_ 37 (.tmp 13) ?_ b (o + k * 14) ?_ (evC X va vr) _ (HRY.out wr HB.out) Tryz.underlying37 ?_ ?_ ?_); (exact rfl); (exact rfl); (exact rfl); (exact rfl); (exact sizeE))
        refine (HRi.out wr HB.out).mono ?_
        rintro e w5 ⟨rfl, b5⟩
        have HB5 : Hid (Below w.heap.size w w5) := below_next HB.out b5
        clear b5
        go_wp2_with ((with_reducible refine wpList_load_mid ?_ 37 (.tmp 20) ?_ b (o + k * 14) ?_ (evC X va vr) _ (HRY.out w5 HB5.out) Tryz.underlying37 ?_ ?_ ?_); (exact rfl); (exact rfl); (exact rfl); (exact rfl); (exact sizeE))
        refine (HE.out w5 HB5.out).mono ?_
        rintro e w6 ⟨rfl, b6⟩
        have HB6 : Hid (Below w.heap.size w w6) := below_next HB5.out b6
        clear b6
        go_wp2
        go_roundw
        case rel => exact ⟨k + 1, by omega, by go_num, by rw [HTx.out, List.append_assoc], HAs.out HR.out, HB6.out⟩
        case measure => simp [intOf]; omega
      · have hrf : rightE X = false := by simpa using hr
        rw [hrf] at HRi
        clear hr hll
        go_wp2_with ((with_reducible refine wpList_load_mid ?_ 37 (.tmp 13) ?_ b (o + k * 14) ?_ (evC X va vr) _ (HRY.out wr HB.out) Tryz.underlying37 ?_ ?_ ?_); (exact rfl); (exact rfl); (exact rfl); (exact rfl); (exact sizeE))
        refine (HRi.out wr HB.out).mono ?_
        rintro e w5 ⟨rfl, b5⟩
        have HB5 : Hid (Below w.heap.size w w5) := below_next HB.out b5
        clear b5
        go_wp2
        go_ret
        exact ⟨by rw [HNo.out hrf]; rfl, HB5.out⟩
    · have e : k = n := by omega
      subst e
      have HTa : Hid (txtK ys k = hT (ys.map (·.1))) := by
        have := txtK_all (ys := ys) (by rw [HN.out]; exact HA.out)
        rw [HN.out] at this; exact this
      go_wp2
      go_ret
      exact ⟨by first | rfl | (rw [HTa.out]; rfl), HB.out⟩

/-- what Great says: no more than statements take -/
def RGrY (w : World) (ys : List YE) (m : Nat) (e : Ending) (w' : World) : Prop := ∃ b, e = .returned (.bool b) ∧ (b = false → ys.length ≤ m ∧ ∀ i, i < ys.length → SmE (ye ys i).1) ∧ Below w.heap.size w w'
set_option maxRecDepth 100000 in
set_option maxHeartbeats 8000000 in
theorem rgreat_h (v : Value) (ys : List YE) (m : Nat) (w : World) (hv : YSl w v ys) (hl : InL w ys) (hg : ∀ i, i < ys.length → LgE (ye ys i).1) :
    Calls Tryz.prog 8 #[v, .int .i64 (m : Int)] w fun e w' => RGrY w ys m e w' := by
  have HL : Hid (InL w ys) := hl
  have HG : Hid (∀ i, i < ys.length → LgE (ye ys i).1) := hg
  obtain ⟨a, c, rfl, _, _, _⟩ := hv.form
  have HV : Hid (YSl w (.slice a ys.length c) ys) := hv
  obtain ⟨n, hnn⟩ : ∃ n, ys.length = n := ⟨_, rfl⟩
  have HN : Hid (ys.length = n) := hnn
  rw [hnn] at HV HG ⊢
  clear hl hg hv hnn
  by_cases hm : m < n
  · have hm' : (m : Int) < (n : Int) := by omega
    go_enter Tryz.func8, Tryz.ntmps8
    go_wp2
    go_ret
    exact ⟨true, rfl, (fun h => by cases h), Below.refl _ _⟩
  have hm' : ¬ (m : Int) < (n : Int) := by omega
  go_enter Tryz.func8, Tryz.ntmps8
  go_wp2
  go_loopw [5] (fun i wr => ∃ k : Nat, k ≤ n ∧ i = .int .i64 (k : Int) ∧ (∀ i, i < k → SmE (ye ys i).1) ∧ Below w.heap.size w wr) (fun i wr => n - (intOf i).toNat)
  case atStart => exact ⟨0, Nat.zero_le _, rfl, fun i hi => absurd hi (Nat.not_lt_zero i), Below.refl _ _⟩
  case round =>
    obtain ⟨k, hk, rfl, hall, hb⟩ := hrel
    have HA : Hid (∀ i, i < k → SmE (ye ys i).1) := hall
    have HB : Hid (Below w.heap.size w wr) := hb
    clear hall hb
    by_cases hlt : k < n
    · have hlt' : (k : Int) < (n : Int) := by omega
      have hly : k < ys.length := by rw [HN.out]; exact hlt
      obtain ⟨b, o, rfl, hb1⟩ := HV.out.block (by omega)
      have HRY0 := (HV.out.later HB.out).at hly
      have ql := HL.out k hly
      have qg := HG.out k hlt
      have HAs : Hid (SmE (ye ys k).1 → ∀ i, i < k + 1 → SmE (ye ys i).1) := fun h i hi => by
        by_cases e : i = k
        · rw [e]; exact h
        · exact HA.out i (by omega)
      rcases hye : ye ys k with ⟨X, va, vr⟩
      rw [hye] at HRY0 ql qg HAs
      have HRY : Hid (wr.rangeAt b (o + k * 14) (evC X va vr)) := HRY0
      have hR := rgreat_ev X va vr wr (ql.1.later HB.out) (ql.2.later HB.out) qg
      have HR : Hid (Calls Tryz.prog 17 #[.agg (evC X va vr).toArray] wr fun e w' => RGrE wr X e w') := hR
      clear HRY0 ql qg hye hb1 hR
      go_wp2_with ((with_reducible refine wpList_load_mid ?_ 37 (.tmp 18) ?_ b (o + k * 14) ?_ (evC X va vr) _ HRY.out Tryz.underlying37 ?_ ?_ ?_); (exact rfl); (exact rfl); (exact rfl); (exact rfl); (exact sizeE))
      refine HR.out.mono ?_
      rintro e w5 ⟨g, rfl, hsm, b5⟩
      have HB5 : Hid (Below w.heap.size w w5) := below_next HB.out b5
      clear b5
      cases g
      · have HS : Hid (SmE X) := hsm rfl
        clear hsm
        go_wp2
        go_roundw
        case rel => exact ⟨k + 1, by omega, by go_num, HAs.out HS.out, HB5.out⟩
        case measure => simp [intOf]; omega
      · clear hsm
        go_wp2
        go_ret
        exact ⟨true, rfl, (fun h => by cases h), HB5.out⟩
    · have e : k = n := by omega
      subst e
      go_wp2
      go_ret
      exact ⟨false, rfl, fun _ => ⟨by rw [HN.out]; omega, by rw [HN.out]; exact HA.out⟩, HB.out⟩
end Go.Proofs.YtdhlheilgagcpaaGreatDoor
