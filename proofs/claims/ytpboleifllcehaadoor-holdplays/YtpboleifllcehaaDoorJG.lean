/- The contracts of the document's holder and sum. Conditions: what is added is handed in; sizes. -/
import Derived.Test.YtpboleifllcehaaDoorJF
import Derived.Test.YtpboleifllcehaaDoorUG
import Derived.BigQuiet
namespace Go.Proofs.YtpboleifllcehaaDoor
open Go.RowKit Go.PlainAid Ln Go.Sort
set_option linter.unusedVariables false
set_option linter.unusedSimpArgs false

theorem keptW_take (ys : List YD) (k : Nat) (h : k < ys.length) : keptW ((ys.map (·.1)).take (k + 1)) = nxW (keptW ((ys.map (·.1)).take k)) (yd ys k).1 := by
  rw [List.take_add_one, map_yd ys k h]; exact keptW_snoc _ _
theorem sumU_take (ys : List YD) (k : Nat) (h : k < ys.length) : sumU ((ys.map (·.1)).take (k + 1)) = sumS (sumU ((ys.map (·.1)).take k)) (yd ys k).1 := by
  rw [List.take_add_one, map_yd ys k h]; exact sumU_snoc _ _
set_option maxRecDepth 100000 in
set_option maxHeartbeats 16000000 in
theorem sum_any (v : Value) (ys : List YD) (w : World) (hv : DSl w v ys) (hi : InD w ys) (hk : ∀ i, i < ys.length → OkH (yd ys i).1) (hl : ys.length ≤ 1000000) :
    Calls Tryd.prog 21 #[v] w fun e w' => e = .returned (.int .i64 (keptN (ys.map (·.1)))) ∧ Below w.heap.size w w' := by
  obtain ⟨a, c, rfl, hc1, hc2, _⟩ := hv.form
  have HV : Hid (DSl w (.slice a ys.length c) ys) := hv
  have HI : Hid (InD w ys) := hi
  have HK : Hid (∀ i, i < ys.length → OkH (yd ys i).1) := hk
  have HX : Hid (∀ k, k < ys.length → sumU ((ys.map (·.1)).take (k + 1)) = sumS (sumU ((ys.map (·.1)).take k)) (yd ys k).1) := fun k h => sumU_take ys k h
  have HE : Hid (i64w (sumU ((ys.map (·.1)).take ys.length)) = keptN (ys.map (·.1))) := by
    show _ = _
    rw [List.take_of_length_le (by simp)]; exact sum_kept _
  have HR : Hid (∀ k, 0 ≤ sumU ((ys.map (·.1)).take k) ∧ sumU ((ys.map (·.1)).take k) ≤ 18446744073709551615) := fun k => sumU_in _
  clear hv hi hk
  generalize keptN (ys.map (·.1)) = xe at *
  generalize hks : (fun k => sumU ((ys.map (·.1)).take k)) = ks
  have HKS : Hid (∀ k, sumU ((ys.map (·.1)).take k) = ks k) := fun k => congrFun hks k
  have HKx : Hid (∀ k, k < ys.length → ks (k + 1) = sumS (ks k) (yd ys k).1) := fun k h => by rw [← HKS.out k, ← HKS.out (k + 1)]; exact HX.out k h
  have HKr : Hid (∀ k, 0 ≤ ks k ∧ ks k ≤ 18446744073709551615) := fun k => by rw [← HKS.out k]; exact HR.out k
  have HKe : Hid (i64w (ks ys.length) = xe) := by show _ = _; rw [← HKS.out]; exact HE.out
  have HK0 : Hid (ks 0 = 0) := by show _ = _; rw [← HKS.out]; rfl
  clear hks HKS HX HE HR
  obtain ⟨n, hn⟩ : ∃ n, ys.length = n := ⟨_, rfl⟩
  have HN : Hid (ys.length = n) := hn
  rw [hn] at hc1 HV HK HKx HKe hl ⊢
  clear hn
  go_enter Tryd.func21, Tryd.ntmps21
  go_wp2
  go_loopw [3, 4] (fun s i wr => ∃ k : Nat, k ≤ n ∧ i = .int .i64 (k : Int) ∧ s = .int .u64 (ks k) ∧ w = wr) (fun s i wr => n - (intOf i).toNat)
  case atStart => exact ⟨0, by omega, rfl, by rw [HK0.out], rfl⟩
  case round =>
    obtain ⟨k, hk, rfl, rfl, rfl⟩ := hrel
    by_cases hlt : k < n
    · have hlt' : (k : Int) < (n : Int) := by omega
      have hkm : (k : Int) + 1 ≤ 9223372036854775807 := by omega
      obtain ⟨b, o, rfl, hbl, hat⟩ := HV.out.near (by rw [HN.out]; omega)
      obtain ⟨d0, d1, d2, d3, d4⟩ := dd_at (hat k (by rw [HN.out]; omega))
      have hva := HI.out k (by rw [HN.out]; omega)
      have hok := HK.out k hlt
      have HNx : Hid (ks (k + 1) = sumS (ks k) (yd ys k).1) := HKx.out k hlt
      clear hat
      obtain ⟨⟨⟨yc, yo, ya⟩, vy⟩, hy⟩ : ∃ y, yd ys k = y := ⟨_, rfl⟩
      rw [hy] at d3 d4 hva hok HNx
      dsimp only at d3 d4 hva
      clear hy d0 d1 d2
      by_cases h4 : yo = 4
      · subst h4
        have hlen : 0 < ya.length := hok rfl
        obtain ⟨bv, ov, cv, rfl, hvb, hcv, hvat⟩ := vsl_first hva hlen
        have hv0 := hvat 0 hlen
        rw [Nat.zero_mul, Nat.add_zero] at hv0
        obtain ⟨g0, g1, g2⟩ := hv0
        have HNy : Hid (ks (k + 1) = u64w (ks k + u64w (nv ya 0).2.1)) := HNx.out
        obtain ⟨t, ht⟩ : ∃ t, (nv ya 0).2.1 = t := ⟨_, rfl⟩
        rw [ht] at g1 HNy
        obtain ⟨na, hna⟩ : ∃ na, ya.length = na := ⟨_, rfl⟩
        rw [hna] at hlen hcv d4
        clear hvat hva hvb hok HNx g0 g2 ht hna
        obtain ⟨s, hs⟩ : ∃ s, ks k = s := ⟨_, rfl⟩
        rw [hs] at HNy ⊢
        go_wp2
        go_roundw
        case rel => exact ⟨k + 1, by omega, by go_num, by rw [HNy.out]; rfl, by first | rfl | trivial⟩
        case measure => simp [intOf]; omega
      · have e4 : (yo == 4) = false := by simp [h4]
        have HNy : Hid (ks (k + 1) = ks k) := by show _ = _; rw [HNx.out]; exact if_neg h4
        go_wp2
        go_roundw
        case rel => exact ⟨k + 1, by omega, by go_num, by rw [HNy.out], by first | rfl | trivial⟩
        case measure => simp [intOf]; omega
    · have ek : k = n := by omega
      subst ek
      have hke := HKe.out
      obtain ⟨s, hs⟩ : ∃ s, ks k = s := ⟨_, rfl⟩
      rw [hs] at hke ⊢
      have HEe : Hid (i64w s = xe) := hke
      clear hke
      go_wp2
      go_ret
      exact ⟨by rw [← HEe.out]; rfl, Below.refl _ _⟩
set_option maxRecDepth 100000 in
set_option maxHeartbeats 16000000 in
theorem holder_any (v : Value) (ys : List YD) (w : World) (hv : DSl w v ys) (hl : ys.length ≤ 1000000) :
    Calls Tryd.prog 20 #[v] w fun e w' => e = .returned (.agg (encV (keptW (ys.map (·.1)))).toArray) ∧ Below w.heap.size w w' := by
  have mixed : Tryd.prog.follows .mixedOrders = true := by kernel_rfl
  obtain ⟨a, c, rfl, hc1, hc2, _⟩ := hv.form
  have HV : Hid (DSl w (.slice a ys.length c) ys) := hv
  have HX : Hid (∀ k, k < ys.length → keptW ((ys.map (·.1)).take (k + 1)) = nxW (keptW ((ys.map (·.1)).take k)) (yd ys k).1) := fun k h => keptW_take ys k h
  have HE : Hid (keptW ((ys.map (·.1)).take ys.length) = keptW (ys.map (·.1))) := by
    show _ = _
    rw [List.take_of_length_le (by simp)]
  clear hv
  generalize keptW (ys.map (·.1)) = xe at *
  generalize hks : (fun k => keptW ((ys.map (·.1)).take k)) = ks
  have HKS : Hid (∀ k, keptW ((ys.map (·.1)).take k) = ks k) := fun k => congrFun hks k
  have HKx : Hid (∀ k, k < ys.length → ks (k + 1) = nxW (ks k) (yd ys k).1) := fun k h => by rw [← HKS.out k, ← HKS.out (k + 1)]; exact HX.out k h
  have HKe : Hid (ks ys.length = xe) := by show _ = _; rw [← HKS.out]; exact HE.out
  have HK0 : Hid (ks 0 = noV) := by show _ = _; rw [← HKS.out]; rfl
  clear hks HKS HX HE
  obtain ⟨n, hn⟩ : ∃ n, ys.length = n := ⟨_, rfl⟩
  have HN : Hid (ys.length = n) := hn
  rw [hn] at hc1 HV HKx HKe hl ⊢
  clear hn
  have T := three_laid w (encV noV) (encV noV) (encV noV) 25 25 25
  have HT : Hid _ := T
  clear T
  go_enter Tryd.func20, Tryd.ntmps20
  go_wp2
  go_loopw [5] (fun i wr => ∃ k : Nat, k ≤ n ∧ i = .int .i64 (k : Int) ∧ Kp w wr w.heap.size (ks k)) (fun i w' => n - (intOf i).toNat)
  case atStart => exact ⟨0, by omega, rfl, HT.out.1, HT.out.2.1, by rw [HK0.out]; exact HT.out.2.2.1, HT.out.2.2.2⟩
  case round =>
    obtain ⟨k, hk, rfl, hkp⟩ := hrel
    have HKp : Hid (Kp w wr w.heap.size (ks k)) := hkp
    clear hkp HT
    by_cases hlt : k < n
    · have hlt' : (k : Int) < (n : Int) := by omega
      have hkm : (k : Int) + 1 ≤ 9223372036854775807 := by omega
      obtain ⟨b, o, rfl, hbl, hat⟩ := HV.out.near (by rw [HN.out]; omega)
      obtain ⟨c0, c1, c2, c3, c4⟩ := dd_at (hat k (by rw [HN.out]; omega))
      have hb := HKp.out.b
      have d0 := (hb.cell (p := ⟨b, o + k * 5, none⟩) hbl).trans c0
      have d1 := (hb.cell (p := ⟨b, o + k * 5 + 1, none⟩) hbl).trans c1
      have d2 := (hb.cell (p := ⟨b, o + k * 5 + 2, none⟩) hbl).trans c2
      have d3 := (hb.cell (p := ⟨b, o + k * 5 + 3, none⟩) hbl).trans c3
      have HNx : Hid (ks (k + 1) = nxW (ks k) (yd ys k).1) := HKx.out k hlt
      clear hat hb c0 c1 c2 c3 c4 hbl
      obtain ⟨⟨⟨y, yo, ya⟩, vy⟩, hy⟩ : ∃ y, yd ys k = y := ⟨_, rfl⟩
      rw [hy] at d0 d1 d2 d3 HNx
      dsimp only at d0 d1 d2 d3
      clear hy
      obtain ⟨x, hx⟩ : ∃ x, ks k = x := ⟨_, rfl⟩
      rw [hx] at HKp HNx
      clear hx
      obtain ⟨v0, v1, v2⟩ := v_cells HKp.out.v
      obtain ⟨n0, n1, n2⟩ := v_cells HKp.out.o
      obtain ⟨f0, f1, f2⟩ := v_froz HKp.out.v
      simp only [noV] at n0 n1 n2
      have hqn := fun w => eqV x.1 x.2.1 0 0 x.2.2 noB w
      have hqc := fun w => eqV x.1 x.2.1 y.1 y.2.1 x.2.2 y.2.2 w
      have hg := eqgV
      have HQn : Hid (eqvB x.1 x.2.1 x.2.2 0 0 noB = decide (x = noV)) := by
        show _ = _
        by_cases h : x = noV
        · rw [decide_eq_true h]; exact (eqvB_iff _ _ _ _ _ _).2 h
        · rw [decide_eq_false h]; exact Bool.eq_false_iff.2 fun k => h ((eqvB_iff _ _ _ _ _ _).1 k)
      have HQc : Hid (eqvB x.1 x.2.1 x.2.2 y.1 y.2.1 y.2.2 = decide (x = y)) := by
        show _ = _
        by_cases h : x = y
        · rw [decide_eq_true h]; exact (eqvB_iff _ _ _ _ _ _).2 h
        · rw [decide_eq_false h]; exact Bool.eq_false_iff.2 fun k => h ((eqvB_iff _ _ _ _ _ _).1 k)
      rw [HQn.out] at hqn
      rw [HQc.out] at hqc
      clear HQn HQc
      by_cases h11 : yo = 11
      · subst h11
        by_cases hx : x = noV
        · rw [decide_eq_true hx] at hqn
          have HNy : Hid (ks (k + 1) = y) := by show _ = _; rw [HNx.out]; exact if_pos ⟨rfl, hx⟩
          clear hx hqc HNx
          go_wp2
          go_roundw
          case rel => exact ⟨k + 1, by omega, by go_num, by rw [HNy.out]; exact HKp.out.set rfl y⟩
          case measure => simp [intOf]; omega
        · rw [decide_eq_false hx] at hqn
          have HNy : Hid (ks (k + 1) = x) := by show _ = _; rw [HNx.out]; unfold nxW; rw [if_neg (fun k => hx k.2), if_neg (fun k => absurd k.1 (by show ¬ ((11 : Int) = 12); decide))]
          clear hx hqc HNx
          have d3' := fun d os => cell_regrown d3 d os
          have v0' := fun d os => cell_regrown v0 d os
          have v1' := fun d os => cell_regrown v1 d os
          have v2' := fun d os => cell_regrown v2 d os
          go_wp2_with fail
          clear d0 d1 d2 d3 v0 v1 v2 n0 n1 n2 f0 f1 f2
          refine wp_region_quiet_below (by assumption) (by kernel_rfl) ?_
          repeat (go_big_quiet_step (fail))
          refine wpQuiet_nil ?_
          intro _ hw'
          obtain ⟨⟨dq, osq⟩, hw''⟩ := hw'
          subst hw''
          have HKq : Hid (Kp w (grow (redrawn wr dq) osq) w.heap.size x) := HKp.out.later (below_regrown wr dq osq)
          clear d3' v0' v1' v2' HKp
          go_wp2
          go_roundw
          case rel => exact ⟨k + 1, by omega, by go_num, by rw [HNy.out]; exact HKq.out⟩
          case measure => simp [intOf]; omega
      · have e11 : (yo == 11) = false := by simp [h11]
        have d0' := fun d os => cell_regrown d0 d os
        have d1' := fun d os => cell_regrown d1 d os
        have d2' := fun d os => cell_regrown d2 d os
        have d3' := fun d os => cell_regrown d3 d os
        have v0' := fun d os => cell_regrown v0 d os
        have v1' := fun d os => cell_regrown v1 d os
        have v2' := fun d os => cell_regrown v2 d os
        by_cases h12 : yo = 12
        · subst h12
          by_cases hx : x = y
          · rw [decide_eq_true hx] at hqc
            have HNy : Hid (ks (k + 1) = noV) := by show _ = _; rw [HNx.out]; unfold nxW; rw [if_neg (fun k => absurd k.1 (by show ¬ ((12 : Int) = 11); decide)), if_pos ⟨rfl, hx⟩]
            clear hx hqn HNx
            go_wp2_with fail
            clear d0 d1 d2 d3 v0 v1 v2 n0 n1 n2 f0 f1 f2
            refine wp_region_quiet_below (by assumption) (by kernel_rfl) ?_
            repeat (go_big_quiet_step (fail))
            refine wpQuiet_nil ?_
            intro _ hw'
            obtain ⟨⟨dq, osq⟩, hw''⟩ := hw'
            subst hw''
            have HKq : Hid (Kp w (grow (redrawn wr dq) osq) w.heap.size x) := HKp.out.later (below_regrown wr dq osq)
            clear d0' d1' d2' d3' v0' v1' v2' HKp
            generalize grow (redrawn wr dq) osq = u at *
            obtain ⟨n0, n1, n2⟩ := v_cells HKq.out.o
            obtain ⟨f0, f1, f2⟩ := v_froz HKq.out.v
            obtain ⟨v0, v1, v2⟩ := v_cells HKq.out.v
            simp only [noV] at n0 n1 n2
            go_wp2
            go_roundw
            case rel => exact ⟨k + 1, by omega, by go_num, by rw [HNy.out]; exact HKq.out.set rfl noV⟩
            case measure => simp [intOf]; omega
          · rw [decide_eq_false hx] at hqc
            have HNy : Hid (ks (k + 1) = x) := by show _ = _; rw [HNx.out]; unfold nxW; rw [if_neg (fun k => absurd k.1 (by show ¬ ((12 : Int) = 11); decide)), if_neg (fun k => hx k.2)]
            clear hx hqn HNx
            go_wp2_with fail
            clear d0 d1 d2 d3 v0 v1 v2 n0 n1 n2 f0 f1 f2
            refine wp_region_quiet_below (by assumption) (by kernel_rfl) ?_
            repeat (go_big_quiet_step (fail))
            refine wpQuiet_nil ?_
            intro _ hw'
            obtain ⟨⟨dq, osq⟩, hw''⟩ := hw'
            subst hw''
            have HKq : Hid (Kp w (grow (redrawn wr dq) osq) w.heap.size x) := HKp.out.later (below_regrown wr dq osq)
            clear d0' d1' d2' d3' v0' v1' v2' HKp
            go_wp2
            go_roundw
            case rel => exact ⟨k + 1, by omega, by go_num, by rw [HNy.out]; exact HKq.out⟩
            case measure => simp [intOf]; omega
        · have e12 : (yo == 12) = false := by simp [h12]
          have HNy : Hid (ks (k + 1) = x) := by show _ = _; rw [HNx.out]; unfold nxW; rw [if_neg (fun k => h11 k.1), if_neg (fun k => h12 k.1)]
          clear hqn hqc HNx
          go_wp2_with fail
          clear d0 d1 d2 d3 v0 v1 v2 n0 n1 n2 f0 f1 f2
          refine wp_region_quiet_below (by assumption) (by kernel_rfl) ?_
          repeat (go_big_quiet_step (fail))
          refine wpQuiet_nil ?_
          intro _ hw'
          obtain ⟨⟨dq, osq⟩, hw''⟩ := hw'
          subst hw''
          have HKq : Hid (Kp w (grow (redrawn wr dq) osq) w.heap.size x) := HKp.out.later (below_regrown wr dq osq)
          clear d0' d1' d2' d3' v0' v1' v2' HKp
          go_wp2
          go_roundw
          case rel => exact ⟨k + 1, by omega, by go_num, by rw [HNy.out]; exact HKq.out⟩
          case measure => simp [intOf]; omega
    · have ek : k = n := by omega
      subst ek
      have hke := HKe.out
      rw [hke] at HKp
      obtain ⟨v0, v1, v2⟩ := v_cells HKp.out.v
      obtain ⟨r0, r1, r2⟩ := v_cells HKp.out.r
      obtain ⟨f0, f1, f2⟩ := v_froz HKp.out.r
      clear hke
      go_wp2
      refine ret_blk rfl w.heap.size (encV xe) 25 _ Tryd.underlying25 rfl infoVv rfl (blk_set3 HKp.out.r xe) rfl ?_
      exact ⟨rfl, below_oth HKp.out.b (oth_set3 _ _ _ _ _) (Nat.le_refl _) (Nat.le_refl _) HKp.out.b.size⟩
end Go.Proofs.YtpboleifllcehaaDoor
