/- The contract of the document's has: what was done last with a value. Conditions: each deed is one of a set's; sizes. -/
import Derived.Test.YtgiefgmhjcjabaaDoorGM
import Derived.Test.YtgiefgmhjcjabaaDoorUG
import Derived.BigQuiet
namespace Go.Proofs.YtgiefgmhjcjabaaDoor
open Go.RowKit Go.PlainAid Ln Go.Sort
set_option linter.unusedVariables false
set_option linter.unusedSimpArgs false

theorem hasE_take (ys : List YD) (x : Val) (k : Nat) (h : k < ys.length) : hasE ((ys.map (·.1)).take (k + 1)) x = hasS x (hasE ((ys.map (·.1)).take k) x) (yd ys k).1 := by
  rw [List.take_add_one, map_yd ys k h]
  exact hasE_snoc _ _ _
set_option maxRecDepth 100000 in
set_option maxHeartbeats 8000000 in
theorem has_any (v : Value) (ys : List YD) (x : Val) (w : World) (hv : DSl w v ys) (hi : InD w ys) (hk : ∀ i, i < ys.length → OkB (yd ys i).1) (hl : ys.length ≤ 1000000) :
    Calls Tryd.prog 21 #[v, .agg #[.int .i64 x.1, .int .i64 x.2.1, .string x.2.2]] w fun e w' => e = .returned (.bool (hasE (ys.map (·.1)) x)) ∧ Below w.heap.size w w' := by
  have mixed : Tryd.prog.follows .mixedOrders = true := by kernel_rfl
  obtain ⟨a, c, rfl, hc1, hc2, _⟩ := hv.form
  have HV : Hid (DSl w (.slice a ys.length c) ys) := hv
  have HI : Hid (InD w ys) := hi
  have HK : Hid (∀ i, i < ys.length → OkB (yd ys i).1) := hk
  have HX : Hid (∀ k, k < ys.length → hasE ((ys.map (·.1)).take (k + 1)) x = hasS x (hasE ((ys.map (·.1)).take k) x) (yd ys k).1) := fun k h => hasE_take ys x k h
  have HE : Hid (hasE ((ys.map (·.1)).take ys.length) x = hasE (ys.map (·.1)) x) := by
    show _ = _
    rw [List.take_of_length_le (by simp)]
  have H0 : Hid (hasE ((ys.map (·.1)).take 0) x = false) := rfl
  clear hv hi hk
  generalize hasE (ys.map (·.1)) x = xe at *
  generalize hks : (fun k => hasE ((ys.map (·.1)).take k) x) = ks
  have HKS : Hid (∀ k, hasE ((ys.map (·.1)).take k) x = ks k) := fun k => congrFun hks k
  clear hks
  obtain ⟨n, hn⟩ : ∃ n, ys.length = n := ⟨_, rfl⟩
  have HN : Hid (ys.length = n) := hn
  have HEn : Hid (ks n = xe) := by show _ = _; rw [← HKS.out n, ← hn]; exact HE.out
  rw [hn] at hc1 HV HK hl ⊢
  clear hn HE
  have HB : Hid (Blk (w.alloc (.cells (encV x).toArray 25)) w.heap.size (encV x) 25) := Blk.new w _ _
  have hbb := below_box w (.cells (encV x).toArray 25)
  go_enter Tryd.func21, Tryd.ntmps21
  go_wp2
  go_loopw [5] (fun i wr => ∃ k : Nat, k ≤ n ∧ i = .int .i64 ((k : Int) - 1) ∧ xe = ks k ∧ Below (w.alloc (.cells (encV x).toArray 25)).heap.size (w.alloc (.cells (encV x).toArray 25)) wr) (fun i wr => ((intOf i) + 1).toNat)
  case atStart => exact ⟨n, Nat.le_refl _, rfl, HEn.out.symm, Below.refl _ _⟩
  case round =>
    obtain ⟨k, hk, rfl, hL, hb⟩ := hrel
    have HL : Hid (xe = ks k) := hL
    have HBw : Hid (Below w.heap.size w wr) := below_next hbb hb
    have HBx : Hid (Blk wr w.heap.size (encV x) 25) := HB.out.later hb
    have HBr : Hid (Below (w.alloc (.cells (encV x).toArray 25)).heap.size (w.alloc (.cells (encV x).toArray 25)) wr) := hb
    clear hL hb hbb HB HEn
    rcases Nat.eq_zero_or_pos k with h0 | h0
    · subst h0
      rw [show ((0 : Nat) : Int) - 1 = -1 by rfl]
      go_wp2
      go_ret
      exact ⟨by rw [HL.out, ← HKS.out 0, H0.out]; rfl, HBw.out⟩
    · obtain ⟨r, rfl⟩ : ∃ r, k = r + 1 := ⟨k - 1, by omega⟩
      rw [show ((r + 1 : Nat) : Int) - 1 = (r : Int) by omega]
      have hrn : (r : Int) < (n : Int) := by omega
      have hr0 : (0 : Int) ≤ (r : Int) := by omega
      obtain ⟨b, o, rfl, hbl, hat⟩ := HV.out.near (by rw [HN.out]; omega)
      obtain ⟨c0, c1, c2, c3, c4⟩ := dd_at (hat r (by rw [HN.out]; omega))
      have hva := HI.out r (by rw [HN.out]; omega)
      have hok := HK.out r (by omega)
      have hnx := HX.out r (by rw [HN.out]; omega)
      rw [HKS.out r, HKS.out (r + 1)] at hnx
      have d3 := (HBw.out.cell (p := ⟨b, o + r * 5 + 3, none⟩) hbl).trans c3
      have d4 := (HBw.out.cell (p := ⟨b, o + r * 5 + 4, none⟩) hbl).trans c4
      clear c0 c1 c2 c3 c4 hat hbl
      obtain ⟨⟨⟨⟨y1, y2, y3⟩, yo, ya⟩, vy⟩, hy⟩ : ∃ y, yd ys r = y := ⟨_, rfl⟩
      rw [hy] at d3 d4 hva hok hnx
      dsimp only at d3 d4 hva
      clear hy
      have hlen : 0 < ya.length := by have : ya.length = 1 := hok.2; omega
      obtain ⟨bv, ov, cv, rfl, hvb, hcv, hvat⟩ := vsl_first hva hlen
      have hv0 := (hvat 0 hlen).later hvb HBw.out
      rw [Nat.zero_mul, Nat.add_zero] at hv0
      obtain ⟨g0, g1, g2⟩ := hv0
      clear hvat hva hvb hok
      have HNX : Hid (ks (r + 1) = hasS x (ks r) ⟨(y1, y2, y3), yo, ya⟩) := hnx
      clear hnx
      obtain ⟨u, hu⟩ : ∃ u, nv ya 0 = u := ⟨_, rfl⟩
      have HU : Hid (nv ya 0 = u) := hu
      rw [hu] at g0 g1 g2
      clear hu
      obtain ⟨na, hna⟩ : ∃ na, ya.length = na := ⟨_, rfl⟩
      rw [hna] at hlen hcv d4
      clear hna
      have hq := fun w => eqV u.1 u.2.1 x.1 x.2.1 u.2.2 x.2.2 w
      have hg := eqgV
      have d3' := fun d os => cell_regrown d3 d os
      have d4' := fun d os => cell_regrown d4 d os
      have g0' := fun d os => cell_regrown g0 d os
      have g1' := fun d os => cell_regrown g1 d os
      have g2' := fun d os => cell_regrown g2 d os
      have x0' := fun d os => cell_regrown (v_cells HBx.out).1 d os
      have x1' := fun d os => cell_regrown (v_cells HBx.out).2.1 d os
      have x2' := fun d os => cell_regrown (v_cells HBx.out).2.2 d os
      clear d3 d4 g0 g1 g2
      by_cases h6 : yo = 6
      · have e6 : (yo != 6) = false := by simp [h6]
        have HR : Hid (ks (r + 1) = ks r) := by show _ = _; rw [HNX.out]; unfold hasS; rw [if_neg (fun k => k.1 h6)]
        clear h6 HNX
        go_wp2_with fail
        refine wp_region_quiet_below (by assumption) (by kernel_rfl) ?_
        repeat (go_big_quiet_step (fail))
        refine wpQuiet_nil ?_
        intro _ hw'
        obtain ⟨⟨dq, osq⟩, hw''⟩ := hw'
        subst hw''
        have HQ := below_next HBr.out (below_regrown wr dq osq)
        clear d3' d4' g0' g1' g2' x0' x1' x2'
        generalize grow (redrawn wr dq) osq = w9 at *
        go_wp2
        go_roundw
        case rel => exact ⟨r, by omega, by go_num, by rw [HL.out, HR.out], HQ⟩
        case measure => simp [intOf] <;> omega
      · have e6 : (yo != 6) = true := by simp [h6]
        by_cases hux : u = x
        · have e : eqvB u.1 u.2.1 u.2.2 x.1 x.2.1 x.2.2 = true := (eqvB_iff _ _ _ _ _ _).2 hux
          rw [e] at hq
          have HR : Hid (ks (r + 1) = decide (yo = 4)) := by show _ = _; rw [HNX.out]; unfold hasS; rw [if_pos ⟨h6, by rw [← hux]; exact HU.out⟩]
          clear h6 HNX e hux
          go_wp2_with fail
          have hd3 := fun d os => d3' d os
          refine wp_region_quiet_below (by assumption) (by kernel_rfl) ?_
          repeat (go_big_quiet_step (fail))
          refine wpQuiet_nil ?_
          intro _ hw'
          obtain ⟨⟨dq, osq⟩, hw''⟩ := hw'
          subst hw''
          have d3 := d3' dq osq
          have HQ := below_next HBw.out (below_regrown wr dq osq)
          clear d3' d4' g0' g1' g2' x0' x1' x2' hd3
          generalize grow (redrawn wr dq) osq = w9 at *
          go_wp2
          go_ret
          exact ⟨by rw [HL.out, HR.out]; rfl, HQ⟩
        · have e : eqvB u.1 u.2.1 u.2.2 x.1 x.2.1 x.2.2 = false := Bool.eq_false_iff.2 fun k => hux ((eqvB_iff _ _ _ _ _ _).1 k)
          rw [e] at hq
          have HR : Hid (ks (r + 1) = ks r) := by show _ = _; rw [HNX.out]; unfold hasS; rw [if_neg (fun k => hux (by rw [← HU.out]; exact k.2))]
          clear h6 HNX e hux
          go_wp2_with fail
          refine wp_region_quiet_below (by assumption) (by kernel_rfl) ?_
          repeat (go_big_quiet_step (fail))
          refine wpQuiet_nil ?_
          intro _ hw'
          obtain ⟨⟨dq, osq⟩, hw''⟩ := hw'
          subst hw''
          have HQ := below_next HBr.out (below_regrown wr dq osq)
          clear d3' d4' g0' g1' g2' x0' x1' x2'
          generalize grow (redrawn wr dq) osq = w9 at *
          go_wp2
          go_roundw
          case rel => exact ⟨r, by omega, by go_num, by rw [HL.out, HR.out], HQ⟩
          case measure => simp [intOf] <;> omega
end Go.Proofs.YtgiefgmhjcjabaaDoor
