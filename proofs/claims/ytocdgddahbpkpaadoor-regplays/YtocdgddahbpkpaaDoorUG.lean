/- The contract of the document's kept: what is kept behind all that was done. Conditions: what is written has what it wants; sizes. -/
import Derived.Test.YtocdgddahbpkpaaDoorUF
import Derived.BigQuiet
namespace Go.Proofs.YtocdgddahbpkpaaDoor
open Go.RowKit Go.PlainAid Ln Go.Sort
set_option linter.unusedVariables false
set_option linter.unusedSimpArgs false

/-- what is done has what it wants -/
def OkD (d : Dd) : Prop := (d.o = 1 → 0 < d.a.length) ∧ (d.o = 3 → 1 < d.a.length)
theorem kept_next (m : Int) (ys : List YD) (k : Nat) (h : k < ys.length) : keptE m ((ys.map (·.1)).take (k + 1)) = nxV m (keptE m ((ys.map (·.1)).take k)) (yd ys k).1 := by
  rw [List.take_add_one, map_yd ys k h]
  exact keptE_snoc _ _ _
theorem blk_set3 {w : World} {p : Nat} {x : Val} {t : TypeId} (h : Blk w p (encV x) t) (y : Val) : Blk (((w.setCell ⟨p, 0, none⟩ (.int .i64 y.1)).setCell ⟨p, 1, none⟩ (.int .i64 y.2.1)).setCell ⟨p, 2, none⟩ (.string y.2.2)) p (encV y) t :=
  ((Blk.set h 0 (.int .i64 y.1)).set 1 (.int .i64 y.2.1)).set 2 (.string y.2.2)
theorem v_froz {w : World} {q : Nat} {x : Val} {t : TypeId} (h : Blk w q (encV x) t) : w.frozen? ⟨q, 0, none⟩ = false ∧ w.frozen? ⟨q, 1, none⟩ = false ∧ w.frozen? ⟨q, 2, none⟩ = false := ⟨h.froz 0, h.froz 1, h.froz 2⟩
/-- how its loop stands -/
structure Kp (w wr : World) (z : Nat) (x : Val) : Prop where
  r : Blk wr z (encV noV) 25
  o : Blk wr (z + 1) (encV noV) 25
  v : Blk wr (z + 1 + 1) (encV x) 25
  b : Below w.heap.size w wr
theorem Kp.later {w wr wn : World} {z : Nat} {x : Val} (h : Kp w wr z x) (hb : Below wr.heap.size wr wn) : Kp w wn z x := ⟨h.r.later hb, h.o.later hb, h.v.later hb, below_next h.b hb⟩
theorem Kp.set {w wr : World} {z : Nat} {x : Val} (h : Kp w wr z x) (hz : z = w.heap.size) (y : Val) : Kp w (((wr.setCell ⟨z + 1 + 1, 0, none⟩ (.int .i64 y.1)).setCell ⟨z + 1 + 1, 1, none⟩ (.int .i64 y.2.1)).setCell ⟨z + 1 + 1, 2, none⟩ (.string y.2.2)) z y :=
  have o := oth_set3 wr (z + 1 + 1) (.int .i64 y.1) (.int .i64 y.2.1) (.string y.2.2)
  ⟨h.r.oth o (by omega) (by omega), h.o.oth o (by omega) (by omega), blk_set3 h.v y, below_oth h.b o (by omega) (by omega) h.b.size⟩
set_option maxRecDepth 100000 in
set_option maxHeartbeats 16000000 in
theorem kept_any (m : Int) (v : Value) (ys : List YD) (w : World) (hv : DSl w v ys) (hi : InD w ys) (hk : ∀ i, i < ys.length → OkD (yd ys i).1) (hl : ys.length ≤ 1000000) :
    Calls Tryd.prog 21 #[.int .i64 m, v] w fun e w' => e = .returned (.agg (encV (keptE m (ys.map (·.1)))).toArray) ∧ Below w.heap.size w w' := by
  have mixed : Tryd.prog.follows .mixedOrders = true := by kernel_rfl
  obtain ⟨a, c, rfl, hc1, hc2, _⟩ := hv.form
  have HV : Hid (DSl w (.slice a ys.length c) ys) := hv
  have HI : Hid (InD w ys) := hi
  have HK : Hid (∀ i, i < ys.length → OkD (yd ys i).1) := hk
  have HX : Hid (∀ k, k < ys.length → keptE m ((ys.map (·.1)).take (k + 1)) = nxV m (keptE m ((ys.map (·.1)).take k)) (yd ys k).1) := fun k h => kept_next m ys k h
  have HE : Hid (keptE m ((ys.map (·.1)).take ys.length) = keptE m (ys.map (·.1))) := by
    show _ = _
    rw [List.take_of_length_le (by simp)]
  have H0 : Hid (keptE m ((ys.map (·.1)).take 0) = noV) := rfl
  clear hv hi hk
  generalize keptE m (ys.map (·.1)) = xe at *
  generalize hks : (fun k => keptE m ((ys.map (·.1)).take k)) = ks
  have HKS : Hid (∀ k, keptE m ((ys.map (·.1)).take k) = ks k) := fun k => congrFun hks k
  clear hks
  obtain ⟨n, hn⟩ : ∃ n, ys.length = n := ⟨_, rfl⟩
  have HN : Hid (ys.length = n) := hn
  rw [hn] at hc1 HV HK hl ⊢
  clear hn
  have T := three_laid w (encV noV) (encV noV) (encV noV) 25 25 25
  have HT : Hid _ := T
  clear T
  go_enter Tryd.func21, Tryd.ntmps21
  go_wp2
  go_loopw [7] (fun i wr => ∃ k : Nat, k ≤ n ∧ i = .int .i64 (k : Int) ∧ Kp w wr w.heap.size (ks k)) (fun i w' => n - (intOf i).toNat)
  case atStart => exact ⟨0, by omega, rfl, HT.out.1, HT.out.2.1, by rw [← HKS.out 0, H0.out]; exact HT.out.2.2.1, HT.out.2.2.2⟩
  case round =>
    obtain ⟨k, hk, rfl, hkp⟩ := hrel
    have HKp : Hid (Kp w wr w.heap.size (ks k)) := hkp
    clear hkp HT
    by_cases hlt : k < n
    · have hlt' : (k : Int) < (n : Int) := by omega
      have hkm : (k : Int) + 1 ≤ 9223372036854775807 := by omega
      obtain ⟨b, o, rfl, hbl, hat⟩ := HV.out.near (by rw [HN.out]; omega)
      obtain ⟨c0, c1, c2, c3, c4⟩ := dd_at (hat k (by rw [HN.out]; exact hlt))
      have hva := HI.out k (by rw [HN.out]; exact hlt)
      have hok := HK.out k hlt
      have hnx := HX.out k (by rw [HN.out]; exact hlt)
      rw [HKS.out k, HKS.out (k + 1)] at hnx
      have hb := HKp.out.b
      have d0 := (hb.cell (p := ⟨b, o + k * 5, none⟩) hbl).trans c0
      have d1 := (hb.cell (p := ⟨b, o + k * 5 + 1, none⟩) hbl).trans c1
      have d2 := (hb.cell (p := ⟨b, o + k * 5 + 2, none⟩) hbl).trans c2
      have d3 := (hb.cell (p := ⟨b, o + k * 5 + 3, none⟩) hbl).trans c3
      have d4 := (hb.cell (p := ⟨b, o + k * 5 + 4, none⟩) hbl).trans c4
      clear c0 c1 c2 c3 c4 hat hbl hb
      obtain ⟨⟨⟨⟨y1, y2, y3⟩, yo, ya⟩, vy⟩, hy⟩ : ∃ y, yd ys k = y := ⟨_, rfl⟩
      rw [hy] at d0 d1 d2 d3 d4 hva hok hnx
      dsimp only at d0 d1 d2 d3 d4 hva
      clear hy
      obtain ⟨av, cv, rfl, hcv1, hcv2, _⟩ := hva.form
      have HVA : Hid (VSl wr (.slice av ya.length cv) ya) := hva.later HKp.out.b
      have HOK : Hid (OkD ⟨(y1, y2, y3), yo, ya⟩) := hok
      have HNX : Hid (ks (k + 1) = nxV m (ks k) ⟨(y1, y2, y3), yo, ya⟩) := hnx
      clear hva hok hnx HX HK HV HI HKS HE H0
      obtain ⟨x, hx⟩ : ∃ x, ks k = x := ⟨_, rfl⟩
      obtain ⟨x', hx'⟩ : ∃ x', ks (k + 1) = x' := ⟨_, rfl⟩
      have HX' : Hid (ks (k + 1) = x') := hx'
      rw [hx] at HKp HNX
      rw [hx'] at HNX
      clear hx hx'
      -- the deed laid
      have HD : Hid (Blk (wr.alloc (.cells #[.int .i64 y1, .int .i64 y2, .string y3, .int .i64 yo, .slice av ya.length cv] 36)) wr.heap.size (ddC ⟨(y1, y2, y3), yo, ya⟩ (.slice av ya.length cv)) 36) := Blk.new wr (ddC ⟨(y1, y2, y3), yo, ya⟩ (.slice av ya.length cv)) _
      have hbn : Below wr.heap.size wr (wr.alloc (.cells #[.int .i64 y1, .int .i64 y2, .string y3, .int .i64 yo, .slice av ya.length cv] 36)) := below_box _ _
      have HKn : Hid (Kp w (wr.alloc (.cells #[.int .i64 y1, .int .i64 y2, .string y3, .int .i64 yo, .slice av ya.length cv] 36)) w.heap.size x) := HKp.out.later hbn
      have HVn : Hid (VSl (wr.alloc (.cells #[.int .i64 y1, .int .i64 y2, .string y3, .int .i64 yo, .slice av ya.length cv] 36)) (.slice av ya.length cv) ya) := HVA.out.later hbn
      clear hbn HVA HKp
      by_cases h1 : yo = 1
      · by_cases h9 : m = 9
        · subst h1 h9
          have hlen : 0 < ya.length := HOK.out.1 rfl
          have hq := fun w => eqV x.1 x.2.1 noV.1 noV.2.1 x.2.2 noV.2.2 w
          have hg := eqgV
          have hLs := less_bl x (nv ya 0)
          by_cases hx : x = noV
          · have e : eqvB x.1 x.2.1 x.2.2 noV.1 noV.2.1 noV.2.2 = true := (eqvB_iff _ _ _ _ _ _).2 hx
            rw [e] at hq
            have HN' : Hid (x' = nv ya 0) := by show _ = _; rw [HNX.out, nxV_9 rfl rfl]; exact if_pos (.inl hx)
            clear e hx HNX HOK hLs
            go_wp2_with fail
            clear d0 d1 d2 d3 d4
            generalize wr.alloc (.cells #[.int .i64 y1, .int .i64 y2, .string y3, .int .i64 1, .slice av ya.length cv] 36) = w5 at HD HKn HVn ⊢
            have P3 := fun d os => cell_regrown (dd_cells HD.out).2.2.2.1 d os
            have P4 := fun d os => cell_regrown (dd_cells HD.out).2.2.2.2 d os
            have V0 := fun d os => cell_regrown (v_cells HKn.out.v).1 d os
            have V1 := fun d os => cell_regrown (v_cells HKn.out.v).2.1 d os
            have V2 := fun d os => cell_regrown (v_cells HKn.out.v).2.2 d os
            have N0 := fun d os => cell_regrown (v_cells HKn.out.o).1 d os
            have N1 := fun d os => cell_regrown (v_cells HKn.out.o).2.1 d os
            have N2 := fun d os => cell_regrown (v_cells HKn.out.o).2.2 d os
            refine wp_region_quiet_below (by assumption) (by kernel_rfl) ?_
            repeat (go_big_quiet_step (fail))
            refine wpQuiet_nil ?_
            intro _ hw'
            obtain ⟨⟨dq, osq⟩, hw''⟩ := hw'
            subst hw''
            have hbq := below_regrown w5 dq osq
            have HKq : Hid (Kp w (grow (redrawn w5 dq) osq) w.heap.size x) := HKn.out.later hbq
            have HDq := HD.out.later hbq
            have HVq := HVn.out.later hbq
            clear P3 P4 V0 V1 V2 N0 N1 N2 HD HKn HVn hbq
            generalize grow (redrawn w5 dq) osq = u at *
            obtain ⟨p0, p1, p2, p3, p4⟩ := dd_cells HDq
            clear HDq
            obtain ⟨bv, ov, cv', hv1, _, _, hvat⟩ := vsl_first HVq (by omega)
            injection hv1 with hv1 _ hv3
            subst hv1 hv3
            obtain ⟨g0, g1, g2⟩ := hvat 0 (by omega)
            simp only [Nat.zero_mul, Nat.add_zero] at g0 g1 g2
            clear hvat
            obtain ⟨v0, v1, v2⟩ := v_cells HKq.out.v
            obtain ⟨f0, f1, f2⟩ := v_froz HKq.out.v
            clear HVq
            go_wp2
            go_roundw
            case rel => exact ⟨k + 1, by omega, by go_num, by rw [HX'.out, HN'.out]; exact HKq.out.set rfl (nv ya 0)⟩
            case measure => simp [intOf]; omega
          · have e : eqvB x.1 x.2.1 x.2.2 noV.1 noV.2.1 noV.2.2 = false := Bool.eq_false_iff.2 fun k => hx ((eqvB_iff _ _ _ _ _ _).1 k)
            rw [e] at hq
            by_cases hb : ltV x (nv ya 0) = true
            · have HN' : Hid (x' = nv ya 0) := by show _ = _; rw [HNX.out, nxV_9 rfl rfl]; exact if_pos (.inr hb)
              have hb' : ltV x (nv ya 0) = true := hb
              rw [hb'] at hLs
              clear e hx hb hb' HNX HOK
              go_wp2_with fail
              clear d0 d1 d2 d3 d4
              generalize wr.alloc (.cells #[.int .i64 y1, .int .i64 y2, .string y3, .int .i64 1, .slice av ya.length cv] 36) = w5 at HD HKn HVn ⊢
              have P3 := fun d os => cell_regrown (dd_cells HD.out).2.2.2.1 d os
              have P4 := fun d os => cell_regrown (dd_cells HD.out).2.2.2.2 d os
              have V0 := fun d os => cell_regrown (v_cells HKn.out.v).1 d os
              have V1 := fun d os => cell_regrown (v_cells HKn.out.v).2.1 d os
              have V2 := fun d os => cell_regrown (v_cells HKn.out.v).2.2 d os
              have N0 := fun d os => cell_regrown (v_cells HKn.out.o).1 d os
              have N1 := fun d os => cell_regrown (v_cells HKn.out.o).2.1 d os
              have N2 := fun d os => cell_regrown (v_cells HKn.out.o).2.2 d os
              obtain ⟨bv, ov, cv', hv1, hvb, _, hvat⟩ := vsl_first HVn.out (by omega)
              injection hv1 with hv1 _ hv3
              subst hv1 hv3
              have E0 := fun d os => cell_regrown (hvat 0 (by omega)).1 d os
              have E1 := fun d os => cell_regrown (hvat 0 (by omega)).2.1 d os
              have E2 := fun d os => cell_regrown (hvat 0 (by omega)).2.2 d os
              simp only [Nat.zero_mul, Nat.add_zero] at E0 E1 E2
              refine wp_region_quiet_below (by assumption) (by kernel_rfl) ?_
              repeat (go_big_quiet_step (first | (go_at_call 20; with_reducible exact Calls.regrown_of (hLs _))))
              refine wpQuiet_nil ?_
              intro _ hw'
              obtain ⟨⟨dq, osq⟩, hw''⟩ := hw'
              subst hw''
              have hbq := below_regrown w5 dq osq
              have HKq : Hid (Kp w (grow (redrawn w5 dq) osq) w.heap.size x) := HKn.out.later hbq
              have HDq := HD.out.later hbq
              have HVq := HVn.out.later hbq
              clear P3 P4 V0 V1 V2 N0 N1 N2 E0 E1 E2 hvat hvb HD HKn HVn hbq
              generalize grow (redrawn w5 dq) osq = u at *
              obtain ⟨p0, p1, p2, p3, p4⟩ := dd_cells HDq
              clear HDq
              obtain ⟨bv', ov', cv', hv1, _, _, hvat⟩ := vsl_first HVq (by omega)
              injection hv1 with hv1 _ hv3
              injection hv1 with hv1
              injection hv1 with hv1 hv2
              subst hv1 hv2 hv3
              obtain ⟨g0, g1, g2⟩ := hvat 0 (by omega)
              simp only [Nat.zero_mul, Nat.add_zero] at g0 g1 g2

              clear hvat
              obtain ⟨v0, v1, v2⟩ := v_cells HKq.out.v
              obtain ⟨f0, f1, f2⟩ := v_froz HKq.out.v
              clear HVq
              go_wp2
              go_roundw
              case rel => exact ⟨k + 1, by omega, by go_num, by rw [HX'.out, HN'.out]; exact HKq.out.set rfl (nv ya 0)⟩
              case measure => simp [intOf]; omega
            · have HN' : Hid (x' = x) := by show _ = _; rw [HNX.out, nxV_9 rfl rfl]; exact if_neg (fun h => h.elim hx hb)
              have hb' : ltV x (nv ya 0) = false := Bool.eq_false_iff.2 hb
              rw [hb'] at hLs
              clear e hx hb hb' HNX HOK
              go_wp2_with fail
              clear d0 d1 d2 d3 d4
              generalize wr.alloc (.cells #[.int .i64 y1, .int .i64 y2, .string y3, .int .i64 1, .slice av ya.length cv] 36) = w5 at HD HKn HVn ⊢
              have P3 := fun d os => cell_regrown (dd_cells HD.out).2.2.2.1 d os
              have P4 := fun d os => cell_regrown (dd_cells HD.out).2.2.2.2 d os
              have V0 := fun d os => cell_regrown (v_cells HKn.out.v).1 d os
              have V1 := fun d os => cell_regrown (v_cells HKn.out.v).2.1 d os
              have V2 := fun d os => cell_regrown (v_cells HKn.out.v).2.2 d os
              have N0 := fun d os => cell_regrown (v_cells HKn.out.o).1 d os
              have N1 := fun d os => cell_regrown (v_cells HKn.out.o).2.1 d os
              have N2 := fun d os => cell_regrown (v_cells HKn.out.o).2.2 d os
              obtain ⟨bv, ov, cv', hv1, hvb, _, hvat⟩ := vsl_first HVn.out (by omega)
              injection hv1 with hv1 _ hv3
              subst hv1 hv3
              have E0 := fun d os => cell_regrown (hvat 0 (by omega)).1 d os
              have E1 := fun d os => cell_regrown (hvat 0 (by omega)).2.1 d os
              have E2 := fun d os => cell_regrown (hvat 0 (by omega)).2.2 d os
              simp only [Nat.zero_mul, Nat.add_zero] at E0 E1 E2
              refine wp_region_quiet_below (by assumption) (by kernel_rfl) ?_
              repeat (go_big_quiet_step (first | (go_at_call 20; with_reducible exact Calls.regrown_of (hLs _))))
              refine wpQuiet_nil ?_
              intro _ hw'
              obtain ⟨⟨dq, osq⟩, hw''⟩ := hw'
              subst hw''
              have hbq := below_regrown w5 dq osq
              have HKq : Hid (Kp w (grow (redrawn w5 dq) osq) w.heap.size x) := HKn.out.later hbq
              have HDq := HD.out.later hbq
              have HVq := HVn.out.later hbq
              clear P3 P4 V0 V1 V2 N0 N1 N2 E0 E1 E2 hvat hvb HD HKn HVn hbq
              generalize grow (redrawn w5 dq) osq = u at *
              obtain ⟨p0, p1, p2, p3, p4⟩ := dd_cells HDq
              clear HDq
              clear HVq
              go_wp2
              go_roundw
              case rel => exact ⟨k + 1, by omega, by go_num, by rw [HX'.out, HN'.out]; exact HKq.out⟩
              case measure => simp [intOf]; omega
        · subst h1
          have hlen : 0 < ya.length := HOK.out.1 rfl
          have e9 : (m == 9) = false := by simp [h9]
          have HN' : Hid (x' = nv ya 0) := by show _ = _; rw [HNX.out, nxV_1 rfl h9]
          obtain ⟨v0, v1, v2⟩ := v_cells HKn.out.v
          obtain ⟨f0, f1, f2⟩ := v_froz HKn.out.v
          obtain ⟨bv, ov, cv', hv1, hvb, _, hvat⟩ := vsl_first HVn.out (by omega)
          injection hv1 with hv1 _ hv3
          subst hv1 hv3
          obtain ⟨g0, g1, g2⟩ := hvat 0 (by omega)
          simp only [Nat.zero_mul, Nat.add_zero] at g0 g1 g2
          clear hvat h9 HNX HOK HVn
          go_wp2
          go_roundw
          case rel => exact ⟨k + 1, by omega, by go_num, by rw [HX'.out, HN'.out]; exact HKn.out.set rfl (nv ya 0)⟩
          case measure => simp [intOf]; omega
      · by_cases h3 : yo = 3
        · subst h3
          have hlen : 1 < ya.length := HOK.out.2 rfl
          have hq := fun w => eqV x.1 x.2.1 (nv ya 0).1 (nv ya 0).2.1 x.2.2 (nv ya 0).2.2 w
          have hg := eqgV
          by_cases hx : x = nv ya 0
          · have e : eqvB x.1 x.2.1 x.2.2 (nv ya 0).1 (nv ya 0).2.1 (nv ya 0).2.2 = true := (eqvB_iff _ _ _ _ _ _).2 hx
            rw [e] at hq
            have HN' : Hid (x' = nv ya 1) := by show _ = _; rw [HNX.out, nxV_3 rfl]; exact if_pos hx
            clear e hx HNX HOK
            go_wp2_with fail
            clear d0 d1 d2 d3 d4
            generalize wr.alloc (.cells #[.int .i64 y1, .int .i64 y2, .string y3, .int .i64 3, .slice av ya.length cv] 36) = w5 at HD HKn HVn ⊢
            have P3 := fun d os => cell_regrown (dd_cells HD.out).2.2.2.1 d os
            have P4 := fun d os => cell_regrown (dd_cells HD.out).2.2.2.2 d os
            have V0 := fun d os => cell_regrown (v_cells HKn.out.v).1 d os
            have V1 := fun d os => cell_regrown (v_cells HKn.out.v).2.1 d os
            have V2 := fun d os => cell_regrown (v_cells HKn.out.v).2.2 d os
            obtain ⟨bv, ov, cv', hv1, hvb, _, hvat⟩ := vsl_first HVn.out (by omega)
            injection hv1 with hv1 _ hv3
            subst hv1 hv3
            have E0 := fun d os => cell_regrown (hvat 0 (by omega)).1 d os
            have E1 := fun d os => cell_regrown (hvat 0 (by omega)).2.1 d os
            have E2 := fun d os => cell_regrown (hvat 0 (by omega)).2.2 d os
            simp only [Nat.zero_mul, Nat.add_zero] at E0 E1 E2
            refine wp_region_quiet_below (by assumption) (by kernel_rfl) ?_
            repeat (go_big_quiet_step (fail))
            refine wpQuiet_nil ?_
            intro _ hw'
            obtain ⟨⟨dq, osq⟩, hw''⟩ := hw'
            subst hw''
            have hbq := below_regrown w5 dq osq
            have HKq : Hid (Kp w (grow (redrawn w5 dq) osq) w.heap.size x) := HKn.out.later hbq
            have HDq := HD.out.later hbq
            have HVq := HVn.out.later hbq
            clear P3 P4 V0 V1 V2 E0 E1 E2 hvat hvb HD HKn HVn hbq
            generalize grow (redrawn w5 dq) osq = u at *
            obtain ⟨p0, p1, p2, p3, p4⟩ := dd_cells HDq
            clear HDq
            obtain ⟨bv', ov', cv', hv1, _, _, hvat⟩ := vsl_first HVq (by omega)
            injection hv1 with hv1 _ hv3
            injection hv1 with hv1
            injection hv1 with hv1 hv2
            subst hv1 hv2 hv3
            obtain ⟨g0, g1, g2⟩ := hvat 1 (by omega)
            rw [Nat.one_mul] at g0 g1 g2
            rw [Nat.add_assoc] at g1 g2
            clear hvat
            obtain ⟨v0, v1, v2⟩ := v_cells HKq.out.v
            obtain ⟨f0, f1, f2⟩ := v_froz HKq.out.v
            clear HVq
            go_wp2
            go_roundw
            case rel => exact ⟨k + 1, by omega, by go_num, by rw [HX'.out, HN'.out]; exact HKq.out.set rfl (nv ya 1)⟩
            case measure => simp [intOf]; omega
          · have e : eqvB x.1 x.2.1 x.2.2 (nv ya 0).1 (nv ya 0).2.1 (nv ya 0).2.2 = false := Bool.eq_false_iff.2 fun k => hx ((eqvB_iff _ _ _ _ _ _).1 k)
            rw [e] at hq
            have HN' : Hid (x' = x) := by show _ = _; rw [HNX.out, nxV_3 rfl]; exact if_neg hx
            clear e hx HNX HOK
            go_wp2_with fail
            clear d0 d1 d2 d3 d4
            generalize wr.alloc (.cells #[.int .i64 y1, .int .i64 y2, .string y3, .int .i64 3, .slice av ya.length cv] 36) = w5 at HD HKn HVn ⊢
            have P3 := fun d os => cell_regrown (dd_cells HD.out).2.2.2.1 d os
            have P4 := fun d os => cell_regrown (dd_cells HD.out).2.2.2.2 d os
            have V0 := fun d os => cell_regrown (v_cells HKn.out.v).1 d os
            have V1 := fun d os => cell_regrown (v_cells HKn.out.v).2.1 d os
            have V2 := fun d os => cell_regrown (v_cells HKn.out.v).2.2 d os
            obtain ⟨bv, ov, cv', hv1, hvb, _, hvat⟩ := vsl_first HVn.out (by omega)
            injection hv1 with hv1 _ hv3
            subst hv1 hv3
            have E0 := fun d os => cell_regrown (hvat 0 (by omega)).1 d os
            have E1 := fun d os => cell_regrown (hvat 0 (by omega)).2.1 d os
            have E2 := fun d os => cell_regrown (hvat 0 (by omega)).2.2 d os
            simp only [Nat.zero_mul, Nat.add_zero] at E0 E1 E2
            refine wp_region_quiet_below (by assumption) (by kernel_rfl) ?_
            repeat (go_big_quiet_step (fail))
            refine wpQuiet_nil ?_
            intro _ hw'
            obtain ⟨⟨dq, osq⟩, hw''⟩ := hw'
            subst hw''
            have hbq := below_regrown w5 dq osq
            have HKq : Hid (Kp w (grow (redrawn w5 dq) osq) w.heap.size x) := HKn.out.later hbq
            have HDq := HD.out.later hbq
            have HVq := HVn.out.later hbq
            clear P3 P4 V0 V1 V2 E0 E1 E2 hvat hvb HD HKn HVn hbq
            generalize grow (redrawn w5 dq) osq = u at *
            obtain ⟨p0, p1, p2, p3, p4⟩ := dd_cells HDq
            clear HDq
            clear HVq
            go_wp2
            go_roundw
            case rel => exact ⟨k + 1, by omega, by go_num, by rw [HX'.out, HN'.out]; exact HKq.out⟩
            case measure => simp [intOf]; omega
        · have e1 : (yo == 1) = false := by simp [h1]
          have e3 : (yo == 3) = false := by simp [h3]
          have HN' : Hid (x' = x) := by show _ = _; rw [HNX.out, nxV_o h1 h3]
          clear h1 h3 HNX HOK
          go_wp2_with fail
          clear d0 d1 d2 d3 d4
          generalize wr.alloc (.cells #[.int .i64 y1, .int .i64 y2, .string y3, .int .i64 yo, .slice av ya.length cv] 36) = w5 at HD HKn HVn ⊢
          have P3 := fun d os => cell_regrown (dd_cells HD.out).2.2.2.1 d os
          have P4 := fun d os => cell_regrown (dd_cells HD.out).2.2.2.2 d os
          have V0 := fun d os => cell_regrown (v_cells HKn.out.v).1 d os
          have V1 := fun d os => cell_regrown (v_cells HKn.out.v).2.1 d os
          have V2 := fun d os => cell_regrown (v_cells HKn.out.v).2.2 d os
          refine wp_region_quiet_below (by assumption) (by kernel_rfl) ?_
          repeat (go_big_quiet_step (fail))
          refine wpQuiet_nil ?_
          intro _ hw'
          obtain ⟨⟨dq, osq⟩, hw''⟩ := hw'
          subst hw''
          have hbq := below_regrown w5 dq osq
          have HKq : Hid (Kp w (grow (redrawn w5 dq) osq) w.heap.size x) := HKn.out.later hbq
          have HDq := HD.out.later hbq
          have HVq := HVn.out.later hbq
          clear P3 P4 V0 V1 V2 HD HKn HVn hbq
          generalize grow (redrawn w5 dq) osq = u at *
          obtain ⟨p0, p1, p2, p3, p4⟩ := dd_cells HDq
          clear HDq
          clear HVq
          go_wp2
          go_roundw
          case rel => exact ⟨k + 1, by omega, by go_num, by rw [HX'.out, HN'.out]; exact HKq.out⟩
          case measure => simp [intOf]; omega
    · have e : k = n := by omega
      subst e
      have HX' : Hid (ks k = xe) := by
        show _ = _
        have h1 := HKS.out k
        have h2 := HE.out
        rw [HN.out] at h2
        rw [← h1, h2]
      have hl0 : Blk wr w.heap.size (encV noV) 25 := HKp.out.r
      obtain ⟨v0, v1, v2⟩ := v_cells HKp.out.v
      obtain ⟨r0, r1, r2⟩ := v_cells hl0
      obtain ⟨f0, f1, f2⟩ := v_froz hl0
      clear HX HK HV HI HKS HE H0
      go_wp2
      have R := blk_set3 hl0 (ks k)
      refine ret_blk rfl w.heap.size (encV (ks k)) 25 _ Tryd.underlying25 rfl infoVv rfl R rfl ?_
      exact ⟨by rw [HX'.out], below_oth HKp.out.b (oth_set3 _ _ _ _ _) (Nat.le_refl _) (Nat.le_refl _) HKp.out.b.size⟩
end Go.Proofs.YtocdgddahbpkpaaDoor
