/- The contracts of the document's State and Out. Conditions: those of kept. -/
import Derived.Test.YtocdgddahbpkpaaDoorUG
import Derived.OrdersHeld
namespace Go.Proofs.YtocdgddahbpkpaaDoor
open Go.RowKit Go.PlainAid Ln Go.Sort
set_option linter.unusedVariables false
set_option linter.unusedSimpArgs false

/-- what lay stays -/
def Stay (w wx : World) : Prop := Below w.heap.size w wx
theorem Stay.later {w wx wy : World} (h : Stay w wx) (hb : Below wx.heap.size wx wy) : Stay w wy := below_next h hb
theorem Stay.drew (w : World) : Stay w { w with drawn := w.drawn + 1 } := ⟨rfl, rfl, rfl, Nat.le_refl _, fun _ _ => rfl⟩
set_option maxHeartbeats 4000000 in
theorem state_any (m : Int) (v : Value) (ys : List YD) (w : World) (hv : DSl w v ys) (hi : InD w ys) (hk : ∀ i, i < ys.length → OkD (yd ys i).1) (hl : ys.length ≤ 1000000) :
    Calls Tryd.prog 11 #[.int .i64 m, v] w fun e w' => e = .returned (.agg (stC m (keptE m (ys.map (·.1))) nilS).toArray) ∧ Below w.heap.size w w' := by
  have HK : Hid (∀ w', Below w.heap.size w w' → Calls Tryd.prog 21 #[.int .i64 m, v] w' fun e w'' => e = .returned (.agg (encV (keptE m (ys.map (·.1)))).toArray) ∧ Below w'.heap.size w' w'') := fun w' hb => kept_any m v ys w' (hv.later hb) (hi.later hb) hk hl
  clear hv hi hk hl
  generalize keptE m (ys.map (·.1)) = x at *
  have R0 := Blk.new w (stC 0 noV nilS) 28
  have HR : Hid (Blk (w.alloc (.cells (stC 0 noV nilS).toArray 28)) w.heap.size (stC 0 noV nilS) 28) := R0
  clear R0
  go_enter Tryd.func11, Tryd.ntmps11
  go_wp2_with fail
  refine (HK.out _ (below_box _ _)).mono ?_
  rintro e w2 ⟨rfl, hb2⟩
  have R2 : Blk w2 w.heap.size (stC 0 noV nilS) 28 := HR.out.later hb2
  have HB2 : Hid (Below w.heap.size w w2) := below_next (below_box _ _) hb2
  clear HR HK hb2
  simp only [encV]
  go_wp2_with (first
    | ((with_reducible refine wp_storeB 28 (.tmp 4) (.tmp 9) w.heap.size 0 (stC m x nilS) (stC 0 noV nilS) 28 ?_ ?_ (stC_one _ _ rfl) ?_ ?_ ?_ R2 ?_); (exact infoSt); (exact (show 0 + 6 ≤ 6 by decide)); (exact ⟨rfl, rfl⟩); (exact rfl); (exact rfl); (intro w5 D1 o5); (replace D1 : Blk w5 w.heap.size (stC m x nilS) 28 := D1); (have HD : Hid (Blk w5 w.heap.size (stC m x nilS) 28) := D1); (have HB5 : Hid (Below w.heap.size w w5) := below_oth HB2.out o5 (Nat.le_refl _) (Nat.le_refl _) HB2.out.size); (clear D1 o5 HB2)))
  refine ret_blk rfl w.heap.size (stC m x nilS) 28 _ Tryd.underlying28 rfl infoSt rfl HD.out rfl ?_
  exact ⟨rfl, HB5.out⟩
set_option maxRecDepth 100000 in
set_option maxHeartbeats 8000000 in
theorem out_any (m : Int) (v : Value) (ys : List YD) (d : Dd) (va : Value) (w : World) (hv : DSl w v ys) (hi : InD w ys) (hk : ∀ i, i < ys.length → OkD (yd ys i).1) (hl : ys.length ≤ 1000000) (ha : VSl w va d.a) (hd : OkD d) :
    Calls Tryd.prog 15 #[.int .i64 m, v, .agg (ddC d va).toArray] w fun e w' => ∃ vo, e = .returned vo ∧ VSl w' vo (outD (keptE m (ys.map (·.1))) d) ∧ Below w.heap.size w w' := by
  have mixed : Tryd.prog.follows .mixedOrders = true := by kernel_rfl
  have HK : Hid (∀ w', Below w.heap.size w w' → Calls Tryd.prog 21 #[.int .i64 m, v] w' fun e w'' => e = .returned (.agg (encV (keptE m (ys.map (·.1)))).toArray) ∧ Below w'.heap.size w' w'') := fun w' hb => kept_any m v ys w' (hv.later hb) (hi.later hb) hk hl
  clear hv hi hk hl
  generalize keptE m (ys.map (·.1)) = x at *
  obtain ⟨⟨y1, y2, y3⟩, yo, ya⟩ := d
  have HD0 : Hid (Blk (w.alloc (.cells (ddC ⟨(y1, y2, y3), yo, ya⟩ va).toArray 36)) w.heap.size (ddC ⟨(y1, y2, y3), yo, ya⟩ va) 36) := Blk.new w _ _
  obtain ⟨lo, hlo⟩ : ∃ lo, outD x ⟨(y1, y2, y3), yo, ya⟩ = lo := ⟨_, rfl⟩
  have HLo : Hid (outD x ⟨(y1, y2, y3), yo, ya⟩ = lo) := hlo
  rw [hlo]
  clear hlo
  simp only [ddC]
  have HA : Hid (VSl w va ya) := ha
  have HOk : Hid (OkD ⟨(y1, y2, y3), yo, ya⟩) := hd
  clear ha hd
  go_enter Tryd.func15, Tryd.ntmps15
  go_wp2_with fail
  refine (HK.out _ (below_box _ _)).mono ?_
  rintro e w2 ⟨rfl, hb2⟩
  have HD2 : Hid (Blk w2 w.heap.size (ddC ⟨(y1, y2, y3), yo, ya⟩ va) 36) := HD0.out.later hb2
  have HB2 : Hid (Below w.heap.size w w2) := below_next (below_box _ _) hb2
  have HP3 : Hid (Blk (w2.alloc (.cells (encV x).toArray 25)) w2.heap.size (encV x) 25) := Blk.new w2 _ _
  clear HD0 HK hb2
  simp only [encV]
  have hb3 := below_box w2 (.cells (encV x).toArray 25)
  have HD3 : Hid (Blk (w2.alloc (.cells (encV x).toArray 25)) w.heap.size (ddC ⟨(y1, y2, y3), yo, ya⟩ va) 36) := HD2.out.later hb3
  have HB3 : Hid (Below w.heap.size w (w2.alloc (.cells (encV x).toArray 25))) := below_next HB2.out hb3
  obtain ⟨w3, hw3⟩ : ∃ w3, w2.alloc (.cells (encV x).toArray 25) = w3 := ⟨_, rfl⟩
  rw [hw3] at HD3 HB3 HP3
  have ew : w2.alloc (.cells #[.int .i64 x.1, .int .i64 x.2.1, .string x.2.2] 25) = w3 := hw3
  have HW3 : Hid (w2.alloc (.cells #[.int .i64 x.1, .int .i64 x.2.1, .string x.2.2] 25) = w3) := ew
  have d3 := (dd_cells HD2.out).2.2.2.1
  dsimp only at d3
  have hl2 : w.heap.size < w2.heap.size := HD2.out.lt
  clear HD2 HB2 hb3 hw3 ew
  by_cases h2 : yo = 2
  · subst h2
    have HL : Hid (lo = [x]) := by show _ = _; rw [← HLo.out, outD_2 rfl]
    clear HLo
    go_wp2
    go_ret
    have HO := own_one (w2.alloc (.cells #[.int .i64 x.1, .int .i64 x.2.1, .string x.2.2] 25)) w.heap.size (by rw [HW3.out]; exact HB3.out.size) x
    exact ⟨_, rfl, by rw [HL.out]; simpa [encV] using HO.vsl, below_more (by rw [HW3.out]; exact HB3.out) _⟩
  by_cases h3 : yo = 3
  · subst h3
    have hlen : 1 < ya.length := HOk.out.2 rfl
    obtain ⟨bv, ov, cv, rfl, hbv, hcv, hat⟩ := vsl_first HA.out (by omega)
    have hat0 := hat 0 (by omega)
    rw [Nat.zero_mul, Nat.add_zero] at hat0
    have HG0 : Hid (At w bv ov (nv ya 0)) := hat0
    have HBV : Hid (bv < w.heap.size) := hbv
    have e : (decide (x = nv ya 0)) = eqvB x.1 x.2.1 x.2.2 (nv ya 0).1 (nv ya 0).2.1 (nv ya 0).2.2 := by
      by_cases h : x = nv ya 0
      · rw [decide_eq_true h]; exact ((eqvB_iff _ _ _ _ _ _).2 h).symm
      · rw [decide_eq_false h]; exact (Bool.eq_false_iff.2 fun k => h ((eqvB_iff _ _ _ _ _ _).1 k)).symm
    have HL : Hid (lo = [yesV (eqvB x.1 x.2.1 x.2.2 (nv ya 0).1 (nv ya 0).2.1 (nv ya 0).2.2)]) := by show _ = _; rw [← HLo.out, outD_3 rfl]; dsimp only; rw [e]
    clear e hat hat0 hbv HA HOk HLo
    generalize nv ya 0 = g at *
    obtain ⟨n, hn⟩ : ∃ n, ya.length = n := ⟨_, rfl⟩
    rw [hn] at hlen hcv HD3 ⊢
    have hn0 : 0 < n := by omega
    clear hn
    have hq := fun w => eqV x.1 x.2.1 g.1 g.2.1 x.2.2 g.2.2 w
    have hg := eqgV
    go_wp2_with fail
    rename_i K hKK
    rw [HW3.out]
    obtain ⟨p, hp⟩ : ∃ p, w2.heap.size = p := ⟨_, rfl⟩
    obtain ⟨z, hz⟩ : ∃ z, w.heap.size = z := ⟨_, rfl⟩
    rw [hp] at HP3
    have HP : Hid (Blk w3 p (encV x) 25) := HP3.out
    have HD : Hid (Blk w3 z (ddC ⟨(y1, y2, y3), 3, ya⟩ (.slice (some ⟨bv, ov, none⟩) n cv)) 36) := by rw [← hz]; exact HD3.out
    have HG : Hid (∀ wx, Stay w3 wx → wx.rangeAt bv ov (vls g.1 g.2.1 g.2.2)) := by
      intro wx hx j u hj
      obtain ⟨g0, g1, g2⟩ := HG0.out.later HBV.out (below_next HB3.out hx)
      rcases j with _ | _ | _ | j
      · simp [vls] at hj; subst hj; exact g0
      · simp [vls] at hj; subst hj; exact g1
      · simp [vls] at hj; subst hj; exact g2
      · simp [vls] at hj
    simp only [hp, hz]
    refine wp_region_held (S := Stay w3) mixed ?_
    have HS : Stay w3 { w3 with drawn := w3.drawn + 1 } := Stay.drew w3
    have HWW : Below w.heap.size w { w3 with drawn := w3.drawn + 1 } := below_next HB3.out HS
    generalize ({ w3 with drawn := w3.drawn + 1 } : World) = n0 at HS HWW ⊢
    clear HD3 HP3 HG0 HBV d3 hl2
    refine takeH 0 19 (.agg #[.int .i64 x.1, .int .i64 x.2.1, .string x.2.2]) rfl rfl (by kernel_rfl) (by kernel_rfl) (by kernel_rfl) (fun c a w h => h) (yieldsIf_load_mid rfl 25 (.tmp 7) rfl p 0 rfl (vls x.1 x.2.1 x.2.2) _ (fun wx hx => ((HP.out.later hx).range 0 _ (fun j v h => by rw [Nat.zero_add]; exact h))) Tryd.underlying25 rfl infoVv) HS ?_
    simp only [List.setIfInBounds_toArray, List.set_cons_zero, List.set_cons_succ]
    refine takeH 1 20 (.pointer (some ⟨z, 4, none⟩)) rfl rfl (by kernel_rfl) (by kernel_rfl) (by kernel_rfl) (fun c a w h => h) (.inl ⟨rfl, fun w _ => by go_simp⟩) HS ?_
    simp only [List.setIfInBounds_toArray, List.set_cons_zero, List.set_cons_succ]
    refine takeH 2 21 (.slice (some ⟨bv, ov, none⟩) n cv) rfl rfl (by kernel_rfl) (by kernel_rfl) (by kernel_rfl) (fun c a w h => h) (.inl ⟨rfl, fun wx hx => by have c := (HD.out.later hx).cell 4 _ rfl; go_simp⟩) HS ?_
    simp only [List.setIfInBounds_toArray, List.set_cons_zero, List.set_cons_succ]
    refine takeH 3 22 (.pointer (some ⟨bv, ov, none⟩)) rfl rfl (by kernel_rfl) (by kernel_rfl) (by kernel_rfl) (fun c a w h => h) (.inl ⟨rfl, fun w _ => by go_simp⟩) HS ?_
    simp only [List.setIfInBounds_toArray, List.set_cons_zero, List.set_cons_succ]
    refine takeH 4 23 (.agg #[.int .i64 g.1, .int .i64 g.2.1, .string g.2.2]) rfl rfl (by kernel_rfl) (by kernel_rfl) (by kernel_rfl) (fun c a w h => h) (yieldsIf_load_mid rfl 25 (.tmp 22) rfl bv ov rfl (vls g.1 g.2.1 g.2.2) _ (fun wx hx => HG.out wx hx) Tryd.underlying25 rfl infoVv) HS ?_
    simp only [List.setIfInBounds_toArray, List.set_cons_zero, List.set_cons_succ]
    refine takeH 5 24 (.bool (eqvB x.1 x.2.1 x.2.2 g.1 g.2.1 g.2.2)) rfl rfl (by kernel_rfl) (by kernel_rfl) (by kernel_rfl) (fun c a w h => h) (.inl ⟨rfl, fun wx hx => by go_simp⟩) HS ?_
    simp only [List.setIfInBounds_toArray, List.set_cons_zero, List.set_cons_succ]
    refine wpAnyH_all (rs := [6]) (by kernel_rfl) (by simp) (fun i hi => ?_)
    obtain rfl : i = 6 := by simpa using hi
    refine wpOp_doG 6 (by rfl) (by rfl) ?_
    go_wp2_with fail
    refine (yes_any (eqvB x.1 x.2.1 x.2.2 g.1 g.2.1 g.2.2) n0).mono ?_
    rintro e q1 ⟨rfl, hb⟩
    simp only [encV]
    refine ⟨HS.later hb, ?_⟩
    replace HS := HS.later hb
    replace HWW := below_next HWW hb
    clear hb
    refine wpAnyH_all (rs := [7]) (by kernel_rfl) (by simp) (fun i hi => ?_)
    obtain rfl : i = 7 := by simpa using hi
    refine wpOp_doG 7 (by rfl) (by rfl) ?_
    go_wp2_with fail
    have HO := own_one q1 w.heap.size HWW.size (yesV (eqvB x.1 x.2.1 x.2.2 g.1 g.2.1 g.2.2))
    have hb := below_box q1 (.cells (encV (yesV (eqvB x.1 x.2.1 x.2.2 g.1 g.2.1 g.2.2))).toArray 25)
    simp only [encV] at HO hb
    generalize q1.alloc (.cells #[.int .i64 (yesV (eqvB x.1 x.2.1 x.2.2 g.1 g.2.1 g.2.2)).1, .int .i64 (yesV (eqvB x.1 x.2.1 x.2.2 g.1 g.2.1 g.2.2)).2.1, .string (yesV (eqvB x.1 x.2.1 x.2.2 g.1 g.2.1 g.2.2)).2.2] 25) = q2 at HO hb ⊢
    obtain ⟨q8, hq8⟩ : ∃ q8, q1.heap.size = q8 := ⟨_, rfl⟩
    simp only [hq8] at HO ⊢
    clear hq8
    refine ⟨HS.later hb, ?_⟩
    replace HS := HS.later hb
    replace HWW := below_next HWW hb
    clear hb
    refine takeH 8 6 (.slice (some ⟨q8, 0, none⟩) 1 1) rfl rfl (by kernel_rfl) (by kernel_rfl) (by kernel_rfl) (fun c a w h => h) (.inl ⟨rfl, fun w _ => rfl⟩) HS ?_
    simp only [List.setIfInBounds_toArray, List.set_cons_zero, List.set_cons_succ]
    refine wpAnyH_done (by kernel_rfl) ?_ _
    show K _ _
    apply hKK
    clear hKK
    go_wp2_with fail
    go_ret
    exact ⟨_, rfl, by rw [HL.out]; exact HO.vsl, HWW⟩
  · have HL : Hid (lo = []) := by show _ = _; rw [← HLo.out, outD_o h2 h3]
    have e2 : (yo == 2) = false := by simp [h2]
    have e3 : (yo == 3) = false := by simp [h3]
    clear h2 h3
    go_wp2
    go_ret
    exact ⟨_, rfl, by rw [HL.out]; exact ⟨none, 0, rfl, Nat.le_refl _, by omega, .inl ⟨rfl, fun _ => rfl⟩⟩, by rw [HW3.out]; exact HB3.out⟩
end Go.Proofs.YtocdgddahbpkpaaDoor
