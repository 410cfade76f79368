/- The walk of QueuePlays, on what is asked of New and Step. Conditions: the table of signs lies in memory; sizes. -/
import Derived.Test.YthgafmhpajikdaaDoorKI
import Derived.OrdersHeld
namespace Go.Proofs.YthgafmhpajikdaaDoor
open Go.RowKit Go.PlainAid Ln Go.Sort
set_option linter.unusedVariables false
set_option linter.unusedSimpArgs false

/-- how the walk through the deeds stands: the past zs, its slice vp; the state's list vl -/
structure PlQ (m : Int) (w wr : World) (z : Nat) (vp vl : Value) (zs : List YD) : Prop where
  o : OwnD wr w.heap.size vp zs
  i : InD w zs
  k : ∀ j, j < zs.length → OkQ (yd zs j).1
  s : Blk wr z (stC m noV vl) 28
  l : HeldV wr w.heap.size vl (keptQ m (zs.map (·.1)))
  b : Below w.heap.size w wr
/-- .. whatever the state's list is -/
def PlXq (m : Int) (w wr : World) (z : Nat) (vp : Value) (zs : List YD) : Prop := ∃ vl, PlQ m w wr z vp vl zs
theorem PlQ.later {m : Int} {w wr wn : World} {z : Nat} {vp vl : Value} {zs : List YD} (h : PlQ m w wr z vp vl zs) (hb : Below wr.heap.size wr wn) : PlQ m w wn z vp vl zs := ⟨h.o.later hb, h.i, h.k, h.s.later hb, h.l.later hb, below_next h.b hb⟩
theorem okQ_snoc {ys : List YD} {y : YD} (h : ∀ j, j < ys.length → OkQ (yd ys j).1) (h1 : OkQ y.1) : ∀ j, j < (ys ++ [y]).length → OkQ (yd (ys ++ [y]) j).1 := by
  intro i hi
  by_cases e : i < ys.length
  · rw [yd_left _ _ i e]; exact h i e
  · have e : i = ys.length + 0 := by simp at hi; omega
    rw [e, yd_right ys [y] 0 (by simp), yd_zero]; exact h1
theorem keptQ_past (m : Int) (zs : List YD) (y : YD) : keptQ m ((zs ++ [y]).map (·.1)) = nxQ m (keptQ m (zs.map (·.1))) y.1 := by
  rw [List.map_append]; exact keptQ_snoc _ _ _
set_option maxRecDepth 100000 in
set_option maxHeartbeats 16000000 in
theorem law_playsQ (K : QueueOK) (m : Int) (v : Value) (ys : List YD) (w : World) (ht : Tb w) (hv : DSl w v ys) (hi : InD w ys) : Calls Tryd.prog 3 #[.int .i64 m, v] w fun e w' => e = .returned (.bool true) ∧ Below w.heap.size w w' := by
  have mixed : Tryd.prog.follows .mixedOrders = true := by kernel_rfl
  have HT : Hid (Tb w) := ht
  have HV0 : Hid (DSl w v ys) := hv
  have HI : Hid (InD w ys) := hi
  have HW : Hid (∀ w', Below w.heap.size w w' → Calls Tryd.prog 6 #[] w' fun e w'' => e = .returned (.bool true) ∧ Below w'.heap.size w' w'') := fun w' hb => wakes_anyQ K w' (ht.later hb)
  have HK : Hid QueueOK := K
  clear ht hv hi K
  have hO := fun w => own_anyQ m w
  cases hm : ownQ m
  · have hN := fun w => HK.out.new m w
    rw [hm] at hN hO
    rw [if_neg (by decide)] at hN
    have hS := fun w => same_yes 0 noV w
    simp only [stC, noV] at hN hS
    clear hm
    go_enter Tryd.func3, Tryd.ntmps3
    go_wp2_with (first
      | (go_at_call 6; refine (HW.out _ (Below.refl _ _)).mono ?_; rintro e w1 ⟨rfl, hb1⟩)
      | (go_at_call 7; refine (hN _).mono ?_; rintro e w2 ⟨rfl, hb2⟩)
      | (go_at_call 8; refine (hO _).mono ?_; rintro e w3 ⟨rfl, hb3⟩; obtain ⟨s0, s1, s2, s3, s4, s5⟩ := st_cells ((Blk.new w2 (stC 0 noV nilS) 28).later hb3); simp only [noV] at s1 s2 s3)
      | (go_at_call 10; refine (hS _).mono ?_; rintro e w4 ⟨rfl, hb4⟩))
    go_ret
    exact ⟨rfl, below_next (below_next (below_more (below_next hb1 hb2) _) hb3) hb4⟩
  · have hN := fun w => HK.out.new m w
    have HM : Hid (ownQ m = true) := hm
    rw [hm] at hN hO
    rw [if_pos rfl] at hN
    have HG : Hid (∀ w', Below w.heap.size w w' → Calls Tryd.prog 9 #[v] w' fun e w'' => RGreatD w' ys e w'') := fun w' hb => lgreat_any v ys w' (HV0.out.later hb) (HI.out.later hb)
    have hS := fun w => same_st m 0 noV noV nilS nilS w (vsl_nil0 w) (vsl_nil0 w)
    rw [decide_eq_false (ownQ_ne hm), Bool.false_and] at hS
    clear hm
    simp only [stC, noV] at hN hS
    obtain ⟨a, c, rfl, hc1, hc2, _⟩ := HV0.out.form
    obtain ⟨n, hn⟩ : ∃ n, ys.length = n := ⟨_, rfl⟩
    have HN : Hid (ys.length = n) := hn
    rw [hn] at hc1 HV0 HG ⊢
    clear hn
    go_enter Tryd.func3, Tryd.ntmps3
    go_wp2_with (first
      | (go_at_call 6; refine (HW.out _ (Below.refl _ _)).mono ?_; rintro e w1 ⟨rfl, hb1⟩)
      | (go_at_call 7; refine (hN _).mono ?_; rintro e w2 ⟨rfl, hb2⟩)
      | (go_at_call 8; refine (hO _).mono ?_; rintro e w3 ⟨rfl, hb3⟩))
    have S3 := (Blk.new w2 (stC m noV nilS) 28).later hb3
    have HB3 : Hid (Below w.heap.size w w3) := below_next (below_more (below_next hb1 hb2) _) hb3
    have hzw : w.heap.size ≤ w2.heap.size := (below_next hb1 hb2).size
    obtain ⟨z, hz⟩ : ∃ z, w2.heap.size = z := ⟨_, rfl⟩
    rw [hz] at S3 hzw
    simp only [hz]
    clear hb1 hb2 hb3 hz hN hO HW
    refine (HG.out w3 HB3.out).mono ?_
    rintro e w4 ⟨b, rfl, hfew, hb4⟩
    have HS4 : Hid (Blk w4 z (stC m noV nilS) 28) := S3.later hb4
    have HB4 : Hid (Below w.heap.size w w4) := below_next HB3.out hb4
    have HF : Hid (b = false → FewDs ys) := hfew
    have HZ : Hid (w.heap.size ≤ z) := hzw
    clear HG S3 HB3 hb4 hfew hzw
    cases b
    · have HFe : Hid (FewDs ys) := HF.out rfl
      clear HF hS
      go_wp2_with fail
      rename_i K9 hKK
      refine wp_region_held (S := Stay w4) mixed ?_
      have HS : Stay w4 { w4 with drawn := w4.drawn + 1 } := Stay.drew w4
      have HWW : Below w.heap.size w { w4 with drawn := w4.drawn + 1 } := below_next HB4.out HS
      generalize ({ w4 with drawn := w4.drawn + 1 } : World) = n0 at HS HWW ⊢
      refine takeH 0 36 (.agg #[.int .i64 m, .int .i64 0, .int .i64 0, .string noB, .int .i64 0, nilS]) rfl rfl (by kernel_rfl) (by kernel_rfl) (by kernel_rfl) (fun c a w h => h) (yieldsIf_load_mid rfl 28 (.tmp 5) rfl z 0 rfl (stC m noV (nilS)) _ (fun wx hx => Blk.all (HS4.out.later hx)) Tryd.underlying28 rfl infoSt) HS ?_
      simp only [List.setIfInBounds_toArray, List.set_cons_zero, List.set_cons_succ]
      refine takeH 1 37 (.int .i64 m) rfl rfl (by kernel_rfl) (by kernel_rfl) (by kernel_rfl) (fun c a w h => h) (.inl ⟨rfl, fun w _ => rfl⟩) HS ?_
      simp only [List.setIfInBounds_toArray, List.set_cons_zero, List.set_cons_succ]
      refine takeH 2 38 (nilS) rfl rfl (by kernel_rfl) (by kernel_rfl) (by kernel_rfl) (fun c a w h => h) (.inl ⟨rfl, fun w _ => rfl⟩) HS ?_
      simp only [List.setIfInBounds_toArray, List.set_cons_zero, List.set_cons_succ]
      refine wpAnyH_all (rs := [3]) (by kernel_rfl) (by simp) (fun i hi => ?_)
      obtain rfl : i = 3 := by simpa using hi
      refine wpOp_doG 3 (by rfl) (by rfl) ?_
      go_wp2_with fail
      refine (state_anyQ m (nilS) ([]) n0 (dsl_nil0 _) (ind_nil0 _) (fun i hi => absurd hi (Nat.not_lt_zero i)) (Nat.zero_le _)).mono ?_
      rintro e wq1 ⟨lr, rfl, hlr, hb⟩
      have HLr : OwnV wq1 w.heap.size lr [] := by have := hlr.base HWW.size; simpa only [List.map_nil, keptQ_nil] using this
      clear hlr
      simp only [stC, noV]
      refine ⟨HS.later hb, ?_⟩
      replace HS := HS.later hb
      replace HWW := below_next HWW hb
      clear hb
      refine wpAnyH_all (rs := [4]) (by kernel_rfl) (by simp) (fun i hi => ?_)
      obtain rfl : i = 4 := by simpa using hi
      refine wpOp_doG 4 (by rfl) (by rfl) ?_
      go_wp2_with fail
      refine (same_yesL m noV (nilS) lr [] wq1 ((OwnV.nil w4 w.heap.size).later HS).vsl HLr.vsl (Nat.zero_le _)).mono ?_
      rintro e wq2 ⟨rfl, hb⟩
      refine ⟨HS.later hb, ?_⟩
      replace HS := HS.later hb
      replace HWW := below_next HWW hb
      replace HLr := HLr.later hb
      clear hb
      refine takeH 5 41 (.bool false) rfl rfl (by kernel_rfl) (by kernel_rfl) (by kernel_rfl) (fun c a w h => h) (.inl ⟨rfl, fun w _ => by go_simp⟩) HS ?_
      simp only [List.setIfInBounds_toArray, List.set_cons_zero, List.set_cons_succ]
      refine wpAnyH_done (by kernel_rfl) ?_ _
      show K9 _ _
      apply hKK
      clear hKK
      have HP0 : Hid (PlQ m w wq2 z nilS nilS []) := ⟨(OwnD.nil _ _), ind_nil0 w, fun i hi => absurd hi (Nat.not_lt_zero i), HS4.out.later HS, HeldV.nil _ _, HWW⟩
      clear HS4 HB4 HS HWW HLr
      go_wp2_with fail
      go_loopw [44, 7] (fun i vp wr => ∃ (k : Nat) (zs : List YD), k ≤ n ∧ zs.length ≤ k ∧ i = .int .i64 (k : Int) ∧ PlXq m w wr z vp zs) (fun i vp w' => n - (intOf i).toNat)
      case atStart => exact ⟨0, [], by omega, Nat.le_refl _, rfl, nilS, HP0.out⟩
      case round =>
        obtain ⟨k, zs, hk, hzk, rfl, vl, hpl⟩ := hrel
        have HP : Hid (PlQ m w wr z _ vl zs) := hpl
        clear hpl HP0
        by_cases hlt : k < n
        · have hlt' : (k : Int) < (n : Int) := by omega
          have hkm : (k : Int) + 1 ≤ 9223372036854775807 := by have := HFe.out.1; have := HN.out; omega
          obtain ⟨b, o, rfl, hbl, hat⟩ := HV0.out.near (by rw [HN.out]; omega)
          obtain ⟨c0, c1, c2, c3, c4⟩ := dd_at (hat k (by rw [HN.out]; exact hlt))
          have hva := HI.out k (by rw [HN.out]; exact hlt)
          have hfew := HFe.out.2 k (by rw [HN.out]; exact hlt)
          have hb := HP.out.b
          have d0 := (hb.cell (p := ⟨b, o + k * 5, none⟩) hbl).trans c0
          have d1 := (hb.cell (p := ⟨b, o + k * 5 + 1, none⟩) hbl).trans c1
          have d2 := (hb.cell (p := ⟨b, o + k * 5 + 2, none⟩) hbl).trans c2
          have d3 := (hb.cell (p := ⟨b, o + k * 5 + 3, none⟩) hbl).trans c3
          have d4 := (hb.cell (p := ⟨b, o + k * 5 + 4, none⟩) hbl).trans c4
          have HZN : Hid (zs.length + 1 ≤ 41) := (by have := HFe.out.1; have := HN.out; omega : zs.length + 1 ≤ 41)
          clear c0 c1 c2 c3 c4 hat hbl hb HFe HI HV0 HN
          obtain ⟨⟨⟨⟨y1, y2, y3⟩, yo, ya⟩, vy⟩, hy⟩ : ∃ y, yd ys k = y := ⟨_, rfl⟩
          rw [hy] at d0 d1 d2 d3 d4 hva hfew
          dsimp only at d0 d1 d2 d3 d4 hva
          clear hy
          obtain ⟨av, cv, rfl, hcv1, hcv2, _⟩ := hva.form
          have HVA : Hid (VSl w (.slice av ya.length cv) ya) := hva
          obtain ⟨hsz, hsc⟩ := few_sz hfew
          have HSz : Hid (SzV ya) := hsz
          have HSc : Hid (y3.size ≤ 4611686018427387904) := hsc
          clear hva hfew hsz hsc
          obtain ⟨na, hna⟩ : ∃ na, ya.length = na := ⟨_, rfl⟩
          rw [hna] at HVA hcv1 d4
          clear hna
          obtain ⟨L, hL⟩ : ∃ L, keptQ m (zs.map (·.1)) = L := ⟨_, rfl⟩
          have HX : Hid (keptQ m (zs.map (·.1)) = L) := hL
          have HLn : Hid (L.length ≤ 41) := by
            have h := keptQ_len m (zs.map (·.1))
            rw [hL, List.length_map] at h
            exact (by have := HZN.out; omega : L.length ≤ 41)
          clear hL
          obtain ⟨s0, s1, s2, s3, s4, s5⟩ := st_cells HP.out.s
          simp only [noV] at s1 s2 s3
          have hzl : z < wr.heap.size := HP.out.s.lt
          have HD : Hid (Blk (wr.alloc (.cells #[.int .i64 y1, .int .i64 y2, .string y3, .int .i64 yo, .slice av na cv] 36)) wr.heap.size (ddC ⟨(y1, y2, y3), yo, ya⟩ (.slice av na cv)) 36) := Blk.new wr (ddC ⟨(y1, y2, y3), yo, ya⟩ (.slice av na cv)) _
          have HPn : Hid (PlQ m w (wr.alloc (.cells #[.int .i64 y1, .int .i64 y2, .string y3, .int .i64 yo, .slice av na cv] 36)) z _ vl zs) := HP.out.later (below_box _ _)
          clear HP
          go_wp2_with fail
          generalize wr.alloc (.cells #[.int .i64 y1, .int .i64 y2, .string y3, .int .i64 yo, .slice av na cv] 36) = w5 at HD HPn ⊢
          obtain ⟨q, hq⟩ : ∃ q, wr.heap.size = q := ⟨_, rfl⟩
          rw [hq] at HD hzl
          simp only [hq]
          have hql : q < w5.heap.size := HD.out.lt
          clear hq d0 d1 d2 d3 d4 s0 s1 s2 s3 s4 s5
          have ht5 := HT.out.later HPn.out.b
          have hv5 := HVA.out.later HPn.out.b
          have hl5 : HeldV w5 w.heap.size vl L := by rw [← HX.out]; exact HPn.out.l
          cases hmd : mayD m ⟨(y1, y2, y3), yo, ya⟩
          · refine (HK.out.no m (y1, y2, y3) vl L yo _ ya w5 ht5 hl5.vsl hv5 HSz.out HSc.out (by rw [hmd, Bool.and_false])).mono ?_
            rintro e w6 ⟨rfl, hb6⟩
            have HD6 : Hid (Blk w6 q (ddC ⟨(y1, y2, y3), yo, ya⟩ (.slice av na cv)) 36) := HD.out.later hb6
            have HP6 : Hid (PlQ m w w6 z _ vl zs) := HPn.out.later hb6
            have hq6 : q < w6.heap.size := HD6.out.lt
            have HT7 : Hid (Blk (w6.alloc (.cells (stC 0 noV nilS).toArray 28)) w6.heap.size (stC 0 noV nilS) 28) := Blk.new w6 _ _
            have HP7 : Hid (PlQ m w (w6.alloc (.cells (stC 0 noV nilS).toArray 28)) z _ vl zs) := HP6.out.later (below_box _ _)
            obtain ⟨p0, p1, p2, p3, p4⟩ := dd_cells HD6.out
            have hL := fun w' (h : VSl w' (.slice av na cv) ya) => lmay_any m ⟨(y1, y2, y3), yo, ya⟩ (.slice av na cv) w' h HSz.out HSc.out
            rw [hmd] at hL
            have HL : Hid (∀ w', VSl w' (.slice av na cv) ya → Calls Tryd.prog 13 #[.int .i64 m, .agg (ddC ⟨(y1, y2, y3), yo, ya⟩ (.slice av na cv)).toArray] w' fun e w1 => e = .returned (.bool false) ∧ Below w'.heap.size w' w1) := hL
            have hS0 := fun w => same_yes 0 noV w
            simp only [stC, noV] at hS0 ⊢
            clear hL hmd ht5 hv5 hb6 HPn HD hql hl5
            go_wp2_with fail
            refine (HL.out _ (HVA.out.later HP7.out.b)).mono ?_
            rintro e w8 ⟨rfl, hb8⟩
            have HP8 : Hid (PlQ m w w8 z _ vl zs) := HP7.out.later hb8
            obtain ⟨t0, t1, t2, t3, t4, t5⟩ := st_cells (HT7.out.later hb8)
            simp only [noV] at t1 t2 t3
            clear HP6 HP7 HT7 HL hb8 p0 p1 p2 p3 p4 HD6
            go_wp2_with (go_at_call 10; refine (hS0 _).mono ?_; rintro e w9 ⟨rfl, hb9⟩)
            go_roundw
            case rel => exact ⟨k + 1, zs, by omega, by omega, by go_num, vl, HP8.out.later hb9⟩
            case measure => simp [intOf]; omega
          · refine (HK.out.yes m w.heap.size (y1, y2, y3) vl L yo _ ya w5 HM.out HPn.out.b.size ht5 hl5 (by have := HLn.out; omega) hv5 HSz.out HSc.out hmd).mono ?_
            rintro e w6 ⟨vo, vl', rfl, ho6, hl6, -, hb6⟩
            have HOk : Hid (OkQ ⟨(y1, y2, y3), yo, ya⟩) := (may_casesQ HM.out hmd).1
            obtain ⟨L', hL'⟩ : ∃ L', nxQ m L ⟨(y1, y2, y3), yo, ya⟩ = L' := ⟨_, rfl⟩
            have HX' : Hid (nxQ m L ⟨(y1, y2, y3), yo, ya⟩ = L') := hL'
            have HLn' : Hid (L'.length ≤ 1000000) := by
              have h := nxQ_len m L ⟨(y1, y2, y3), yo, ya⟩
              rw [hL'] at h
              exact (by have := HLn.out; omega : L'.length ≤ 1000000)
            obtain ⟨lo, hlo⟩ : ∃ lo, outQ m L ⟨(y1, y2, y3), yo, ya⟩ = lo := ⟨_, rfl⟩
            have HLo : Hid (outQ m L ⟨(y1, y2, y3), yo, ya⟩ = lo) := hlo
            rw [hlo] at ho6
            rw [hL'] at hl6
            clear hL' hlo
            obtain ⟨al', cl', hf⟩ := hl6.form
            obtain ⟨nl', hnl'⟩ : ∃ nl', L'.length = nl' := ⟨_, rfl⟩
            rw [hnl'] at hf
            subst hf
            clear hnl'
            have HD6 : Hid (Blk w6 q (ddC ⟨(y1, y2, y3), yo, ya⟩ (.slice av na cv)) 36) := HD.out.later hb6
            have HP6 : Hid (PlQ m w w6 z _ vl zs) := HPn.out.later hb6
            have HVO6 : Hid (VSl w6 vo lo) := ho6.vsl
            have HL6 : Hid (HeldV w6 w.heap.size (.slice al' nl' cl') L') := hl6
            have hq6 : q < w6.heap.size := HD6.out.lt
            have HT7 : Hid (Blk (w6.alloc (.cells (stC m noV (.slice al' nl' cl')).toArray 28)) w6.heap.size (stC m noV (.slice al' nl' cl')) 28) := Blk.new w6 _ _
            have HP7 : Hid (PlQ m w (w6.alloc (.cells (stC m noV (.slice al' nl' cl')).toArray 28)) z _ vl zs) := HP6.out.later (below_box _ _)
            have HD7 : Hid (Blk (w6.alloc (.cells (stC m noV (.slice al' nl' cl')).toArray 28)) q (ddC ⟨(y1, y2, y3), yo, ya⟩ (.slice av na cv)) 36) := HD6.out.later (below_box _ _)
            have HVO7 : Hid (VSl (w6.alloc (.cells (stC m noV (.slice al' nl' cl')).toArray 28)) vo lo) := HVO6.out.later (below_box _ _)
            have HL7 : Hid (HeldV (w6.alloc (.cells (stC m noV (.slice al' nl' cl')).toArray 28)) w.heap.size (.slice al' nl' cl') L') := HL6.out.later (below_box _ _)
            obtain ⟨p0, p1, p2, p3, p4⟩ := dd_cells HD6.out
            have hL := fun w' (h : VSl w' (.slice av na cv) ya) => lmay_any m ⟨(y1, y2, y3), yo, ya⟩ (.slice av na cv) w' h HSz.out HSc.out
            rw [hmd] at hL
            have HL : Hid (∀ w', VSl w' (.slice av na cv) ya → Calls Tryd.prog 13 #[.int .i64 m, .agg (ddC ⟨(y1, y2, y3), yo, ya⟩ (.slice av na cv)).toArray] w' fun e w1 => e = .returned (.bool true) ∧ Below w'.heap.size w' w1) := hL
            simp only [stC, noV]
            clear hL hmd ht5 hv5 hb6 HPn HD hql ho6 HP6 HD6 HVO6 HL6 hl6 hl5
            go_wp2_with fail
            obtain ⟨z7, hz7⟩ : ∃ z7, w6.heap.size = z7 := ⟨_, rfl⟩
            change Calls _ _ _ (w6.alloc (.cells (stC m noV (.slice al' nl' cl')).toArray 28)) _
            generalize w6.alloc (.cells (stC m noV (.slice al' nl' cl')).toArray 28) = w7 at HT7 HP7 HD7 HVO7 HL7 ⊢
            rw [hz7] at HT7 hq6
            simp only [hz7]
            clear hz7 p0 p1 p2 p3 p4
            refine (HL.out _ (HVA.out.later HP7.out.b)).mono ?_
            rintro e w8 ⟨rfl, hb8⟩
            have HP8 : Hid (PlQ m w w8 z _ vl zs) := HP7.out.later hb8
            have HT8 : Hid (Blk w8 z7 (stC m noV (.slice al' nl' cl')) 28) := HT7.out.later hb8
            have HD8 : Hid (Blk w8 q (ddC ⟨(y1, y2, y3), yo, ya⟩ (.slice av na cv)) 36) := HD7.out.later hb8
            have HVO8 : Hid (VSl w8 vo lo) := HVO7.out.later hb8
            have HL8 : Hid (HeldV w8 w.heap.size (.slice al' nl' cl') L') := HL7.out.later hb8
            obtain ⟨p0, p1, p2, p3, p4⟩ := dd_cells HD8.out
            clear HP7 HT7 HD7 HVO7 HL hb8 HL7
            go_wp2_with fail
            refine (out_anyQ m _ zs ⟨(y1, y2, y3), yo, ya⟩ (.slice av na cv) w8 HP8.out.o.dsl (HP8.out.i.later HP8.out.b) HP8.out.k (by have := HZN.out; omega)).mono ?_
            rintro e w9 ⟨vo', rfl, hvo', hb9⟩
            rw [HX.out, HLo.out] at hvo'
            have HLl : Hid (lo.length ≤ 1000000) := by
              show _ ≤ _
              rw [← HLo.out]
              unfold outQ
              split <;> simp
            have hSm := same_any vo vo' lo lo w9 (HVO8.out.later hb9) hvo' HLl.out
            rw [sameL_self] at hSm
            have HP9 : Hid (PlQ m w w9 z _ vl zs) := HP8.out.later hb9
            have HT9 : Hid (Blk w9 z7 (stC m noV (.slice al' nl' cl')) 28) := HT8.out.later hb9
            have HD9 : Hid (Blk w9 q (ddC ⟨(y1, y2, y3), yo, ya⟩ (.slice av na cv)) 36) := HD8.out.later hb9
            have HL9 : Hid (HeldV w9 w.heap.size (.slice al' nl' cl') L') := HL8.out.later hb9
            clear HP8 HT8 HD8 HVO8 hb9 hvo' p0 p1 p2 p3 p4 HL8
            go_wp2_with fail
            refine hSm.mono ?_
            rintro e w10 ⟨rfl, hb10⟩
            have HP10 : Hid (PlQ m w w10 z _ vl zs) := HP9.out.later hb10
            have HT10 : Hid (Blk w10 z7 (stC m noV (.slice al' nl' cl')) 28) := HT9.out.later hb10
            have HD10 : Hid (Blk w10 q (ddC ⟨(y1, y2, y3), yo, ya⟩ (.slice av na cv)) 36) := HD9.out.later hb10
            have HL10 : Hid (HeldV w10 w.heap.size (.slice al' nl' cl') L') := HL9.out.later hb10
            obtain ⟨p0, p1, p2, p3, p4⟩ := dd_cells HD10.out
            clear HP9 HT9 HD9 hb10 hSm HL9
            have hb11 := below_box w10 (.cells (encD (⟨(y1, y2, y3), yo, ya⟩, .slice av na cv)).toArray 36)
            have HP11 : Hid (PlQ m w (w10.alloc (.cells (encD (⟨(y1, y2, y3), yo, ya⟩, .slice av na cv)).toArray 36)) z _ vl zs) := HP10.out.later hb11
            have HT11 : Hid (Blk (w10.alloc (.cells (encD (⟨(y1, y2, y3), yo, ya⟩, .slice av na cv)).toArray 36)) z7 (stC m noV (.slice al' nl' cl')) 28) := HT10.out.later hb11
            have HL11 : Hid (HeldV (w10.alloc (.cells (encD (⟨(y1, y2, y3), yo, ya⟩, .slice av na cv)).toArray 36)) w.heap.size (.slice al' nl' cl') L') := HL10.out.later hb11
            have HR11 : Hid ((w10.alloc (.cells (encD (⟨(y1, y2, y3), yo, ya⟩, .slice av na cv)).toArray 36)).rangeAt w10.heap.size 0 (encD (⟨(y1, y2, y3), yo, ya⟩, .slice av na cv))) := Blk.all (Blk.new w10 (encD (⟨(y1, y2, y3), yo, ya⟩, .slice av na cv)) 36)
            clear HP10 HT10 hb11 HD10 HL10
            go_wp2_with (first
              | (at_builtin; refine wpList_appendD1 rfl (.tmp 83) (.tmp 85) rfl w.heap.size _ zs rfl HP11.out.o w10.heap.size (⟨(y1, y2, y3), yo, ya⟩, .slice av na cv) rfl HR11.out rfl (by have := HZN.out; omega) HP11.out.b.size ?_; intro g12 cap12 w12 o12 gr12; have HO12 : Hid (OwnD w12 w.heap.size (.slice (some ⟨g12, 0, none⟩) (zs.length + 1) cap12) (zs ++ [(⟨(y1, y2, y3), yo, ya⟩, .slice av na cv)])) := o12; have HB12 : Hid (Below w.heap.size w w12) := Below.grown HP11.out.b gr12 HP11.out.b.size (fun p h => (HP11.out.o.lt p h).1); have HT12 : Hid (Blk w12 z7 (stC m noV (.slice al' nl' cl')) 28) := HT11.out.kept gr12 (HT11.out.not_row (by decide) HP11.out.o); have HS12 : Hid (Blk w12 z (stC m noV vl) 28) := HP11.out.s.kept gr12 (HP11.out.s.not_row (by decide) HP11.out.o); have HL12 : Hid (HeldV w12 w.heap.size (.slice al' nl' cl') L') := HL11.out.grownD HP11.out.o gr12; obtain ⟨t0, t1, t2, t3, t4, t5⟩ := st_cells HT12.out; simp only [noV] at t1 t2 t3; clear o12 gr12)
              | ((with_reducible refine wp_storeB 28 (.tmp 5) (.tmp 87) z 0 (stC m noV (.slice al' nl' cl')) (stC m noV vl) 28 ?_ ?_ (stC_one _ _ rfl) ?_ ?_ ?_ HS12.out ?_); (exact infoSt); (exact (show 0 + 6 ≤ 6 by decide)); (exact ⟨rfl, rfl⟩); (exact rfl); (exact rfl); (intro w13 D1 o13); (replace D1 : Blk w13 z (stC m noV (.slice al' nl' cl')) 28 := D1); (have HS13 : Hid (Blk w13 z (stC m noV (.slice al' nl' cl')) 28) := D1); (have HB13 : Hid (Below w.heap.size w w13) := below_oth HB12.out o13 HZ.out HZ.out HB12.out.size); (have HL13 : Hid (HeldV w13 w.heap.size (.slice al' nl' cl') L') := HL12.out.oth o13 HS12.out (by decide)); (have HO13 : Hid (OwnD w13 w.heap.size (.slice (some ⟨g12, 0, none⟩) (zs.length + 1) cap12) (zs ++ [(⟨(y1, y2, y3), yo, ya⟩, .slice av na cv)])) := HO12.out.oth o13 HS12.out (by decide)); (clear D1 o13)))
            simp only [Act.put]
            have HXp : Hid (keptQ m ((zs ++ [((⟨(y1, y2, y3), yo, ya⟩, .slice av na cv) : YD)]).map (·.1)) = L') := by show _ = _; rw [keptQ_past, HX.out, HX'.out]
            have HP13 : Hid (PlQ m w w13 z (.slice (some ⟨g12, 0, none⟩) (zs.length + 1) cap12) (.slice al' nl' cl') (zs ++ [(⟨(y1, y2, y3), yo, ya⟩, .slice av na cv)])) :=
              ⟨HO13.out, InD.snoc HP11.out.i HVA.out, okQ_snoc HP11.out.k HOk.out, HS13.out, by rw [HXp.out]; exact HL13.out, HB13.out⟩
            clear HP11 HT11 HR11 HO12 HB12 HT12 HS12 t0 t1 t2 t3 t4 t5 HB13 HO13 p0 p1 p2 p3 p4 HL11 HL12
            rename_i K9 hKK
            refine wp_region_held (S := Stay w13) mixed ?_
            have HS : Stay w13 { w13 with drawn := w13.drawn + 1 } := Stay.drew w13
            have HWW : Below w.heap.size w { w13 with drawn := w13.drawn + 1 } := below_next HP13.out.b HS
            generalize ({ w13 with drawn := w13.drawn + 1 } : World) = n0 at HS HWW ⊢
            refine takeH 0 88 (.agg #[.int .i64 m, .int .i64 0, .int .i64 0, .string noB, .int .i64 0, .slice al' nl' cl']) rfl rfl (by kernel_rfl) (by kernel_rfl) (by kernel_rfl) (fun c a w h => h) (yieldsIf_load_mid rfl 28 (.tmp 5) rfl z 0 rfl (stC m noV (.slice al' nl' cl')) _ (fun wx hx => Blk.all (HS13.out.later hx)) Tryd.underlying28 rfl infoSt) HS ?_
            simp only [List.setIfInBounds_toArray, List.set_cons_zero, List.set_cons_succ]
            refine takeH 1 89 (.int .i64 m) rfl rfl (by kernel_rfl) (by kernel_rfl) (by kernel_rfl) (fun c a w h => h) (.inl ⟨rfl, fun w _ => rfl⟩) HS ?_
            simp only [List.setIfInBounds_toArray, List.set_cons_zero, List.set_cons_succ]
            refine takeH 2 90 (.slice (some ⟨g12, 0, none⟩) (zs.length + 1) cap12) rfl rfl (by kernel_rfl) (by kernel_rfl) (by kernel_rfl) (fun c a w h => h) (.inl ⟨rfl, fun w _ => rfl⟩) HS ?_
            simp only [List.setIfInBounds_toArray, List.set_cons_zero, List.set_cons_succ]
            refine wpAnyH_all (rs := [3]) (by kernel_rfl) (by simp) (fun i hi => ?_)
            obtain rfl : i = 3 := by simpa using hi
            refine wpOp_doG 3 (by rfl) (by rfl) ?_
            go_wp2_with fail
            refine (state_anyQ m (.slice (some ⟨g12, 0, none⟩) (zs.length + 1) cap12) (zs ++ [((⟨(y1, y2, y3), yo, ya⟩, .slice av na cv) : YD)]) n0 (HP13.out.o.dsl.later HS) (HP13.out.i.later HWW) HP13.out.k (by rw [List.length_append]; have := HZN.out; simp; omega)).mono ?_
            rintro e wq1 ⟨lr, rfl, hlr, hb⟩
            have HLr : OwnV wq1 w.heap.size lr L' := by have := hlr.base HWW.size; simpa only [HXp.out] using this
            clear hlr
            simp only [stC, noV]
            refine ⟨HS.later hb, ?_⟩
            replace HS := HS.later hb
            replace HWW := below_next HWW hb
            clear hb
            refine wpAnyH_all (rs := [4]) (by kernel_rfl) (by simp) (fun i hi => ?_)
            obtain rfl : i = 4 := by simpa using hi
            refine wpOp_doG 4 (by rfl) (by rfl) ?_
            go_wp2_with fail
            refine (same_yesL m noV (.slice al' nl' cl') lr L' wq1 (HL13.out.later HS).vsl HLr.vsl HLn'.out).mono ?_
            rintro e wq2 ⟨rfl, hb⟩
            refine ⟨HS.later hb, ?_⟩
            replace HS := HS.later hb
            replace HWW := below_next HWW hb
            replace HLr := HLr.later hb
            clear hb
            refine takeH 5 93 (.bool false) rfl rfl (by kernel_rfl) (by kernel_rfl) (by kernel_rfl) (fun c a w h => h) (.inl ⟨rfl, fun w _ => by go_simp⟩) HS ?_
            simp only [List.setIfInBounds_toArray, List.set_cons_zero, List.set_cons_succ]
            refine wpAnyH_done (by kernel_rfl) ?_ _
            show K9 _ _
            apply hKK
            clear hKK
            have HPq : Hid (PlQ m w wq2 z (.slice (some ⟨g12, 0, none⟩) (zs.length + 1) cap12) (.slice al' nl' cl') (zs ++ [(⟨(y1, y2, y3), yo, ya⟩, .slice av na cv)])) := HP13.out.later HS
            clear HS HWW HLr HP13 HL13 HS13
            go_wp2
            go_roundw
            case rel => exact ⟨k + 1, zs ++ [(⟨(y1, y2, y3), yo, ya⟩, .slice av na cv)], by omega, by rw [List.length_append]; simp; omega, by go_num, _, HPq.out⟩
            case measure => simp [intOf]; omega
        · have e : k = n := by omega
          subst e
          go_wp2
          go_ret
          exact ⟨rfl, HP.out.b⟩
    · obtain ⟨s0, s1, s2, s3, s4, s5⟩ := st_cells HS4.out
      simp only [noV] at s1 s2 s3
      clear HS4 HF
      go_wp2_with (go_at_call 10; refine (hS _).mono ?_; rintro e w5 ⟨rfl, hb5⟩)
      go_ret
      exact ⟨rfl, below_next HB4.out hb5⟩
end Go.Proofs.YthgafmhpajikdaaDoor
