/- The walk of HoldPlays, on what is asked of New and Step. Conditions: the table of signs lies in memory; sizes. -/
import Derived.Test.YtpboleifllcehaaDoorJI
import Derived.Test.YtpboleifllcehaaDoorUJ
namespace Go.Proofs.YtpboleifllcehaaDoor
open Go.RowKit Go.PlainAid Ln Go.Sort
set_option linter.unusedVariables false
set_option linter.unusedSimpArgs false

theorem may_doH {m : Int} {d : Dd} (hm : ownH m = true) (h : mayD m d = true) : DoH m d := by
  rcases may_casesH hm h with ⟨a, b, _⟩ | ⟨a, b, _⟩ | ⟨a, b, _⟩
  · exact .inl ⟨a, b⟩
  · exact .inr ⟨a, .inr b⟩
  · exact .inr ⟨a, .inl b⟩

/-- how the walk through the deeds stands: the past zs, its slice vp -/
structure PlH (w wr : World) (m : Int) (z : Nat) (vp : Value) (zs : List YD) : Prop where
  o : OwnD wr w.heap.size vp zs
  i : InD w zs
  k : ∀ j, j < zs.length → OkH (yd zs j).1
  s : Blk wr z (stH m (keptH m (zs.map (·.1))) nilS) 28
  b : Below w.heap.size w wr
theorem PlH.later {w wr wn : World} {m : Int} {z : Nat} {vp : Value} {zs : List YD} (h : PlH w wr m z vp zs) (hb : Below wr.heap.size wr wn) : PlH w wn m z vp zs := ⟨h.o.later hb, h.i, h.k, h.s.later hb, below_next h.b hb⟩




theorem okH_snoc {ys : List YD} {y : YD} (h : ∀ j, j < ys.length → OkH (yd ys j).1) (h1 : OkH y.1) : ∀ j, j < (ys ++ [y]).length → OkH (yd (ys ++ [y]) j).1 := by
  intro i hi
  by_cases e : i < ys.length
  · rw [yd_left _ _ i e]; exact h i e
  · have e : i = ys.length + 0 := by simp at hi; omega
    rw [e, yd_right ys [y] 0 (by simp), yd_zero]; exact h1
theorem keptH_past (m : Int) (zs : List YD) (y : YD) : keptH m ((zs ++ [y]).map (·.1)) = nxH m (keptH m (zs.map (·.1))) y.1 := by
  rw [List.map_append]; exact keptH_snoc _ _ _

set_option maxRecDepth 100000 in
set_option maxHeartbeats 16000000 in
theorem law_playsH (K : HoldOK) (m : Int) (v : Value) (ys : List YD) (w : World) (ht : Tb w) (hv : DSl w v ys) (hi : InD w ys) : Calls Tryd.prog 3 #[.int .i64 m, v] w fun e w' => e = .returned (.bool true) ∧ Below w.heap.size w w' := by
  have mixed : Tryd.prog.follows .mixedOrders = true := by kernel_rfl
  have HT : Hid (Tb w) := ht
  have HV0 : Hid (DSl w v ys) := hv
  have HI : Hid (InD w ys) := hi
  have HW : Hid (∀ w', Below w.heap.size w w' → Calls Tryd.prog 7 #[] w' fun e w'' => e = .returned (.bool true) ∧ Below w'.heap.size w' w'') := fun w' hb => wakes_anyH K w' (ht.later hb)
  have HK : Hid HoldOK := K
  clear ht hv hi K
  have hO := fun w => own_anyH m w
  cases hm : ownH m
  · have hN := fun w => HK.out.new m w
    rw [hm] at hN hO
    rw [if_neg (by decide)] at hN
    have hS := fun w => same_yes 0 noV w
    simp only [stH, stN, stC, noH, noV] at hN hS
    clear hm
    go_enter Tryd.func3, Tryd.ntmps3
    go_wp2_with (first
      | (go_at_call 7; refine (HW.out _ (Below.refl _ _)).mono ?_; rintro e w1 ⟨rfl, hb1⟩)
      | (go_at_call 8; refine (hN _).mono ?_; rintro e w2 ⟨rfl, hb2⟩)
      | (go_at_call 9; refine (hO _).mono ?_; rintro e w3 ⟨rfl, hb3⟩; obtain ⟨s0, s1, s2, s3, s4, s5⟩ := st_cells ((Blk.new w2 (stC 0 noV nilS) 28).later hb3); simp only [noH, noV] at s1 s2 s3 s4)
      | (go_at_call 11; refine (hS _).mono ?_; rintro e w4 ⟨rfl, hb4⟩))
    go_ret
    exact ⟨rfl, below_next (below_next (below_more (below_next hb1 hb2) _) hb3) hb4⟩
  · have hN := fun w => HK.out.new m w
    rw [hm] at hN hO
    rw [if_pos rfl] at hN
    have HG : Hid (∀ w', Below w.heap.size w w' → Calls Tryd.prog 10 #[v] w' fun e w'' => RGreatD w' ys e w'') := fun w' hb => lgreat_any v ys w' (HV0.out.later hb) (HI.out.later hb)
    have HM : Hid (ownH m = true) := hm
    have hm0 : decide (m = 0) = false := decide_eq_false (fun e => by subst e; exact absurd hm (by decide))
    have hS := fun w => same_stN m 0 noV noV 0 0 nilS nilS [] [] w (vsl_nil0 w) (vsl_nil0 w) (Nat.zero_le _)
    rw [hm0, Bool.false_and] at hS
    clear hm hm0
    simp only [stH, stN, stC, noH, noV] at hN hS
    obtain ⟨a, c, rfl, hc1, hc2, _⟩ := HV0.out.form
    obtain ⟨n, hn⟩ : ∃ n, ys.length = n := ⟨_, rfl⟩
    have HN : Hid (ys.length = n) := hn
    rw [hn] at hc1 HV0 HG ⊢
    clear hn
    go_enter Tryd.func3, Tryd.ntmps3
    go_wp2_with (first
      | (go_at_call 7; refine (HW.out _ (Below.refl _ _)).mono ?_; rintro e w1 ⟨rfl, hb1⟩)
      | (go_at_call 8; refine (hN _).mono ?_; rintro e w2 ⟨rfl, hb2⟩)
      | (go_at_call 9; refine (hO _).mono ?_; rintro e w3 ⟨rfl, hb3⟩))
    have S3 := (Blk.new w2 (stH m noH nilS) 28).later hb3
    have HB3 : Hid (Below w.heap.size w w3) := below_next (below_more (below_next hb1 hb2) _) hb3
    have hzw : w.heap.size ≤ w2.heap.size := (below_next hb1 hb2).size
    obtain ⟨z, hz⟩ : ∃ z, w2.heap.size = z := ⟨_, rfl⟩
    rw [hz] at S3 hzw
    simp only [hz]
    clear hb1 hb2 hb3 hz hN hO HW
    refine (HG.out w3 HB3.out).mono ?_
    rintro e w4 ⟨b, rfl, hfew, hb4⟩
    have HS4 : Hid (Blk w4 z (stH m noH nilS) 28) := S3.later hb4
    have HB4 : Hid (Below w.heap.size w w4) := below_next HB3.out hb4
    have HF : Hid (b = false → FewDs ys) := hfew
    have HZ : Hid (w.heap.size ≤ z) := hzw
    clear HG S3 HB3 hb4 hfew hzw
    obtain ⟨s0, s1, s2, s3, s4, s5⟩ := sth_cells HS4.out
    simp only [noH, noV] at s1 s2 s3 s4
    cases b
    · have hSt : ∀ w, Calls Tryd.prog 12 #[.int .i64 m, .slice none 0 0] w fun e w' => e = .returned (.agg (stH m (keptH m (([] : List YD).map (·.1))) nilS).toArray) ∧ Below w.heap.size w w' := fun w => state_anyH m nilS [] w (dsl_nil0 w) (ind_nil0 w) (fun i hi => absurd hi (Nat.not_lt_zero i)) (Nat.zero_le _)
      have hSm := fun w => same_yesH m noH w
      simp only [List.map_nil, keptH_nil, stH, stN, noH, noV] at hSt hSm
      have HFe : Hid (FewDs ys) := HF.out rfl
      clear HF hS
      go_wp2_with fail
      have s0' := fun d os => cell_regrown s0 d os
      have s1' := fun d os => cell_regrown s1 d os
      have s2' := fun d os => cell_regrown s2 d os
      have s3' := fun d os => cell_regrown s3 d os
      have s4' := fun d os => cell_regrown s4 d os
      have s5' := fun d os => cell_regrown s5 d os
      clear s0 s1 s2 s3 s4 s5
      refine wp_region_quiet_below (by assumption) (by kernel_rfl) ?_
      repeat (go_big_quiet_step (first | (go_at_call 12; with_reducible exact Calls.regrown_of (hSt _)) | (go_at_call 11; with_reducible exact Calls.regrown_of (hSm _))))
      refine wpQuiet_nil ?_
      intro _ hw'
      obtain ⟨⟨dq, osq⟩, hw''⟩ := hw'
      subst hw''
      have hbq := below_regrown w4 dq osq
      have hl0 : PlH w (grow (redrawn w4 dq) osq) m z nilS [] := ⟨(OwnD.nil w4 w.heap.size).later hbq, ind_nil0 w, fun i hi => absurd hi (Nat.not_lt_zero i), HS4.out.later hbq, below_next HB4.out hbq⟩
      clear s0' s1' s2' s3' s4' s5' hbq HS4 HB4 hSt hSm
      generalize grow (redrawn w4 dq) osq = u at *
      have HP0 : Hid (PlH w u m z nilS []) := hl0
      clear hl0
      go_wp2_with fail
      go_loopw [44, 7] (fun i vp wr => ∃ (k : Nat) (zs : List YD), k ≤ n ∧ zs.length ≤ k ∧ i = .int .i64 (k : Int) ∧ PlH w wr m z vp zs) (fun i vp w' => n - (intOf i).toNat)
      case atStart => exact ⟨0, [], by omega, Nat.le_refl _, rfl, HP0.out⟩
      case round =>
        obtain ⟨k, zs, hk, hzk, rfl, hpl⟩ := hrel
        have HP : Hid (PlH w wr m z _ zs) := hpl
        clear hpl HP0
        by_cases hlt : k < n
        · have hlt' : (k : Int) < (n : Int) := by omega
          have hkm : (k : Int) + 1 ≤ 9223372036854775807 := by have := HFe.out.1; have := HN.out; omega
          obtain ⟨b, o, rfl, hbl, hat⟩ := HV0.out.near (by rw [HN.out]; omega)
          obtain ⟨c0, c1, c2, c3, c4⟩ := dd_at (hat k (by rw [HN.out]; exact hlt))
          have hva := HI.out k (by rw [HN.out]; exact hlt)
          have hfew := HFe.out.2 k (by rw [HN.out]; exact hlt)
          have hb := HP.out.b
          have d0 := (hb.cell (p := ⟨b, o + k * 5, none⟩) hbl).trans c0
          have d1 := (hb.cell (p := ⟨b, o + k * 5 + 1, none⟩) hbl).trans c1
          have d2 := (hb.cell (p := ⟨b, o + k * 5 + 2, none⟩) hbl).trans c2
          have d3 := (hb.cell (p := ⟨b, o + k * 5 + 3, none⟩) hbl).trans c3
          have d4 := (hb.cell (p := ⟨b, o + k * 5 + 4, none⟩) hbl).trans c4
          have HZN : Hid (zs.length + 1 ≤ 1000000) := (by have := HFe.out.1; have := HN.out; omega : zs.length + 1 ≤ 1000000)
          clear c0 c1 c2 c3 c4 hat hbl hb HFe HI HV0 HN
          obtain ⟨⟨⟨⟨y1, y2, y3⟩, yo, ya⟩, vy⟩, hy⟩ : ∃ y, yd ys k = y := ⟨_, rfl⟩
          rw [hy] at d0 d1 d2 d3 d4 hva hfew
          dsimp only at d0 d1 d2 d3 d4 hva
          clear hy
          obtain ⟨av, cv, rfl, hcv1, hcv2, _⟩ := hva.form
          have HVA : Hid (VSl w (.slice av ya.length cv) ya) := hva
          obtain ⟨hsz, hsc⟩ := few_sz hfew
          have HSz : Hid (SzV ya) := hsz
          have HSc : Hid (y3.size ≤ 4611686018427387904) := hsc
          clear hva hfew hsz hsc
          obtain ⟨na, hna⟩ : ∃ na, ya.length = na := ⟨_, rfl⟩
          rw [hna] at HVA hcv1 d4
          clear hna
          obtain ⟨x, hx⟩ : ∃ x, keptH m (zs.map (·.1)) = x := ⟨_, rfl⟩
          have HX : Hid (keptH m (zs.map (·.1)) = x) := hx
          have HS : Hid (Blk wr z (stH m x nilS) 28) := by rw [← hx]; exact HP.out.s
          clear hx
          obtain ⟨s0, s1, s2, s3, s4, s5⟩ := sth_cells HS.out
          have hzl : z < wr.heap.size := HS.out.lt
          have HD : Hid (Blk (wr.alloc (.cells #[.int .i64 y1, .int .i64 y2, .string y3, .int .i64 yo, .slice av na cv] 36)) wr.heap.size (ddC ⟨(y1, y2, y3), yo, ya⟩ (.slice av na cv)) 36) := Blk.new wr (ddC ⟨(y1, y2, y3), yo, ya⟩ (.slice av na cv)) _
          have HPn : Hid (PlH w (wr.alloc (.cells #[.int .i64 y1, .int .i64 y2, .string y3, .int .i64 yo, .slice av na cv] 36)) m z _ zs) := HP.out.later (below_box _ _)
          clear HP
          go_wp2_with fail
          generalize wr.alloc (.cells #[.int .i64 y1, .int .i64 y2, .string y3, .int .i64 yo, .slice av na cv] 36) = w5 at HD HPn ⊢
          obtain ⟨q, hq⟩ : ∃ q, wr.heap.size = q := ⟨_, rfl⟩
          rw [hq] at HD hzl
          simp only [hq]
          have hql : q < w5.heap.size := HD.out.lt
          clear hq d0 d1 d2 d3 d4 s0 s1 s2 s3 s4 s5 HS
          have ht5 := HT.out.later HPn.out.b
          have hv5 := HVA.out.later HPn.out.b
          cases hmd : mayD m ⟨(y1, y2, y3), yo, ya⟩
          · refine (HK.out.no m x (y1, y2, y3) nilS yo _ ya w5 ht5 hv5 HSz.out HSc.out (by rw [hmd, Bool.and_false])).mono ?_
            rintro e w6 ⟨rfl, hb6⟩
            have HD6 : Hid (Blk w6 q (ddC ⟨(y1, y2, y3), yo, ya⟩ (.slice av na cv)) 36) := HD.out.later hb6
            have HP6 : Hid (PlH w w6 m z _ zs) := HPn.out.later hb6
            have hq6 : q < w6.heap.size := HD6.out.lt
            have HT7 : Hid (Blk (w6.alloc (.cells (stC 0 noV nilS).toArray 28)) w6.heap.size (stC 0 noV nilS) 28) := Blk.new w6 _ _
            have HP7 : Hid (PlH w (w6.alloc (.cells (stC 0 noV nilS).toArray 28)) m z _ zs) := HP6.out.later (below_box _ _)
            obtain ⟨p0, p1, p2, p3, p4⟩ := dd_cells HD6.out
            have hL := fun w' (h : VSl w' (.slice av na cv) ya) => lmay_any m ⟨(y1, y2, y3), yo, ya⟩ (.slice av na cv) w' h HSz.out HSc.out
            rw [hmd] at hL
            have HL : Hid (∀ w', VSl w' (.slice av na cv) ya → Calls Tryd.prog 14 #[.int .i64 m, .agg (ddC ⟨(y1, y2, y3), yo, ya⟩ (.slice av na cv)).toArray] w' fun e w1 => e = .returned (.bool false) ∧ Below w'.heap.size w' w1) := hL
            have hS0 := fun w => same_yes 0 noV w
            simp only [stH, stN, stC, noH, noV] at hS0 ⊢
            clear hL hmd ht5 hv5 hb6 HPn HD hql
            go_wp2_with fail
            refine (HL.out _ (HVA.out.later HP7.out.b)).mono ?_
            rintro e w8 ⟨rfl, hb8⟩
            have HP8 : Hid (PlH w w8 m z _ zs) := HP7.out.later hb8
            obtain ⟨t0, t1, t2, t3, t4, t5⟩ := st_cells (HT7.out.later hb8)
            simp only [noV] at t1 t2 t3
            clear HP6 HP7 HT7 HL hb8 p0 p1 p2 p3 p4 HD6
            go_wp2_with (go_at_call 11; refine (hS0 _).mono ?_; rintro e w9 ⟨rfl, hb9⟩)
            go_roundw
            case rel => exact ⟨k + 1, zs, by omega, by omega, by go_num, HP8.out.later hb9⟩
            case measure => simp [intOf]; omega
          · refine (HK.out.yes m x (y1, y2, y3) yo _ ya w5 ht5 hv5 HSz.out HSc.out HM.out hmd (by rw [← HX.out]; exact okX_kept _ _)).mono ?_
            rintro e w6 ⟨vo, rfl, ho6, hb6⟩
            have HOk : Hid (OkH ⟨(y1, y2, y3), yo, ya⟩) := mayH_ok HM.out hmd
            have HDo : Hid (DoH m ⟨(y1, y2, y3), yo, ya⟩) := may_doH HM.out hmd
            obtain ⟨x', hx'⟩ : ∃ x', nxH m x ⟨(y1, y2, y3), yo, ya⟩ = x' := ⟨_, rfl⟩
            have HX' : Hid (nxH m x ⟨(y1, y2, y3), yo, ya⟩ = x') := hx'
            obtain ⟨lo, hlo⟩ : ∃ lo, outHx x ⟨(y1, y2, y3), yo, ya⟩ = lo := ⟨_, rfl⟩
            have HLo : Hid (outHx x ⟨(y1, y2, y3), yo, ya⟩ = lo) := hlo
            rw [hlo] at ho6
            rw [hx']
            clear hx' hlo
            have HD6 : Hid (Blk w6 q (ddC ⟨(y1, y2, y3), yo, ya⟩ (.slice av na cv)) 36) := HD.out.later hb6
            have HP6 : Hid (PlH w w6 m z _ zs) := HPn.out.later hb6
            have HVO6 : Hid (VSl w6 vo lo) := ho6.vsl
            have hq6 : q < w6.heap.size := HD6.out.lt
            have HT7 : Hid (Blk (w6.alloc (.cells (stH m x' nilS).toArray 28)) w6.heap.size (stH m x' nilS) 28) := Blk.new w6 _ _
            have HP7 : Hid (PlH w (w6.alloc (.cells (stH m x' nilS).toArray 28)) m z _ zs) := HP6.out.later (below_box _ _)
            have HD7 : Hid (Blk (w6.alloc (.cells (stH m x' nilS).toArray 28)) q (ddC ⟨(y1, y2, y3), yo, ya⟩ (.slice av na cv)) 36) := HD6.out.later (below_box _ _)
            have HVO7 : Hid (VSl (w6.alloc (.cells (stH m x' nilS).toArray 28)) vo lo) := HVO6.out.later (below_box _ _)
            obtain ⟨p0, p1, p2, p3, p4⟩ := dd_cells HD6.out
            have hL := fun w' (h : VSl w' (.slice av na cv) ya) => lmay_any m ⟨(y1, y2, y3), yo, ya⟩ (.slice av na cv) w' h HSz.out HSc.out
            rw [hmd] at hL
            have HL : Hid (∀ w', VSl w' (.slice av na cv) ya → Calls Tryd.prog 14 #[.int .i64 m, .agg (ddC ⟨(y1, y2, y3), yo, ya⟩ (.slice av na cv)).toArray] w' fun e w1 => e = .returned (.bool true) ∧ Below w'.heap.size w' w1) := hL
            simp only [stH, stN]
            clear hL hmd ht5 hv5 hb6 HPn HD hql ho6 HP6 HD6 HVO6
            go_wp2_with fail
            obtain ⟨z7, hz7⟩ : ∃ z7, w6.heap.size = z7 := ⟨_, rfl⟩
            change Calls _ _ _ (w6.alloc (.cells (stH m x' nilS).toArray 28)) _
            generalize w6.alloc (.cells (stH m x' nilS).toArray 28) = w7 at HT7 HP7 HD7 HVO7 ⊢
            rw [hz7] at HT7 hq6
            simp only [hz7]
            clear hz7 p0 p1 p2 p3 p4
            refine (HL.out _ (HVA.out.later HP7.out.b)).mono ?_
            rintro e w8 ⟨rfl, hb8⟩
            have HP8 : Hid (PlH w w8 m z _ zs) := HP7.out.later hb8
            have HT8 : Hid (Blk w8 z7 (stH m x' nilS) 28) := HT7.out.later hb8
            have HD8 : Hid (Blk w8 q (ddC ⟨(y1, y2, y3), yo, ya⟩ (.slice av na cv)) 36) := HD7.out.later hb8
            have HVO8 : Hid (VSl w8 vo lo) := HVO7.out.later hb8
            obtain ⟨p0, p1, p2, p3, p4⟩ := dd_cells HD8.out
            clear HP7 HT7 HD7 HVO7 HL hb8
            go_wp2_with fail
            refine (out_anyH m _ zs ⟨(y1, y2, y3), yo, ya⟩ (.slice av na cv) w8 HP8.out.o.dsl (HP8.out.i.later HP8.out.b) HP8.out.k (by have := HZN.out; omega) HDo.out).mono ?_
            rintro e w9 ⟨vo', rfl, hvo', hb9⟩
            rw [HX.out, HLo.out] at hvo'
            have HLl : Hid (lo.length ≤ 1000000) := by
              show _ ≤ _
              rw [← HLo.out]
              unfold outHx outH
              repeat' split
              all_goals simp
            have hSm := same_any vo vo' lo lo w9 (HVO8.out.later hb9) hvo' HLl.out
            rw [sameL_self] at hSm
            have HP9 : Hid (PlH w w9 m z _ zs) := HP8.out.later hb9
            have HT9 : Hid (Blk w9 z7 (stH m x' nilS) 28) := HT8.out.later hb9
            have HD9 : Hid (Blk w9 q (ddC ⟨(y1, y2, y3), yo, ya⟩ (.slice av na cv)) 36) := HD8.out.later hb9
            clear HP8 HT8 HD8 HVO8 hb9 hvo' p0 p1 p2 p3 p4
            go_wp2_with fail
            refine hSm.mono ?_
            rintro e w10 ⟨rfl, hb10⟩
            have HP10 : Hid (PlH w w10 m z _ zs) := HP9.out.later hb10
            have HT10 : Hid (Blk w10 z7 (stH m x' nilS) 28) := HT9.out.later hb10
            have HD10 : Hid (Blk w10 q (ddC ⟨(y1, y2, y3), yo, ya⟩ (.slice av na cv)) 36) := HD9.out.later hb10
            obtain ⟨p0, p1, p2, p3, p4⟩ := dd_cells HD10.out
            clear HP9 HT9 HD9 hb10 hSm
            have hb11 := below_box w10 (.cells (encD (⟨(y1, y2, y3), yo, ya⟩, .slice av na cv)).toArray 36)
            have HP11 : Hid (PlH w (w10.alloc (.cells (encD (⟨(y1, y2, y3), yo, ya⟩, .slice av na cv)).toArray 36)) m z _ zs) := HP10.out.later hb11
            have HT11 : Hid (Blk (w10.alloc (.cells (encD (⟨(y1, y2, y3), yo, ya⟩, .slice av na cv)).toArray 36)) z7 (stH m x' nilS) 28) := HT10.out.later hb11
            have HR11 : Hid ((w10.alloc (.cells (encD (⟨(y1, y2, y3), yo, ya⟩, .slice av na cv)).toArray 36)).rangeAt w10.heap.size 0 (encD (⟨(y1, y2, y3), yo, ya⟩, .slice av na cv))) := Blk.all (Blk.new w10 (encD (⟨(y1, y2, y3), yo, ya⟩, .slice av na cv)) 36)
            clear HP10 HT10 hb11 HD10
            go_wp2_with (first
              | (at_builtin; refine wpList_appendD1 rfl (.tmp 83) (.tmp 85) rfl w.heap.size _ zs rfl HP11.out.o w10.heap.size (⟨(y1, y2, y3), yo, ya⟩, .slice av na cv) rfl HR11.out rfl HZN.out HP11.out.b.size ?_; intro g12 cap12 w12 o12 gr12; have HO12 : Hid (OwnD w12 w.heap.size (.slice (some ⟨g12, 0, none⟩) (zs.length + 1) cap12) (zs ++ [(⟨(y1, y2, y3), yo, ya⟩, .slice av na cv)])) := o12; have HB12 : Hid (Below w.heap.size w w12) := Below.grown HP11.out.b gr12 HP11.out.b.size (fun p h => (HP11.out.o.lt p h).1); have HT12 : Hid (Blk w12 z7 (stH m x' nilS) 28) := HT11.out.kept gr12 (HT11.out.not_row (by decide) HP11.out.o); have HS12 : Hid (Blk w12 z (stH m x nilS) 28) := (HX.out ▸ HP11.out.s : Blk _ z (stH m x nilS) 28).kept gr12 ((HX.out ▸ HP11.out.s : Blk _ z (stH m x nilS) 28).not_row (by decide) HP11.out.o); obtain ⟨t0, t1, t2, t3, t4, t5⟩ := sth_cells HT12.out; clear o12 gr12)
              | ((with_reducible refine wp_storeB 28 (.tmp 5) (.tmp 87) z 0 (stH m x' nilS) (stH m x nilS) 28 ?_ ?_ (stH_one _ _ rfl) ?_ ?_ ?_ HS12.out ?_); (exact infoSt); (exact (show 0 + 6 ≤ 6 by decide)); (exact ⟨rfl, rfl⟩); (exact rfl); (exact rfl); (intro w13 D1 o13); (replace D1 : Blk w13 z (stH m x' nilS) 28 := D1); (have HS13 : Hid (Blk w13 z (stH m x' nilS) 28) := D1); (have HB13 : Hid (Below w.heap.size w w13) := below_oth HB12.out o13 HZ.out HZ.out HB12.out.size); (have HO13 : Hid (OwnD w13 w.heap.size (.slice (some ⟨g12, 0, none⟩) (zs.length + 1) cap12) (zs ++ [(⟨(y1, y2, y3), yo, ya⟩, .slice av na cv)])) := HO12.out.oth o13 HS12.out (by decide)); (clear D1 o13)))
            simp only [Act.put]
            have HP13 : Hid (PlH w w13 m z (.slice (some ⟨g12, 0, none⟩) (zs.length + 1) cap12) (zs ++ [(⟨(y1, y2, y3), yo, ya⟩, .slice av na cv)])) :=
              ⟨HO13.out, InD.snoc HP11.out.i HVA.out, okH_snoc HP11.out.k HOk.out, by rw [keptH_past, HX.out, HX'.out]; exact HS13.out, HB13.out⟩
            obtain ⟨s0, s1, s2, s3, s4, s5⟩ := sth_cells HS13.out
            have s0' := fun d os => cell_regrown s0 d os
            have s1' := fun d os => cell_regrown s1 d os
            have s2' := fun d os => cell_regrown s2 d os
            have s3' := fun d os => cell_regrown s3 d os
            have s4' := fun d os => cell_regrown s4 d os
            have s5' := fun d os => cell_regrown s5 d os
            have hSt := fun d os => state_anyH m (.slice (some ⟨g12, 0, none⟩) (zs.length + 1) cap12) (zs ++ [(⟨(y1, y2, y3), yo, ya⟩, .slice av na cv)]) (grow (redrawn w13 d) os) (HP13.out.o.dsl.later (below_regrown w13 d os)) (HP13.out.i.later (below_next HP13.out.b (below_regrown w13 d os))) HP13.out.k (by rw [List.length_append]; exact HZN.out)
            rw [keptH_past, HX.out, HX'.out] at hSt
            have hSm := fun w => same_yesH m x' w
            simp only [stH, stN] at hSt hSm
            clear HP11 HT11 HR11 HO12 HB12 HT12 HS12 t0 t1 t2 t3 t4 t5 s0 s1 s2 s3 s4 s5 HS13 HB13 HO13 p0 p1 p2 p3 p4
            refine wp_region_quiet_below (by assumption) (by kernel_rfl) ?_
            repeat (go_big_quiet_step (first | (go_at_call 12; with_reducible exact Calls.regrown_of (hSt _ _)) | (go_at_call 11; with_reducible exact Calls.regrown_of (hSm _))))
            refine wpQuiet_nil ?_
            intro _ hw'
            obtain ⟨⟨dq, osq⟩, hw''⟩ := hw'
            subst hw''
            have HPq : Hid (PlH w (grow (redrawn w13 dq) osq) m z (.slice (some ⟨g12, 0, none⟩) (zs.length + 1) cap12) (zs ++ [(⟨(y1, y2, y3), yo, ya⟩, .slice av na cv)])) := HP13.out.later (below_regrown w13 dq osq)
            clear s0' s1' s2' s3' s4' s5' hSt hSm HP13
            generalize grow (redrawn w13 dq) osq = u at *
            go_wp2
            go_roundw
            case rel => exact ⟨k + 1, zs ++ [(⟨(y1, y2, y3), yo, ya⟩, .slice av na cv)], by omega, by rw [List.length_append]; simp; omega, by go_num, HPq.out⟩
            case measure => simp [intOf]; omega
        · have e : k = n := by omega
          subst e
          go_wp2
          go_ret
          exact ⟨rfl, HP.out.b⟩
    · clear HS4 HF
      go_wp2_with (go_at_call 11; refine (hS _).mono ?_; rintro e w5 ⟨rfl, hb5⟩)
      go_ret
      exact ⟨rfl, below_next HB4.out hb5⟩
end Go.Proofs.YtpboleifllcehaaDoor
