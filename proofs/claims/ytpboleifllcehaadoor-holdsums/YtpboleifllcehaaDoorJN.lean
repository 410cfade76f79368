/- The walk of HoldOuts. Conditions: the table of signs lies in memory; sizes. -/
import Derived.Test.YtpboleifllcehaaDoorJP
namespace Go.Proofs.YtpboleifllcehaaDoor
open Go.RowKit Go.PlainAid Ln Go.Sort
set_option linter.unusedVariables false
set_option linter.unusedSimpArgs false

theorem outs_fitH {m : Int} {x : VN} {d : Dd} (hm : ownH m = true) (h : mayD m d = true) : (fi m d.o && outsOK (fr m d.o) (outHx x d)) = true := by
  obtain ⟨c, o, a⟩ := d
  obtain ⟨v, n⟩ := x
  have hd := may_doH hm h
  clear h hm
  rcases hd with ⟨rfl, h⟩ | ⟨rfl, h⟩
  · rcases h with h | h
    · have h : o = 11 := h
      subst h
      show (fi 7 11 && outsOK (fr 7 11) [yesV (decide (v = noV))]) = true
      cases decide (v = noV) <;> kernel_rfl
    · have h : o = 12 := h
      subst h
      show (fi 7 12 && outsOK (fr 7 12) [yesV (decide (v = c))]) = true
      cases decide (v = c) <;> kernel_rfl
  · rcases h with h | h
    · have h : o = 2 := h
      subst h
      show (fi 8 2 && outsOK (fr 8 2) [(1, n, noB)]) = true
      kernel_rfl
    · have h : o = 4 := h
      subst h
      show (fi 8 4 && outsOK (fr 8 4) []) = true
      kernel_rfl
theorem out_szH (x : VN) (d : Dd) : SzV (outHx x d) := by
  unfold outHx outH
  repeat' split
  all_goals first | exact sz0 | exact sz1 _ (Nat.zero_le _)
theorem copy_anyH (m : Int) (x : VN) (w : World) : Calls Tryd.prog 17 #[.agg (stH m x nilS).toArray] w fun e w' => ∃ l, e = .returned (.agg (stH m x l).toArray) ∧ VSl w' l [] ∧ Below w.heap.size w w' := by
  refine (copy_anyN m x.1 x.2 nilS [] w (vsl_nil0 w) (Nat.zero_le _)).mono ?_
  rintro e w' ⟨l, rfl, ho, hb⟩
  exact ⟨l, rfl, ho.vsl, hb⟩
theorem same_lH (m : Int) (x : VN) (l : Value) (w : World) (hl : VSl w l []) : Calls Tryd.prog 11 #[.agg (stH m x l).toArray, .agg (stH m x nilS).toArray] w fun e w' => e = .returned (.bool true) ∧ Below w.heap.size w w' := by
  have := same_stN m m x.1 x.1 x.2 x.2 l nilS [] [] w hl (vsl_nil0 w) (Nat.zero_le _)
  rw [decide_eq_true rfl, decide_eq_true rfl, decide_eq_true rfl] at this
  exact this
/-- an empty row is one in every world -/
theorem vsl_empty {w w' : World} {l : Value} (h : VSl w l []) : VSl w' l [] := by
  obtain ⟨a, c, h1, h2, h3, h4⟩ := h
  refine ⟨a, c, h1, h2, h3, .inl ⟨rfl, ?_⟩⟩
  rcases h4 with ⟨_, h⟩ | ⟨b, o, h, _⟩
  · exact h
  · intro e; rw [h] at e; cases e
set_option maxRecDepth 100000 in
set_option maxHeartbeats 16000000 in
theorem law_outsH (K : HoldOK) (m : Int) (v : Value) (ys : List YD) (w : World) (ht : Tb w) (hv : DSl w v ys) (hi : InD w ys) : Calls Tryd.prog 4 #[.int .i64 m, v] w fun e w' => e = .returned (.bool true) ∧ Below w.heap.size w w' := by
  have HT : Hid (Tb w) := ht
  have HV0 : Hid (DSl w v ys) := hv
  have HI : Hid (InD w ys) := hi
  have HW : Hid (∀ w', Below w.heap.size w w' → Calls Tryd.prog 7 #[] w' fun e w'' => e = .returned (.bool true) ∧ Below w'.heap.size w' w'') := fun w' hb => wakes_anyH K w' (ht.later hb)
  have HK : Hid HoldOK := K
  clear ht hv hi K
  cases hm : ownH m
  · have hN := fun w => HK.out.new m w
    rw [hm] at hN
    rw [if_neg (by decide)] at hN
    simp only [stH, stN, stC, noH, noV] at hN
    clear hm
    go_enter Tryd.func4, Tryd.ntmps4
    go_wp2_with (first
      | (go_at_call 7; refine (HW.out _ (Below.refl _ _)).mono ?_; rintro e w1 ⟨rfl, hb1⟩)
      | (go_at_call 8; refine (hN _).mono ?_; rintro e w2 ⟨rfl, hb2⟩))
    go_ret
    exact ⟨rfl, below_more (below_next hb1 hb2) _⟩
  · have hN := fun w => HK.out.new m w
    rw [hm] at hN
    rw [if_pos rfl] at hN
    have HG : Hid (∀ w', Below w.heap.size w w' → Calls Tryd.prog 10 #[v] w' fun e w'' => RGreatD w' ys e w'') := fun w' hb => lgreat_any v ys w' (HV0.out.later hb) (HI.out.later hb)
    have HM : Hid (ownH m = true) := hm
    clear hm
    simp only [stH, stN, stC, noH, noV] at hN
    obtain ⟨a, c, rfl, hc1, hc2, _⟩ := HV0.out.form
    obtain ⟨n, hn⟩ : ∃ n, ys.length = n := ⟨_, rfl⟩
    have HN : Hid (ys.length = n) := hn
    rw [hn] at hc1 HV0 HG ⊢
    clear hn
    go_enter Tryd.func4, Tryd.ntmps4
    go_wp2_with (first
      | (go_at_call 7; refine (HW.out _ (Below.refl _ _)).mono ?_; rintro e w1 ⟨rfl, hb1⟩)
      | (go_at_call 8; refine (hN _).mono ?_; rintro e w2 ⟨rfl, hb2⟩))
    have S3 : Blk (w2.alloc (.cells #[.int .i64 m, .int .i64 0, .int .i64 0, .string noB, .int .i64 0, .slice none 0 0] 28)) w2.heap.size (stH m noH nilS) 28 := Blk.new w2 _ _
    have HB3 : Below w.heap.size w (w2.alloc (.cells #[.int .i64 m, .int .i64 0, .int .i64 0, .string noB, .int .i64 0, .slice none 0 0] 28)) := below_more (below_next hb1 hb2) _
    have hzw : w.heap.size ≤ w2.heap.size := (below_next hb1 hb2).size
    generalize w2.alloc (.cells #[.int .i64 m, .int .i64 0, .int .i64 0, .string noB, .int .i64 0, .slice none 0 0] 28) = w3 at S3 HB3 ⊢
    obtain ⟨z, hz⟩ : ∃ z, w2.heap.size = z := ⟨_, rfl⟩
    rw [hz] at S3 hzw
    simp only [hz]
    clear hb1 hb2 hz hN HW
    refine (HG.out w3 HB3).mono ?_
    rintro e w4 ⟨b, rfl, hfew, hb4⟩
    have HS4 : Hid (Blk w4 z (stH m noH nilS) 28) := S3.later hb4
    have HB4 : Hid (Below w.heap.size w w4) := below_next HB3 hb4
    have HF : Hid (b = false → FewDs ys) := hfew
    have HZ : Hid (w.heap.size ≤ z) := hzw
    clear HG S3 HB3 hb4 hfew hzw
    cases b
    · have HFe : Hid (FewDs ys) := HF.out rfl
      clear HF
      go_wp2_with fail
      go_loopw [31] (fun i wr => ∃ (k : Nat) (x : VN), k ≤ n ∧ i = .int .i64 (k : Int) ∧ OkX m x ∧ Blk wr z (stH m x nilS) 28 ∧ Below w.heap.size w wr) (fun i w' => n - (intOf i).toNat)
      case atStart => exact ⟨0, noH, by omega, rfl, okX_no m, HS4.out, HB4.out⟩
      case round =>
        obtain ⟨k, x, hk, rfl, hkx, hs, hbw⟩ := hrel
        have HKx : Hid (OkX m x) := hkx
        have HS : Hid (Blk wr z (stH m x nilS) 28) := hs
        have HB : Hid (Below w.heap.size w wr) := hbw
        clear hkx hs hbw HS4 HB4
        by_cases hlt : k < n
        · have hlt' : (k : Int) < (n : Int) := by omega
          have hkm : (k : Int) + 1 ≤ 9223372036854775807 := by have := HFe.out.1; have := HN.out; omega
          obtain ⟨b, o, rfl, hbl, hat⟩ := HV0.out.near (by rw [HN.out]; omega)
          obtain ⟨c0, c1, c2, c3, c4⟩ := dd_at (hat k (by rw [HN.out]; exact hlt))
          have hva := HI.out k (by rw [HN.out]; exact hlt)
          have hfew := HFe.out.2 k (by rw [HN.out]; exact hlt)
          have hb := HB.out
          have d0 := (hb.cell (p := ⟨b, o + k * 5, none⟩) hbl).trans c0
          have d1 := (hb.cell (p := ⟨b, o + k * 5 + 1, none⟩) hbl).trans c1
          have d2 := (hb.cell (p := ⟨b, o + k * 5 + 2, none⟩) hbl).trans c2
          have d3 := (hb.cell (p := ⟨b, o + k * 5 + 3, none⟩) hbl).trans c3
          have d4 := (hb.cell (p := ⟨b, o + k * 5 + 4, none⟩) hbl).trans c4
          clear c0 c1 c2 c3 c4 hat hbl hb HFe HI HV0 HN
          obtain ⟨⟨⟨⟨y1, y2, y3⟩, yo, ya⟩, vy⟩, hy⟩ : ∃ y, yd ys k = y := ⟨_, rfl⟩
          rw [hy] at d0 d1 d2 d3 d4 hva hfew
          dsimp only at d0 d1 d2 d3 d4 hva
          clear hy
          obtain ⟨av, cv, rfl, hcv1, hcv2, _⟩ := hva.form
          have HVA : Hid (VSl w (.slice av ya.length cv) ya) := hva
          have HFw : Hid (FewD ⟨(y1, y2, y3), yo, ya⟩) := hfew
          obtain ⟨hsz, hsc⟩ := few_sz hfew
          have HSz : Hid (SzV ya) := hsz
          have HSc : Hid (y3.size ≤ 4611686018427387904) := hsc
          clear hva hfew hsz hsc
          obtain ⟨na, hna⟩ : ∃ na, ya.length = na := ⟨_, rfl⟩
          rw [hna] at HVA hcv1 d4
          clear hna
          obtain ⟨s0, s1, s2, s3, s4, s5⟩ := sth_cells HS.out
          have hzl : z < wr.heap.size := HS.out.lt
          have HD : Hid (Blk (wr.alloc (.cells #[.int .i64 y1, .int .i64 y2, .string y3, .int .i64 yo, .slice av na cv] 36)) wr.heap.size (ddC ⟨(y1, y2, y3), yo, ya⟩ (.slice av na cv)) 36) := Blk.new wr (ddC ⟨(y1, y2, y3), yo, ya⟩ (.slice av na cv)) _
          have HS5 : Hid (Blk (wr.alloc (.cells #[.int .i64 y1, .int .i64 y2, .string y3, .int .i64 yo, .slice av na cv] 36)) z (stH m x nilS) 28) := HS.out.later (below_box _ _)
          have HB5 : Hid (Below w.heap.size w (wr.alloc (.cells #[.int .i64 y1, .int .i64 y2, .string y3, .int .i64 yo, .slice av na cv] 36))) := below_next HB.out (below_box _ _)
          clear HS HB
          go_wp2_with fail
          generalize wr.alloc (.cells #[.int .i64 y1, .int .i64 y2, .string y3, .int .i64 yo, .slice av na cv] 36) = w5 at HD HS5 HB5 ⊢
          obtain ⟨q, hq⟩ : ∃ q, wr.heap.size = q := ⟨_, rfl⟩
          rw [hq] at HD hzl
          simp only [hq]
          clear hq d0 d1 d2 d3 d4 s0 s1 s2 s3 s4 s5
          -- a copy of the state
          refine (copy_anyH m x w5).mono ?_
          rintro e w6 ⟨l, rfl, hvl, hb6⟩
          obtain ⟨al, cl, rfl⟩ : ∃ al cl, l = .slice al 0 cl := by obtain ⟨al, cl, h, _⟩ := hvl; exact ⟨al, cl, h⟩
          have HVl6 : Hid (VSl w6 (.slice al 0 cl) []) := hvl
          have HD7 : Hid (Blk (w6.alloc (.cells (stH m x (.slice al 0 cl)).toArray 28)) q (ddC ⟨(y1, y2, y3), yo, ya⟩ (.slice av na cv)) 36) := (HD.out.later hb6).later (below_box _ _)
          have HS7 : Hid (Blk (w6.alloc (.cells (stH m x (.slice al 0 cl)).toArray 28)) z (stH m x nilS) 28) := (HS5.out.later hb6).later (below_box _ _)
          have HB7 : Hid (Below w.heap.size w (w6.alloc (.cells (stH m x (.slice al 0 cl)).toArray 28))) := below_next (below_next HB5.out hb6) (below_box _ _)
          have HI7 : Hid (Blk (w6.alloc (.cells (stH m x (.slice al 0 cl)).toArray 28)) w6.heap.size (stH m x (.slice al 0 cl)) 28) := Blk.new w6 _ _
          have HVl7 : Hid (VSl (w6.alloc (.cells (stH m x (.slice al 0 cl)).toArray 28)) (.slice al 0 cl) []) := HVl6.out.later (below_box _ _)
          obtain ⟨s0, s1, s2, s3, s4, s5⟩ := sth_cells (HS5.out.later hb6)
          obtain ⟨p0, p1, p2, p3, p4⟩ := dd_cells (HD.out.later hb6)
          have hzl6 : z < w6.heap.size := (HS5.out.later hb6).lt
          have hql6 : q < w6.heap.size := (HD.out.later hb6).lt
          simp only [stH, stN]
          clear hvl hb6 HD HS5 HB5 HVl6 hzl
          go_wp2_with fail
          change Calls _ _ _ (w6.alloc (.cells (stH m x (.slice al 0 cl)).toArray 28)) _
          obtain ⟨zi, hzi⟩ : ∃ zi, w6.heap.size = zi := ⟨_, rfl⟩
          generalize w6.alloc (.cells (stH m x (.slice al 0 cl)).toArray 28) = w7 at HD7 HS7 HB7 HI7 HVl7 ⊢
          rw [hzi] at HI7 hzl6 hql6
          simp only [hzi]
          clear hzi s0 s1 s2 s3 s4 s5 p0 p1 p2 p3 p4
          cases hmd : mayD m ⟨(y1, y2, y3), yo, ya⟩
          · refine (HK.out.no m x (y1, y2, y3) nilS yo _ ya w7 (HT.out.later HB7.out) (HVA.out.later HB7.out) HSz.out HSc.out (by rw [hmd, Bool.and_false])).mono ?_
            rintro e w8 ⟨rfl, hb8⟩
            have HS9 : Hid (Blk (w8.alloc (.cells (stC 0 noV nilS).toArray 28)) z (stH m x nilS) 28) := (HS7.out.later hb8).later (below_box _ _)
            have HB9 : Hid (Below w.heap.size w (w8.alloc (.cells (stC 0 noV nilS).toArray 28))) := below_next (below_next HB7.out hb8) (below_box _ _)
            have HVl9 : Hid (VSl (w8.alloc (.cells (stC 0 noV nilS).toArray 28)) (.slice al 0 cl) []) := (HVl7.out.later hb8).later (below_box _ _)
            obtain ⟨s0, s1, s2, s3, s4, s5⟩ := sth_cells (HS7.out.later hb8)
            obtain ⟨i0, i1, i2, i3, i4, i5⟩ := sth_cells (HI7.out.later hb8)
            have hzl8 : z < w8.heap.size := (HS7.out.later hb8).lt
            have hil8 : zi < w8.heap.size := (HI7.out.later hb8).lt
            simp only [stH, stN, stC, noH, noV]
            clear hmd hb8 HS7 HB7 HVl7 HI7 HD7
            go_wp2_with fail
            refine (same_lH m x (.slice al 0 cl) _ HVl9.out).mono ?_
            rintro e w10 ⟨rfl, hb10⟩
            have HS10 : Hid (Blk w10 z (stH m x nilS) 28) := HS9.out.later hb10
            have HB10 : Hid (Below w.heap.size w w10) := below_next HB9.out hb10
            clear HS9 HB9 HVl9 hb10 s0 s1 s2 s3 s4 s5 i0 i1 i2 i3 i4 i5
            go_wp2_with fail
            go_roundw
            case rel => exact ⟨k + 1, x, by omega, by go_num, HKx.out, HS10.out, HB10.out⟩
            case measure => simp [intOf]; omega
          · refine (HK.out.yes m x (y1, y2, y3) yo _ ya w7 (HT.out.later HB7.out) (HVA.out.later HB7.out) HSz.out HSc.out HM.out hmd HKx.out).mono ?_
            rintro e w8 ⟨vo, rfl, ho8, hb8⟩
            have HKx' : Hid (OkX m (nxH m x ⟨(y1, y2, y3), yo, ya⟩)) := okX_nx HKx.out _
            have HFit : Hid ((fi m yo && outsOK (fr m yo) (outHx x ⟨(y1, y2, y3), yo, ya⟩)) = true) := outs_fitH HM.out hmd
            have HOsz : Hid (SzV (outHx x ⟨(y1, y2, y3), yo, ya⟩)) := out_szH _ _
            obtain ⟨x', hx'⟩ : ∃ x', nxH m x ⟨(y1, y2, y3), yo, ya⟩ = x' := ⟨_, rfl⟩
            obtain ⟨lo, hlo⟩ : ∃ lo, outHx x ⟨(y1, y2, y3), yo, ya⟩ = lo := ⟨_, rfl⟩
            rw [hlo] at ho8 HFit HOsz
            rw [hx'] at HKx' ⊢
            clear hx' hlo hmd
            have hlv8 : w7.heap.size ≤ w8.heap.size := hb8.size
            have HS8 : Hid (Blk w8 z (stH m x nilS) 28) := HS7.out.later hb8
            have HI8 : Hid (Blk w8 zi (stH m x (.slice al 0 cl)) 28) := HI7.out.later hb8
            have HD8 : Hid (Blk w8 q (ddC ⟨(y1, y2, y3), yo, ya⟩ (.slice av na cv)) 36) := HD7.out.later hb8
            have HO8 : Hid (OwnV w8 w7.heap.size vo lo) := ho8
            have hzl7 : z < w7.heap.size := HS7.out.lt
            have hil7 : zi < w7.heap.size := HI7.out.lt
            have hzl8 : z < w8.heap.size := HS8.out.lt
            have hil8 : zi < w8.heap.size := HI8.out.lt
            have hql8 : q < w8.heap.size := HD8.out.lt
            have HV8 : Hid (VSl w8 (.slice al 0 cl) []) := HVl7.out.later hb8
            have HB8 : Hid (Below w.heap.size w w8) := below_next HB7.out hb8
            obtain ⟨B7, hB7⟩ : ∃ B7, w7.heap.size = B7 := ⟨_, rfl⟩
            have HB7w : Hid (w.heap.size ≤ B7) := by show _ ≤ _; rw [← hB7]; exact HB7.out.size
            rw [hB7] at HO8 hzl7 hil7 hlv8
            clear hB7 ho8 hb8 HS7 HB7 HVl7 HI7 HD7
            obtain ⟨s0, s1, s2, s3, s4, s5⟩ := sth_cells HS8.out
            obtain ⟨i0, i1, i2, i3, i4, i5⟩ := sth_cells HI8.out
            have bx := below_box w8 (.cells (stH m x' nilS).toArray 28)
            have HS9 : Hid (Blk (w8.alloc (.cells (stH m x' nilS).toArray 28)) z (stH m x nilS) 28) := HS8.out.later bx
            have HI9 : Hid (Blk (w8.alloc (.cells (stH m x' nilS).toArray 28)) zi (stH m x (.slice al 0 cl)) 28) := HI8.out.later bx
            have HD9 : Hid (Blk (w8.alloc (.cells (stH m x' nilS).toArray 28)) q (ddC ⟨(y1, y2, y3), yo, ya⟩ (.slice av na cv)) 36) := HD8.out.later bx
            have HV9 : Hid (VSl (w8.alloc (.cells (stH m x' nilS).toArray 28)) (.slice al 0 cl) []) := HV8.out.later bx
            have HB9 : Hid (Below w.heap.size w (w8.alloc (.cells (stH m x' nilS).toArray 28))) := below_next HB8.out bx
            have HO9 : Hid (OwnV (w8.alloc (.cells (stH m x' nilS).toArray 28)) B7 vo lo) := HO8.out.later bx
            have HT9 : Hid (Blk (w8.alloc (.cells (stH m x' nilS).toArray 28)) w8.heap.size (stH m x' nilS) 28) := Blk.new w8 _ _
            have HLt : Hid (∀ g, vo.ownBlock = some g → B7 ≤ g ∧ g < w8.heap.size) := HO8.out.lt
            simp only [stH, stN]
            clear bx HS8 HI8 HD8 HV8 HB8 HO8
            go_wp2_with fail
            change Calls _ _ _ (w8.alloc (.cells (stH m x' nilS).toArray 28)) _
            obtain ⟨zt, hzt⟩ : ∃ zt, w8.heap.size = zt := ⟨_, rfl⟩
            generalize w8.alloc (.cells (stH m x' nilS).toArray 28) = w9 at HS9 HI9 HD9 HV9 HB9 HO9 HT9 ⊢
            rw [hzt] at HT9 HLt hzl8 hil8 hql8 hlv8
            simp only [hzt]
            clear hzt s0 s1 s2 s3 s4 s5 i0 i1 i2 i3 i4 i5
            refine (same_lH m x (.slice al 0 cl) w9 HV9.out).mono ?_
            rintro e w10 ⟨rfl, hb10⟩
            have HS10 : Hid (Blk w10 z (stH m x nilS) 28) := HS9.out.later hb10
            have HI10 : Hid (Blk w10 zi (stH m x (.slice al 0 cl)) 28) := HI9.out.later hb10
            have HT10 : Hid (Blk w10 zt (stH m x' nilS) 28) := HT9.out.later hb10
            have HV10 : Hid (VSl w10 (.slice al 0 cl) []) := HV9.out.later hb10
            have HB10 : Hid (Below w.heap.size w w10) := below_next HB9.out hb10
            have HO10 : Hid (OwnV w10 B7 vo lo) := HO9.out.later hb10
            obtain ⟨p0, p1, p2, p3, p4⟩ := dd_cells (HD9.out.later hb10)
            clear HS9 HI9 HD9 HV9 HB9 HO9 HT9 hb10
            go_wp2_with fail
            refine (outs_any m yo vo lo w10 (HT.out.later HB10.out) HO10.out.vsl HOsz.out.1 HOsz.out.2).mono ?_
            rintro e w11 ⟨vd, rfl, -, hb11⟩
            rw [HFit.out]
            have HS11 : Hid (Blk w11 z (stH m x nilS) 28) := HS10.out.later hb11
            have HI11 : Hid (Blk w11 zi (stH m x (.slice al 0 cl)) 28) := HI10.out.later hb11
            have HT11 : Hid (Blk w11 zt (stH m x' nilS) 28) := HT10.out.later hb11
            have HV11 : Hid (VSl w11 (.slice al 0 cl) []) := HV10.out.later hb11
            have HB11 : Hid (Below w.heap.size w w11) := below_next HB10.out hb11
            have HO11 : Hid (OwnV w11 B7 vo lo) := HO10.out.later hb11
            obtain ⟨t0, _, _, _, _, _⟩ := sth_cells HT11.out
            clear HS10 HI10 HT10 HV10 HB10 HO10 hb11 p0 p1 p2 p3 p4
            rcases own_block HO11.out with ⟨rfl, rfl⟩ | ⟨g, co, cs, rfl, hgB, hco, hcs, hcl⟩
            · clear HLt
              go_wp2_with fail
              go_loopw [73] (fun j wj => j = .int .i64 0 ∧ wj = w11) (fun j wj => 0)
              case atStart => exact ⟨rfl, rfl⟩
              case round =>
                obtain ⟨rfl, rfl⟩ := hrel
                have HSx := HS11
                have HIx := HI11
                have HTx := HT11
                have HVx := HV11
                have HBx := HB11
                obtain ⟨s0, s1, s2, s3, s4, s5⟩ := sth_cells HSx.out
                obtain ⟨i0, i1, i2, i3, i4, i5⟩ := sth_cells HIx.out
                go_wp2_with fail
                refine (same_lH m x (.slice al 0 cl) _ HVx.out).mono ?_
                rintro e w20 ⟨rfl, hb20⟩
                have HT20 : Hid (Blk w20 zt (stH m x' nilS) 28) := HTx.out.later hb20
                have HS20 : Hid (Blk w20 z (stH m x nilS) 28) := HSx.out.later hb20
                have HB20 : Hid (Below w.heap.size w w20) := below_next HBx.out hb20
                obtain ⟨t0, t1, t2, t3, t4, t5⟩ := sth_cells HT20.out
                clear HSx HIx HTx HVx HBx hb20 s0 s1 s2 s3 s4 s5 i0 i1 i2 i3 i4 i5
                go_wp2_with ((with_reducible refine wp_storeB 28 (.tmp 5) (.tmp 85) z 0 (stH m x' nilS) (stH m x nilS) 28 ?_ ?_ (stH_one _ _ rfl) ?_ ?_ ?_ HS20.out ?_); (exact infoSt); (exact (show 0 + 6 ≤ 6 by decide)); (exact ⟨rfl, rfl⟩); (exact rfl); (exact rfl); (intro w21 D1 o21); (replace D1 : Blk w21 z (stH m x' nilS) 28 := D1); (have HS21 : Hid (Blk w21 z (stH m x' nilS) 28) := D1); (have HB21 : Hid (Below w.heap.size w w21) := below_oth HB20.out o21 HZ.out HZ.out HB20.out.size); (clear D1 o21))
                go_roundw
                case rel => exact ⟨k + 1, x', by omega, by go_num, HKx'.out, HS21.out, HB21.out⟩
                case measure => simp [intOf]; omega
            · obtain ⟨hgB', hgt⟩ := HLt.out g rfl
              have hlo1 : (lo.length : Int) ≤ 1000000 := by have := HOsz.out.2; omega
              have HCs : Hid (Blk w11 g cs 25) := hcs
              have HGn : Hid (w.heap.size ≤ g) := Nat.le_trans HB7w.out hgB
              clear HLt hcs HOsz HO11
              obtain ⟨nl, hnl⟩ : ∃ nl, lo.length = nl := ⟨_, rfl⟩
              rw [hnl] at hco hcl hlo1 ⊢
              clear hnl
              go_wp2_with fail
              go_loopw [73] (fun j wj => ∃ (r : Nat) (cs' : List Value), r ≤ nl ∧ j = .int .i64 (r : Int) ∧ Blk wj g cs' 25 ∧ cs'.length = cs.length ∧ Oth g g w11 wj) (fun j wj => nl - (intOf j).toNat)
              case atStart => exact ⟨0, cs, by omega, rfl, HCs.out, rfl, Oth.refl _ _ _⟩
              case round =>
                obtain ⟨r, cs', hr, rfl, hb', hl', ho'⟩ := hrel
                have HC' : Hid (Blk wr g cs' 25) := hb'
                have HL' : Hid (cs'.length = cs.length) := hl'
                have HO' : Hid (Oth g g w11 wr) := ho'
                clear hb' hl' ho'
                by_cases hrn : r < nl
                · have hrn' : (r : Int) < (nl : Int) := by omega
                  have hoff : r * 3 < cs'.length := by have := HL'.out; omega
                  go_wp2_with ((with_reducible refine wp_storeC 3 (.tmp 79) (.const (.int .i64 9)) g (r * 3) (.int .i64 9) cs' 25 infoI1 hoff rfl rfl ?_ ?_ ?_ HC'.out ?_); (exact ⟨rfl, rfl⟩); (exact rfl); (exact rfl); (intro w12 D1 o12); (have HC12 : Hid (Blk w12 g (cs'.set (r * 3) (.int .i64 9)) 25) := D1); (have HO12 : Hid (Oth g g w11 w12) := HO'.out.trans o12); (clear D1 o12))
                  go_roundw
                  case rel => exact ⟨r + 1, cs'.set (r * 3) (.int .i64 9), by omega, by go_num, HC12.out, by rw [List.length_set]; exact HL'.out, HO12.out⟩
                  case measure => simp [intOf]; omega
                · have e : r = nl := by omega
                  subst e
                  have HSx : Hid (Blk wr z (stH m x nilS) 28) := HS11.out.oth HO'.out (by omega) (by omega)
                  have HIx : Hid (Blk wr zi (stH m x (.slice al 0 cl)) 28) := HI11.out.oth HO'.out (by omega) (by omega)
                  have HTx : Hid (Blk wr zt (stH m x' nilS) 28) := HT11.out.oth HO'.out (by omega) (by omega)
                  have HVx : Hid (VSl wr (.slice al 0 cl) []) := vsl_empty HV11.out
                  have HBx : Hid (Below w.heap.size w wr) := below_oth HB11.out HO'.out HGn.out HGn.out HB11.out.size
                  clear HS11 HI11 HT11 HV11 HB11 HC' HO' HCs t0
                  obtain ⟨s0, s1, s2, s3, s4, s5⟩ := sth_cells HSx.out
                  obtain ⟨i0, i1, i2, i3, i4, i5⟩ := sth_cells HIx.out
                  go_wp2_with fail
                  refine (same_lH m x (.slice al 0 cl) _ HVx.out).mono ?_
                  rintro e w20 ⟨rfl, hb20⟩
                  have HT20 : Hid (Blk w20 zt (stH m x' nilS) 28) := HTx.out.later hb20
                  have HS20 : Hid (Blk w20 z (stH m x nilS) 28) := HSx.out.later hb20
                  have HB20 : Hid (Below w.heap.size w w20) := below_next HBx.out hb20
                  obtain ⟨t0, t1, t2, t3, t4, t5⟩ := sth_cells HT20.out
                  clear HSx HIx HTx HVx HBx hb20 s0 s1 s2 s3 s4 s5 i0 i1 i2 i3 i4 i5
                  go_wp2_with ((with_reducible refine wp_storeB 28 (.tmp 5) (.tmp 85) z 0 (stH m x' nilS) (stH m x nilS) 28 ?_ ?_ (stH_one _ _ rfl) ?_ ?_ ?_ HS20.out ?_); (exact infoSt); (exact (show 0 + 6 ≤ 6 by decide)); (exact ⟨rfl, rfl⟩); (exact rfl); (exact rfl); (intro w21 D1 o21); (replace D1 : Blk w21 z (stH m x' nilS) 28 := D1); (have HS21 : Hid (Blk w21 z (stH m x' nilS) 28) := D1); (have HB21 : Hid (Below w.heap.size w w21) := below_oth HB20.out o21 HZ.out HZ.out HB20.out.size); (clear D1 o21))
                  go_roundw
                  case rel => exact ⟨k + 1, x', by omega, by go_num, HKx'.out, HS21.out, HB21.out⟩
                  case measure => simp [intOf]; omega
        · have e : k = n := by omega
          subst e
          go_wp2
          go_ret
          exact ⟨rfl, HB.out⟩
    · clear HS4 HF
      go_wp2
      go_ret
      exact ⟨rfl, HB4.out⟩
end Go.Proofs.YtpboleifllcehaaDoor
