/- The walk of HoldOne, on what is asked of New and Step. Conditions: the table of signs lies in memory; sizes. -/
import Derived.Deep.Cut
import Derived.Test.YtpboleifllcehaaDoorJN
namespace Go.Proofs.YtpboleifllcehaaDoor
open Go.RowKit Go.PlainAid Ln Go.Sort
set_option linter.unusedVariables false
set_option linter.unusedSimpArgs false

theorem encV_one' (x : Val) : ∀ v ∈ encV x, v.oneCell' = true := vls_one x.1 x.2.1 x.2.2
/-- how the walk stands: the state, who holds it by what came out -/
structure Hz (w wr : World) (z p : Nat) (x : VN) : Prop where
  k : x.2 = 0
  st : Blk wr z (stH 7 x nilS) 28
  ho : Blk wr p (encV x.1) 25
  b : Below w.heap.size w wr
theorem Hz.later {w wr wn : World} {z p : Nat} {x : VN} (h : Hz w wr z p x) (hb : Below wr.heap.size wr wn) : Hz w wn z p x := ⟨h.k, h.st.later hb, h.ho.later hb, below_next h.b hb⟩
/-- what comes out of a lock, and who holds it then -/
theorem lock_cases {x : VN} {d : Dd} (h : mayD 7 d = true) :
    (d.o = 11 ∧ x.1 = noV ∧ outHx x d = [yesV true] ∧ (nxH 7 x d) = (d.c, x.2)) ∨ (d.o = 12 ∧ x.1 = d.c ∧ outHx x d = [yesV true] ∧ nxH 7 x d = (noV, x.2)) ∨ ((d.o = 11 ∨ d.o = 12) ∧ outHx x d = [yesV false] ∧ nxH 7 x d = x) := by
  have ho : d.o = 11 ∨ d.o = 12 := by
    rcases may_casesH (by kernel_rfl) h with ⟨_, k, _⟩ | ⟨k, _⟩ | ⟨k, _⟩
    · exact k
    · exact absurd k (by decide)
    · exact absurd k (by decide)
  obtain ⟨xv, xn⟩ := x
  rcases ho with ho | ho
  · by_cases e : xv = noV
    · refine .inl ⟨ho, e, ?_, ?_⟩
      · unfold outHx outH
        rw [if_neg (by omega), if_pos ho, decide_eq_true (show (xv, xn).1 = noV from e)]
      · rw [nxH_7]; unfold nxW; rw [if_pos ⟨ho, e⟩]
    · refine .inr (.inr ⟨.inl ho, ?_, ?_⟩)
      · unfold outHx outH
        rw [if_neg (by omega), if_pos ho, decide_eq_false (show ¬ (xv, xn).1 = noV from e)]
      · rw [nxH_7]; unfold nxW; rw [if_neg (fun k => e k.2), if_neg (by omega)]
  · by_cases e : xv = d.c
    · refine .inr (.inl ⟨ho, e, ?_, ?_⟩)
      · unfold outHx outH
        rw [if_neg (by omega), if_neg (by omega), if_pos ho, decide_eq_true (show (xv, xn).1 = d.c from e)]
      · rw [nxH_7]; unfold nxW; rw [if_neg (by omega), if_pos ⟨ho, e⟩]
    · refine .inr (.inr ⟨.inr ho, ?_, ?_⟩)
      · unfold outHx outH
        rw [if_neg (by omega), if_neg (by omega), if_pos ho, decide_eq_false (show ¬ (xv, xn).1 = d.c from e)]
      · rw [nxH_7]; unfold nxW; rw [if_neg (by omega), if_neg (fun k => e k.2)]
set_option maxRecDepth 100000 in
set_option maxHeartbeats 16000000 in
theorem law_oneH (K : HoldOK) (v : Value) (ys : List YD) (w : World) (ht : Tb w) (hv : DSl w v ys) (hi : InD w ys) : Calls Tryd.prog 5 #[v] w fun e w' => e = .returned (.bool true) ∧ Below w.heap.size w w' := by
  have HT : Hid (Tb w) := ht
  have HV0 : Hid (DSl w v ys) := hv
  have HI : Hid (InD w ys) := hi
  have HW : Hid (∀ w', Below w.heap.size w w' → Calls Tryd.prog 7 #[] w' fun e w'' => e = .returned (.bool true) ∧ Below w'.heap.size w' w'') := fun w' hb => wakes_anyH K w' (ht.later hb)
  have HK : Hid HoldOK := K
  have hN := fun w => K.new 7 w
  rw [show ownH 7 = true by kernel_rfl, if_pos rfl] at hN
  have HG : Hid (∀ w', Below w.heap.size w w' → Calls Tryd.prog 10 #[v] w' fun e w'' => RGreatD w' ys e w'') := fun w' hb => lgreat_any v ys w' (hv.later hb) (hi.later hb)
  clear ht hv hi K
  simp only [stH, stN, stC, noH, noV] at hN
  obtain ⟨a, c, rfl, hc1, hc2, _⟩ := HV0.out.form
  obtain ⟨n, hn⟩ : ∃ n, ys.length = n := ⟨_, rfl⟩
  have HN : Hid (ys.length = n) := hn
  rw [hn] at hc1 HV0 HG ⊢
  clear hn
  go_enter Tryd.func5, Tryd.ntmps5
  go_wp2_with (go_at_call 7; refine (HW.out _ (Below.refl _ _)).mono ?_; rintro e w1 ⟨rfl, hb1⟩)
  refine (HG.out w1 hb1).mono ?_
  rintro e w2 ⟨b, rfl, hfew, hb2⟩
  have HB2 : Hid (Below w.heap.size w w2) := below_next hb1 hb2
  have HF : Hid (b = false → FewDs ys) := hfew
  clear hfew hb1 hb2 HG HW
  cases b
  · have HFe : Hid (FewDs ys) := HF.out rfl
    clear HF
    go_wp2_with (go_at_call 8; refine (hN _).mono ?_; rintro e w3 ⟨rfl, hb3⟩)
    have T := two_laid w3 (stH 7 noH nilS) (encV noV) 28 25
    have HP0 : Hid (Hz w ((w3.alloc (.cells #[.int .i64 7, .int .i64 0, .int .i64 0, .string noB, .int .i64 0, .slice none 0 0] 28)).alloc (.cells #[.int .i64 0, .int .i64 0, .string ⟨#[]⟩] 25)) w3.heap.size (w3.heap.size + 1) noH) := ⟨rfl, T.1, T.2.1, below_next (below_next HB2.out hb3) T.2.2⟩
    have hzw : w.heap.size ≤ w3.heap.size := (below_next HB2.out hb3).size
    have HQ0 : Hid (w.heap.size ≤ w3.heap.size ∧ w.heap.size ≤ w3.heap.size + 1 ∧ w3.heap.size ≠ w3.heap.size + 1) := ⟨hzw, by omega, by omega⟩
    clear T hzw HB2 hb3
    generalize (w3.alloc (.cells #[.int .i64 7, .int .i64 0, .int .i64 0, .string noB, .int .i64 0, .slice none 0 0] 28)).alloc (.cells #[.int .i64 0, .int .i64 0, .string ⟨#[]⟩] 25) = w4 at HP0 ⊢
    obtain ⟨z, hz⟩ : ∃ z, w3.heap.size = z := ⟨_, rfl⟩
    rw [hz] at HP0 HQ0
    simp only [hz]
    obtain ⟨p, hp⟩ : ∃ p, z + 1 = p := ⟨_, rfl⟩
    rw [hp] at HP0 HQ0
    simp only [hp]
    clear hz hp hN
    go_loopw [23] (fun i wr => ∃ (k : Nat) (x : VN), k ≤ n ∧ i = .int .i64 (k : Int) ∧ Hz w wr z p x) (fun i w' => n - (intOf i).toNat)
    case atStart => exact ⟨0, noH, by omega, rfl, HP0.out⟩
    case round =>
      obtain ⟨k, ⟨xv, xn⟩, hk, rfl, hpl⟩ := hrel
      have HP : Hid (Hz w wr z p (xv, xn)) := hpl
      clear hpl HP0
      by_cases hlt : k < n
      · have hlt' : (k : Int) < (n : Int) := by omega
        have hkm : (k : Int) + 1 ≤ 9223372036854775807 := by have := HFe.out.1; have := HN.out; omega
        obtain ⟨b, o, rfl, hbl, hat⟩ := HV0.out.near (by rw [HN.out]; omega)
        obtain ⟨c0, c1, c2, c3, c4⟩ := dd_at (hat k (by rw [HN.out]; exact hlt))
        have hva := HI.out k (by rw [HN.out]; exact hlt)
        have hfew := HFe.out.2 k (by rw [HN.out]; exact hlt)
        have hb := HP.out.b
        have d0 := (hb.cell (p := ⟨b, o + k * 5, none⟩) hbl).trans c0
        have d1 := (hb.cell (p := ⟨b, o + k * 5 + 1, none⟩) hbl).trans c1
        have d2 := (hb.cell (p := ⟨b, o + k * 5 + 2, none⟩) hbl).trans c2
        have d3 := (hb.cell (p := ⟨b, o + k * 5 + 3, none⟩) hbl).trans c3
        have d4 := (hb.cell (p := ⟨b, o + k * 5 + 4, none⟩) hbl).trans c4
        clear c0 c1 c2 c3 c4 hat hbl hb HFe HI HV0 HN
        obtain ⟨⟨⟨⟨y1, y2, y3⟩, yo, ya⟩, vy⟩, hy⟩ : ∃ y, yd ys k = y := ⟨_, rfl⟩
        rw [hy] at d0 d1 d2 d3 d4 hva hfew
        dsimp only at d0 d1 d2 d3 d4 hva
        clear hy
        obtain ⟨av, cv, rfl, hcv1, hcv2, _⟩ := hva.form
        have HVA : Hid (VSl w (.slice av ya.length cv) ya) := hva
        obtain ⟨hsz, hsc⟩ := few_sz hfew
        have HSz : Hid (SzV ya) := hsz
        have HSc : Hid (y3.size ≤ 4611686018427387904) := hsc
        clear hva hfew hsz hsc
        obtain ⟨na, hna⟩ : ∃ na, ya.length = na := ⟨_, rfl⟩
        rw [hna] at HVA hcv1 d4
        clear hna
        obtain ⟨s0, s1, s2, s3, s4, s5⟩ := sth_cells HP.out.st
        have hzl : z < wr.heap.size := HP.out.st.lt
        have hpl : p < wr.heap.size := HP.out.ho.lt
        have HD : Hid (Blk (wr.alloc (.cells #[.int .i64 y1, .int .i64 y2, .string y3, .int .i64 yo, .slice av na cv] 36)) wr.heap.size (ddC ⟨(y1, y2, y3), yo, ya⟩ (.slice av na cv)) 36) := Blk.new wr (ddC ⟨(y1, y2, y3), yo, ya⟩ (.slice av na cv)) _
        have HPn : Hid (Hz w (wr.alloc (.cells #[.int .i64 y1, .int .i64 y2, .string y3, .int .i64 yo, .slice av na cv] 36)) z p (xv, xn)) := HP.out.later (below_box _ _)
        clear HP
        go_wp2_with fail
        generalize (wr.alloc (.cells #[.int .i64 y1, .int .i64 y2, .string y3, .int .i64 yo, .slice av na cv] 36)) = w5 at HD HPn ⊢
        obtain ⟨q, hq⟩ : ∃ q, wr.heap.size = q := ⟨_, rfl⟩
        rw [hq] at HD hzl hpl
        simp only [hq]
        have hql : q < w5.heap.size := HD.out.lt
        clear hq d0 d1 d2 d3 d4 s0 s1 s2 s3 s4 s5
        have ht5 := HT.out.later HPn.out.b
        have hv5 := HVA.out.later HPn.out.b
        cases hmd : mayD 7 ⟨(y1, y2, y3), yo, ya⟩
        · refine (HK.out.no 7 (xv, xn) (y1, y2, y3) nilS yo _ ya w5 ht5 hv5 HSz.out HSc.out (by rw [hmd, Bool.and_false])).mono ?_
          rintro e w6 ⟨rfl, hb6⟩
          have HP7 : Hid (Hz w (w6.alloc (.cells (stC 0 noV nilS).toArray 28)) z p (xv, xn)) := (HPn.out.later hb6).later (below_box _ _)
          simp only [stH, stN, stC, noH, noV] at HP7 ⊢
          clear hmd ht5 hv5 hb6 HPn HD hql
          go_wp2_with fail
          go_roundw
          case rel => exact ⟨k + 1, (xv, xn), by omega, by go_num, HP7.out⟩
          case measure => simp [intOf]; omega
        · refine (HK.out.yes 7 (xv, xn) (y1, y2, y3) yo _ ya w5 ht5 hv5 HSz.out HSc.out (by kernel_rfl) hmd (okX_70 HPn.out.k)).mono ?_
          rintro e w6 ⟨vo, rfl, ho6, hb6⟩
          rcases lock_cases (x := (xv, xn)) hmd with ⟨ho, hxv, hou, hnx⟩ | ⟨ho, hxv, hou, hnx⟩ | ⟨ho, hou, hnx⟩
          · have ho : yo = 11 := ho
            have hxv : xv = (0, 0, noB) := hxv
            subst ho
            have hq := fun w => neV xv.1 xv.2.1 0 0 xv.2.2 ⟨#[]⟩ w
            rw [show eqvB xv.1 xv.2.1 xv.2.2 0 0 ⟨#[]⟩ = true from (eqvB_iff _ _ _ _ _ _).2 hxv, Bool.not_true] at hq
            clear hxv
            obtain ⟨x', hx'⟩ : ∃ x', nxH 7 (xv, xn) ⟨(y1, y2, y3), 11, ya⟩ = x' := ⟨_, rfl⟩
            rw [hx'] at hnx ⊢
            have HX' : Hid (x' = ((y1, y2, y3), xn)) := hnx
            clear hx' hnx
            rw [hou] at ho6
            obtain ⟨gb, go, gc, hvo, hgl, _, hat⟩ := vsl_first ho6.vsl (by simp)
            have hvo : vo = .slice (some ⟨gb, go, none⟩) 1 gc := hvo
            subst hvo
            have hat0 := hat 0 (by simp)
            rw [Nat.zero_mul, Nat.add_zero] at hat0
            have HA7 : Hid (At (w6.alloc (.cells (stH 7 x' nilS).toArray 28)) gb go (3, 1, noB)) := At.later hat0 hgl (below_box _ _)
            have HP6 : Hid (Hz w w6 z p (xv, xn)) := HPn.out.later hb6
            have HT7 : Hid (Blk (w6.alloc (.cells (stH 7 x' nilS).toArray 28)) w6.heap.size (stH 7 x' nilS) 28) := Blk.new w6 _ _
            have HP7 : Hid (Hz w (w6.alloc (.cells (stH 7 x' nilS).toArray 28)) z p (xv, xn)) := HP6.out.later (below_box _ _)
            have HD7 : Hid (Blk (w6.alloc (.cells (stH 7 x' nilS).toArray 28)) q (ddC ⟨(y1, y2, y3), 11, ya⟩ (.slice av na cv)) 36) := (HD.out.later hb6).later (below_box _ _)
            have HQ7 : Hid (z ≠ w6.heap.size ∧ p ≠ w6.heap.size) := ⟨Nat.ne_of_lt HP6.out.st.lt, Nat.ne_of_lt HP6.out.ho.lt⟩
            have hg := eqgV
            simp only [stH, stN]
            clear hmd ht5 hv5 hb6 HPn HD hql ho6 hat hat0 hou HP6
            go_upto_region 11 with fail
            change Code.wp _ _ _ _ (w6.alloc (.cells (stH 7 x' nilS).toArray 28))
            obtain ⟨z7, hz7⟩ : ∃ z7, w6.heap.size = z7 := ⟨_, rfl⟩
            generalize w6.alloc (.cells (stH 7 x' nilS).toArray 28) = w7 at HA7 HT7 HP7 HD7 ⊢
            rw [hz7] at HT7 HQ7
            simp only [hz7]
            obtain ⟨_, a1, _⟩ := HA7.out
            obtain ⟨p0, p1, p2, p3, p4⟩ := dd_cells HD7.out
            obtain ⟨h0, h1, h2⟩ := v_cells HP7.out.ho
            dsimp only at a1 p0 p1 p2 p3
            clear hz7
            go_wp2_with (first
              | ((with_reducible refine wp_storeB 25 (.tmp 5) (.tmp 62) p 0 (encV (y1, y2, y3)) (encV xv) 25 ?_ ?_ (encV_one' _) ?_ ?_ ?_ HP7.out.ho ?_); (exact infoVv); (exact (show 0 + 3 ≤ 3 by decide)); (exact ⟨rfl, rfl⟩); (exact rfl); (exact rfl); (intro w8 D1 o8); (replace D1 : Blk w8 p (encV (y1, y2, y3)) 25 := D1); (have HH8 : Hid (Blk w8 p (encV (y1, y2, y3)) 25) := D1); (have HT8 : Hid (Blk w8 z7 (stH 7 x' nilS) 28) := HT7.out.oth o8 (Ne.symm HQ7.out.2) (Ne.symm HQ7.out.2)); (have HS8 : Hid (Blk w8 z (stH 7 (xv, xn) nilS) 28) := HP7.out.st.oth o8 HQ0.out.2.2 HQ0.out.2.2); (have HB8 : Hid (Below w.heap.size w w8) := below_oth HP7.out.b o8 HQ0.out.2.1 HQ0.out.2.1 HP7.out.b.size); (obtain ⟨t0, t1, t2, t3, t4, t5⟩ := sth_cells HT8.out); (clear D1 o8))
              | ((with_reducible refine wp_storeB 28 (.tmp 3) (.tmp 75) z 0 (stH 7 x' nilS) (stH 7 (xv, xn) nilS) 28 ?_ ?_ (stH_one _ _ rfl) ?_ ?_ ?_ HS8.out ?_); (exact infoSt); (exact (show 0 + 6 ≤ 6 by decide)); (exact ⟨rfl, rfl⟩); (exact rfl); (exact rfl); (intro w9 D2 o9); (replace D2 : Blk w9 z (stH 7 x' nilS) 28 := D2); (have HP9 : Hid (Hz w w9 z p x') := ⟨(by rw [HX'.out]; exact HP7.out.k), D2, (by rw [HX'.out]; exact HH8.out.oth o9 (Ne.symm HQ0.out.2.2) (Ne.symm HQ0.out.2.2)), below_oth HB8.out o9 HQ0.out.1 HQ0.out.1 HB8.out.size⟩); (clear D2 o9)))
            go_roundw
            case rel => exact ⟨k + 1, x', by omega, by go_num, HP9.out⟩
            case measure => simp [intOf]; omega
          · have ho : yo = 12 := ho
            have hxv : xv = (y1, y2, y3) := hxv
            subst ho
            have hq := fun w => neV xv.1 xv.2.1 y1 y2 xv.2.2 y3 w
            rw [show eqvB xv.1 xv.2.1 xv.2.2 y1 y2 y3 = true from (eqvB_iff _ _ _ _ _ _).2 hxv, Bool.not_true] at hq
            clear hxv
            obtain ⟨x', hx'⟩ : ∃ x', nxH 7 (xv, xn) ⟨(y1, y2, y3), 12, ya⟩ = x' := ⟨_, rfl⟩
            rw [hx'] at hnx ⊢
            have HX' : Hid (x' = (noV, xn)) := hnx
            clear hx' hnx
            rw [hou] at ho6
            obtain ⟨gb, go, gc, hvo, hgl, _, hat⟩ := vsl_first ho6.vsl (by simp)
            have hvo : vo = .slice (some ⟨gb, go, none⟩) 1 gc := hvo
            subst hvo
            have hat0 := hat 0 (by simp)
            rw [Nat.zero_mul, Nat.add_zero] at hat0
            have HA7 : Hid (At (w6.alloc (.cells (stH 7 x' nilS).toArray 28)) gb go (3, 1, noB)) := At.later hat0 hgl (below_box _ _)
            have HP6 : Hid (Hz w w6 z p (xv, xn)) := HPn.out.later hb6
            have HT7 : Hid (Blk (w6.alloc (.cells (stH 7 x' nilS).toArray 28)) w6.heap.size (stH 7 x' nilS) 28) := Blk.new w6 _ _
            have HP7 : Hid (Hz w (w6.alloc (.cells (stH 7 x' nilS).toArray 28)) z p (xv, xn)) := HP6.out.later (below_box _ _)
            have HD7 : Hid (Blk (w6.alloc (.cells (stH 7 x' nilS).toArray 28)) q (ddC ⟨(y1, y2, y3), 12, ya⟩ (.slice av na cv)) 36) := (HD.out.later hb6).later (below_box _ _)
            have HQ7 : Hid (z ≠ w6.heap.size ∧ p ≠ w6.heap.size) := ⟨Nat.ne_of_lt HP6.out.st.lt, Nat.ne_of_lt HP6.out.ho.lt⟩
            have hg := eqgV
            simp only [stH, stN]
            clear hmd ht5 hv5 hb6 HPn HD hql ho6 hat hat0 hou HP6
            go_upto_region 11 with fail
            change Code.wp _ _ _ _ (w6.alloc (.cells (stH 7 x' nilS).toArray 28))
            obtain ⟨z7, hz7⟩ : ∃ z7, w6.heap.size = z7 := ⟨_, rfl⟩
            generalize w6.alloc (.cells (stH 7 x' nilS).toArray 28) = w7 at HA7 HT7 HP7 HD7 ⊢
            rw [hz7] at HT7 HQ7
            simp only [hz7]
            obtain ⟨_, a1, _⟩ := HA7.out
            obtain ⟨p0, p1, p2, p3, p4⟩ := dd_cells HD7.out
            obtain ⟨h0, h1, h2⟩ := v_cells HP7.out.ho
            dsimp only at a1 p0 p1 p2 p3
            clear hz7
            go_wp2_with (first
              | ((with_reducible refine wp_storeB 25 (.tmp 5) (.tmp 74) p 0 (encV noV) (encV xv) 25 ?_ ?_ (encV_one' _) ?_ ?_ ?_ HP7.out.ho ?_); (exact infoVv); (exact (show 0 + 3 ≤ 3 by decide)); (exact ⟨rfl, rfl⟩); (exact rfl); (exact rfl); (intro w8 D1 o8); (replace D1 : Blk w8 p (encV noV) 25 := D1); (have HH8 : Hid (Blk w8 p (encV noV) 25) := D1); (have HT8 : Hid (Blk w8 z7 (stH 7 x' nilS) 28) := HT7.out.oth o8 (Ne.symm HQ7.out.2) (Ne.symm HQ7.out.2)); (have HS8 : Hid (Blk w8 z (stH 7 (xv, xn) nilS) 28) := HP7.out.st.oth o8 HQ0.out.2.2 HQ0.out.2.2); (have HB8 : Hid (Below w.heap.size w w8) := below_oth HP7.out.b o8 HQ0.out.2.1 HQ0.out.2.1 HP7.out.b.size); (obtain ⟨t0, t1, t2, t3, t4, t5⟩ := sth_cells HT8.out); (clear D1 o8))
              | ((with_reducible refine wp_storeB 28 (.tmp 3) (.tmp 75) z 0 (stH 7 x' nilS) (stH 7 (xv, xn) nilS) 28 ?_ ?_ (stH_one _ _ rfl) ?_ ?_ ?_ HS8.out ?_); (exact infoSt); (exact (show 0 + 6 ≤ 6 by decide)); (exact ⟨rfl, rfl⟩); (exact rfl); (exact rfl); (intro w9 D2 o9); (replace D2 : Blk w9 z (stH 7 x' nilS) 28 := D2); (have HP9 : Hid (Hz w w9 z p x') := ⟨(by rw [HX'.out]; exact HP7.out.k), D2, (by rw [HX'.out]; exact HH8.out.oth o9 (Ne.symm HQ0.out.2.2) (Ne.symm HQ0.out.2.2)), below_oth HB8.out o9 HQ0.out.1 HQ0.out.1 HB8.out.size⟩); (clear D2 o9)))
            go_roundw
            case rel => exact ⟨k + 1, x', by omega, by go_num, HP9.out⟩
            case measure => simp [intOf]; omega
          · have ho : yo = 11 ∨ yo = 12 := ho
            clear ho
            obtain ⟨x', hx'⟩ : ∃ x', nxH 7 (xv, xn) ⟨(y1, y2, y3), yo, ya⟩ = x' := ⟨_, rfl⟩
            rw [hx'] at hnx ⊢
            have HX' : Hid (x' = (xv, xn)) := hnx
            clear hx' hnx
            rw [hou] at ho6
            obtain ⟨gb, go, gc, hvo, hgl, _, hat⟩ := vsl_first ho6.vsl (by simp)
            have hvo : vo = .slice (some ⟨gb, go, none⟩) 1 gc := hvo
            subst hvo
            have hat0 := hat 0 (by simp)
            rw [Nat.zero_mul, Nat.add_zero] at hat0
            have HA7 : Hid (At (w6.alloc (.cells (stH 7 x' nilS).toArray 28)) gb go (3, 0, noB)) := At.later hat0 hgl (below_box _ _)
            have HP6 : Hid (Hz w w6 z p (xv, xn)) := HPn.out.later hb6
            have HT7 : Hid (Blk (w6.alloc (.cells (stH 7 x' nilS).toArray 28)) w6.heap.size (stH 7 x' nilS) 28) := Blk.new w6 _ _
            have HP7 : Hid (Hz w (w6.alloc (.cells (stH 7 x' nilS).toArray 28)) z p (xv, xn)) := HP6.out.later (below_box _ _)
            have HD7 : Hid (Blk (w6.alloc (.cells (stH 7 x' nilS).toArray 28)) q (ddC ⟨(y1, y2, y3), yo, ya⟩ (.slice av na cv)) 36) := (HD.out.later hb6).later (below_box _ _)
            have HQ7 : Hid (z ≠ w6.heap.size ∧ p ≠ w6.heap.size) := ⟨Nat.ne_of_lt HP6.out.st.lt, Nat.ne_of_lt HP6.out.ho.lt⟩
            have hg := eqgV
            simp only [stH, stN]
            clear hmd ht5 hv5 hb6 HPn HD hql ho6 hat hat0 hou HP6
            go_upto_region 11 with fail
            change Code.wp _ _ _ _ (w6.alloc (.cells (stH 7 x' nilS).toArray 28))
            obtain ⟨z7, hz7⟩ : ∃ z7, w6.heap.size = z7 := ⟨_, rfl⟩
            generalize w6.alloc (.cells (stH 7 x' nilS).toArray 28) = w7 at HA7 HT7 HP7 HD7 ⊢
            rw [hz7] at HT7 HQ7
            simp only [hz7]
            obtain ⟨_, a1, _⟩ := HA7.out
            obtain ⟨p0, p1, p2, p3, p4⟩ := dd_cells HD7.out
            obtain ⟨h0, h1, h2⟩ := v_cells HP7.out.ho
            dsimp only at a1 p0 p1 p2 p3
            clear hz7
            obtain ⟨t0, t1, t2, t3, t4, t5⟩ := sth_cells HT7.out
            go_wp2_with (first
              | ((with_reducible refine wp_storeB 28 (.tmp 3) (.tmp 75) z 0 (stH 7 x' nilS) (stH 7 (xv, xn) nilS) 28 ?_ ?_ (stH_one _ _ rfl) ?_ ?_ ?_ HP7.out.st ?_); (exact infoSt); (exact (show 0 + 6 ≤ 6 by decide)); (exact ⟨rfl, rfl⟩); (exact rfl); (exact rfl); (intro w9 D2 o9); (replace D2 : Blk w9 z (stH 7 x' nilS) 28 := D2); (have HP9 : Hid (Hz w w9 z p x') := ⟨(by rw [HX'.out]; exact HP7.out.k), D2, (by rw [HX'.out]; exact HP7.out.ho.oth o9 (Ne.symm HQ0.out.2.2) (Ne.symm HQ0.out.2.2)), below_oth HP7.out.b o9 HQ0.out.1 HQ0.out.1 HP7.out.b.size⟩); (clear D2 o9)))
            go_roundw
            case rel => exact ⟨k + 1, x', by omega, by go_num, HP9.out⟩
            case measure => simp [intOf]; omega
      · have e : k = n := by omega
        subst e
        obtain ⟨s0, s1, s2, s3, s4, s5⟩ := sth_cells HP.out.st
        obtain ⟨h0, h1, h2⟩ := v_cells HP.out.ho
        have hq := fun w => eqV xv.1 xv.2.1 xv.1 xv.2.1 xv.2.2 xv.2.2 w
        rw [(eqvB_iff _ _ _ _ _ _).2 rfl] at hq
        have hg := eqgV
        go_wp2
        go_ret
        exact ⟨rfl, HP.out.b⟩
  · go_wp2
    go_ret
    exact ⟨rfl, HB2.out⟩
end Go.Proofs.YtpboleifllcehaaDoor
