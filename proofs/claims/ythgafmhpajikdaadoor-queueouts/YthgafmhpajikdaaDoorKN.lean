/- The walk of QueueOuts, on what is asked of New and Step. Conditions: the table of signs lies in memory; sizes. -/
import Derived.Test.YthgafmhpajikdaaDoorKI
import Derived.Test.YthgafmhpajikdaaDoorUK
namespace Go.Proofs.YthgafmhpajikdaaDoor
open Go.RowKit Go.PlainAid Ln Go.Sort
set_option linter.unusedVariables false
set_option linter.unusedSimpArgs false

/-- nothing but names, their texts short -/
def KeptL (l : List Val) : Prop := ∀ x ∈ l, KeptV x
theorem kept_nil : KeptL [] := fun x hx => by cases hx
theorem kept_nxQ {m : Int} {L : List Val} {d : Dd} (hm : ownQ m = true) (h : mayD m d = true) (hx : KeptL L) (hf : FewD d) : KeptL (nxQ m L d) := by
  obtain ⟨hk, hn⟩ := may_casesQ hm h
  rcases hk with ⟨h9, hl⟩ | ⟨h10, _⟩
  · rw [nxQ_9 h9]
    intro x hx'
    rcases List.mem_append.1 hx' with h | h
    · exact hx x h
    · rw [List.mem_singleton] at h
      subst h
      exact ⟨.inr (hn h9), hf.2.2 0 (by omega)⟩
  · rw [nxQ_10 h10]
    unfold popQ
    split
    · exact fun x h => hx x (List.mem_of_mem_take h)
    · exact fun x h => hx x (List.mem_of_mem_drop h)
theorem top_kept {m : Int} {L : List Val} (hx : KeptL L) : KeptV (topQ m L) := by
  unfold topQ
  split
  · exact kept_noV
  · rename_i hne
    have hp : 0 < L.length := List.length_pos_iff.2 hne
    split
    · unfold lastV; rw [nv_eq L _ (by omega)]; exact hx _ (List.getElem_mem _)
    · rw [nv_eq L 0 hp]; exact hx _ (List.getElem_mem _)
/-- what these models' signs say of what comes out -/
def outRwQ (r : Rw) : Bool := decide (ownQ r.m = true → (r.o = 10 → r.out.length = 1 ∧ r.c = 1 ∧ 0 ≤ nth r.out 0 ∧ nth r.out 0 ≤ 4) ∧ (r.o = 9 → r.out.length = 0 ∧ r.c = 0))
theorem outRwQ_all (m o : Int) : outRwQ (fr m o) = true := fr_all (p := outRwQ) (by kernel_rfl) m o
theorem out_lets {r : Rw} {x : Val} (q1 : r.out.length = 1) (q2 : r.c = 1) (q3 : 0 ≤ nth r.out 0 ∧ nth r.out 0 ≤ 4) (hx : KeptV x) : outsOK r [x] = true := by
  refine outs_one q1 (by omega) ?_
  unfold letsB
  rw [q2, takesB_n q3]
  rcases hx.1 with e | e
  · rw [e]; kernel_rfl
  · rw [show nameB x.1 x.2.1 x.2.2 = true from e, Bool.true_or]
theorem outs_fitQ {m : Int} {L : List Val} {d : Dd} (hm : ownQ m = true) (h : mayD m d = true) (hx : KeptL L) : (fi m d.o && outsOK (fr m d.o) (outQ m L d)) = true := by
  have hc := (may_casesQ hm h).1
  unfold mayD at h
  simp only [Bool.and_eq_true] at h
  obtain ⟨_, hf, hl⟩ := h
  obtain ⟨e1, e2⟩ := fr_m hf
  have k := of_decide_eq_true (outRwQ_all m d.o : decide _ = true)
  rw [e1, e2] at k
  obtain ⟨k10, k9⟩ := k hm
  rw [hf, Bool.true_and]
  rcases hc with ⟨h9, _⟩ | ⟨h10, _⟩
  · rw [outQ_9 h9]
    obtain ⟨q1, q2⟩ := k9 h9
    unfold outsOK
    rw [Bool.and_eq_true]
    refine ⟨?_, decide_eq_true fun i hi => absurd hi (Nat.not_lt_zero i)⟩
    unfold manyB; rw [if_neg (by omega)]; exact decide_eq_true (by rw [q1]; rfl)
  · rw [outQ_10 h10]
    obtain ⟨q1, q2, q3⟩ := k10 h10
    exact out_lets q1 q2 q3 (top_kept hx)
theorem outQ_sz {m : Int} {L : List Val} {d : Dd} (hx : KeptL L) : SzV (outQ m L d) := by
  unfold outQ
  split
  · exact sz1 _ (Nat.le_trans (top_kept hx).2 (by decide))
  · exact sz0
theorem own_below {w : World} {B g : Nat} {v : Value} {xs : List Val} (h : HeldV w B v xs) (hg : w.heap.size ≤ g) : v.ownBlock ≠ some g := fun e => by have := (h.lt g e).2; omega
/-- how the walk stands: the state's list is L -/
def Ob (m : Int) (w wr : World) (z : Nat) (L : List Val) : Prop := ∃ vl, Blk wr z (stC m noV vl) 28 ∧ HeldV wr w.heap.size vl L
set_option maxRecDepth 100000 in
set_option maxHeartbeats 16000000 in
theorem law_outsQ (K : QueueOK) (m : Int) (v : Value) (ys : List YD) (w : World) (ht : Tb w) (hv : DSl w v ys) (hi : InD w ys) : Calls Tryd.prog 4 #[.int .i64 m, v] w fun e w' => e = .returned (.bool true) ∧ Below w.heap.size w w' := by
  have HT : Hid (Tb w) := ht
  have HV0 : Hid (DSl w v ys) := hv
  have HI : Hid (InD w ys) := hi
  have HW : Hid (∀ w', Below w.heap.size w w' → Calls Tryd.prog 6 #[] w' fun e w'' => e = .returned (.bool true) ∧ Below w'.heap.size w' w'') := fun w' hb => wakes_anyQ K w' (ht.later hb)
  have HK : Hid QueueOK := K
  clear ht hv hi K
  cases hm : ownQ m
  · have hN := fun w => HK.out.new m w
    rw [hm] at hN
    rw [if_neg (by decide)] at hN
    simp only [stC, noV] at hN
    clear hm
    go_enter Tryd.func4, Tryd.ntmps4
    go_wp2_with (first
      | (go_at_call 6; refine (HW.out _ (Below.refl _ _)).mono ?_; rintro e w1 ⟨rfl, hb1⟩)
      | (go_at_call 7; refine (hN _).mono ?_; rintro e w2 ⟨rfl, hb2⟩))
    go_ret
    exact ⟨rfl, below_more (below_next hb1 hb2) _⟩
  · have HM : Hid (ownQ m = true) := hm
    have hN := fun w => HK.out.new m w
    rw [hm] at hN
    rw [if_pos rfl] at hN
    have HG : Hid (∀ w', Below w.heap.size w w' → Calls Tryd.prog 9 #[v] w' fun e w'' => RGreatD w' ys e w'') := fun w' hb => lgreat_any v ys w' (HV0.out.later hb) (HI.out.later hb)
    clear hm
    simp only [stC, noV] at hN
    obtain ⟨a, c, rfl, hc1, hc2, _⟩ := HV0.out.form
    obtain ⟨n, hn⟩ : ∃ n, ys.length = n := ⟨_, rfl⟩
    have HN : Hid (ys.length = n) := hn
    rw [hn] at hc1 HV0 HG ⊢
    clear hn
    go_enter Tryd.func4, Tryd.ntmps4
    go_wp2_with (first
      | (go_at_call 6; refine (HW.out _ (Below.refl _ _)).mono ?_; rintro e w1 ⟨rfl, hb1⟩)
      | (go_at_call 7; refine (hN _).mono ?_; rintro e w2 ⟨rfl, hb2⟩))
    have S3 : Blk (w2.alloc (.cells #[.int .i64 m, .int .i64 0, .int .i64 0, .string noB, .int .i64 0, .slice none 0 0] 28)) w2.heap.size (stC m noV nilS) 28 := Blk.new w2 _ _
    have HB3 : Below w.heap.size w (w2.alloc (.cells #[.int .i64 m, .int .i64 0, .int .i64 0, .string noB, .int .i64 0, .slice none 0 0] 28)) := below_more (below_next hb1 hb2) _
    have hzw : w.heap.size ≤ w2.heap.size := (below_next hb1 hb2).size
    generalize w2.alloc (.cells #[.int .i64 m, .int .i64 0, .int .i64 0, .string noB, .int .i64 0, .slice none 0 0] 28) = w3 at S3 HB3 ⊢
    obtain ⟨z, hz⟩ : ∃ z, w2.heap.size = z := ⟨_, rfl⟩
    rw [hz] at S3 hzw
    simp only [hz]
    clear hb1 hb2 hz hN HW
    refine (HG.out w3 HB3).mono ?_
    rintro e w4 ⟨b, rfl, hfew, hb4⟩
    have HS4 : Hid (Blk w4 z (stC m noV nilS) 28) := S3.later hb4
    have HB4 : Hid (Below w.heap.size w w4) := below_next HB3 hb4
    have HF : Hid (b = false → FewDs ys) := hfew
    have HZ : Hid (w.heap.size ≤ z) := hzw
    clear HG S3 HB3 hb4 hfew hzw
    cases b
    · have HFe : Hid (FewDs ys) := HF.out rfl
      clear HF
      go_wp2_with fail
      go_loopw [31] (fun i wr => ∃ (k : Nat) (L : List Val), k ≤ n ∧ i = .int .i64 (k : Int) ∧ L.length ≤ k ∧ KeptL L ∧ Ob m w wr z L ∧ Below w.heap.size w wr) (fun i w' => n - (intOf i).toNat)
      case atStart => exact ⟨0, [], by omega, rfl, Nat.le_refl _, kept_nil, ⟨nilS, HS4.out, HeldV.nil _ _⟩, HB4.out⟩
      case round =>
        obtain ⟨k, L, hk, rfl, hLk, hsrt, ⟨vl, hs, hvl⟩, hbw⟩ := hrel
        have HSrt : Hid (KeptL L) := hsrt
        have HS : Hid (Blk wr z (stC m noV vl) 28) := hs
        have HL1 : Hid (HeldV wr w.heap.size vl L) := hvl
        have HB : Hid (Below w.heap.size w wr) := hbw
        clear hs hbw HS4 HB4 hsrt hvl
        by_cases hlt : k < n
        · have hlt' : (k : Int) < (n : Int) := by omega
          have hkm : (k : Int) + 1 ≤ 9223372036854775807 := by have := HFe.out.1; have := HN.out; omega
          have HLn : Hid (L.length ≤ 40) := (by have := HFe.out.1; have := HN.out; omega : L.length ≤ 40)
          obtain ⟨b, o, rfl, hbl, hat⟩ := HV0.out.near (by rw [HN.out]; omega)
          obtain ⟨c0, c1, c2, c3, c4⟩ := dd_at (hat k (by rw [HN.out]; exact hlt))
          have hva := HI.out k (by rw [HN.out]; exact hlt)
          have hfew := HFe.out.2 k (by rw [HN.out]; exact hlt)
          have hb := HB.out
          have d0 := (hb.cell (p := ⟨b, o + k * 5, none⟩) hbl).trans c0
          have d1 := (hb.cell (p := ⟨b, o + k * 5 + 1, none⟩) hbl).trans c1
          have d2 := (hb.cell (p := ⟨b, o + k * 5 + 2, none⟩) hbl).trans c2
          have d3 := (hb.cell (p := ⟨b, o + k * 5 + 3, none⟩) hbl).trans c3
          have d4 := (hb.cell (p := ⟨b, o + k * 5 + 4, none⟩) hbl).trans c4
          clear c0 c1 c2 c3 c4 hat hbl hb HFe HI HV0 HN
          obtain ⟨⟨⟨⟨y1, y2, y3⟩, yo, ya⟩, vy⟩, hy⟩ : ∃ y, yd ys k = y := ⟨_, rfl⟩
          rw [hy] at d0 d1 d2 d3 d4 hva hfew
          dsimp only at d0 d1 d2 d3 d4 hva
          clear hy
          obtain ⟨av, cv, rfl, hcv1, hcv2, _⟩ := hva.form
          have HVA : Hid (VSl w (.slice av ya.length cv) ya) := hva
          obtain ⟨hsz, hsc⟩ := few_sz hfew
          have HFw : Hid (FewD ⟨(y1, y2, y3), yo, ya⟩) := hfew
          have HSz : Hid (SzV ya) := hsz
          have HSc : Hid (y3.size ≤ 4611686018427387904) := hsc
          clear hva hfew hsz hsc
          obtain ⟨na, hna⟩ : ∃ na, ya.length = na := ⟨_, rfl⟩
          rw [hna] at HVA hcv1 d4
          clear hna
          obtain ⟨s0, s1, s2, s3, s4, s5⟩ := st_cells HS.out
          simp only [noV] at s1 s2 s3
          have hzl : z < wr.heap.size := HS.out.lt
          have bx := below_box wr (.cells #[.int .i64 y1, .int .i64 y2, .string y3, .int .i64 yo, .slice av na cv] 36)
          have HD : Hid (Blk (wr.alloc (.cells #[.int .i64 y1, .int .i64 y2, .string y3, .int .i64 yo, .slice av na cv] 36)) wr.heap.size (ddC ⟨(y1, y2, y3), yo, ya⟩ (.slice av na cv)) 36) := Blk.new wr (ddC ⟨(y1, y2, y3), yo, ya⟩ (.slice av na cv)) _
          have HS5 : Hid (Blk (wr.alloc (.cells #[.int .i64 y1, .int .i64 y2, .string y3, .int .i64 yo, .slice av na cv] 36)) z (stC m noV vl) 28) := HS.out.later bx
          have HL5 : Hid (HeldV (wr.alloc (.cells #[.int .i64 y1, .int .i64 y2, .string y3, .int .i64 yo, .slice av na cv] 36)) w.heap.size vl L) := HL1.out.later bx
          have HB5 : Hid (Below w.heap.size w (wr.alloc (.cells #[.int .i64 y1, .int .i64 y2, .string y3, .int .i64 yo, .slice av na cv] 36))) := below_next HB.out bx
          clear HS HB HL1 bx
          go_wp2_with fail
          generalize wr.alloc (.cells #[.int .i64 y1, .int .i64 y2, .string y3, .int .i64 yo, .slice av na cv] 36) = w5 at HD HS5 HL5 HB5 ⊢
          obtain ⟨q, hq⟩ : ∃ q, wr.heap.size = q := ⟨_, rfl⟩
          rw [hq] at HD hzl
          simp only [hq]
          clear hq d0 d1 d2 d3 d4 s0 s1 s2 s3 s4 s5
          -- a copy of the state
          refine (copy_anyL m noV vl L w5 HL5.out.vsl (by have := HLn.out; omega)).mono ?_
          rintro e w6 ⟨l, rfl, hvl, hb6⟩
          obtain ⟨al, cl, hf⟩ := hvl.form
          obtain ⟨nl, hnl⟩ : ∃ nl, L.length = nl := ⟨_, rfl⟩
          rw [hnl] at hf
          subst hf
          clear hnl
          have bx := below_box w6 (.cells (stC m noV (.slice al nl cl)).toArray 28)
          have HD7 : Hid (Blk (w6.alloc (.cells (stC m noV (.slice al nl cl)).toArray 28)) q (ddC ⟨(y1, y2, y3), yo, ya⟩ (.slice av na cv)) 36) := (HD.out.later hb6).later bx
          have HS7 : Hid (Blk (w6.alloc (.cells (stC m noV (.slice al nl cl)).toArray 28)) z (stC m noV vl) 28) := (HS5.out.later hb6).later bx
          have HL7 : Hid (HeldV (w6.alloc (.cells (stC m noV (.slice al nl cl)).toArray 28)) w.heap.size vl L) := (HL5.out.later hb6).later bx
          have HB7 : Hid (Below w.heap.size w (w6.alloc (.cells (stC m noV (.slice al nl cl)).toArray 28))) := below_next (below_next HB5.out hb6) bx
          have HI7 : Hid (Blk (w6.alloc (.cells (stC m noV (.slice al nl cl)).toArray 28)) w6.heap.size (stC m noV (.slice al nl cl)) 28) := Blk.new w6 _ _
          have HM7 : Hid (HeldV (w6.alloc (.cells (stC m noV (.slice al nl cl)).toArray 28)) w.heap.size (.slice al nl cl) L) := (hvl.base HB5.out.size).held.later bx
          obtain ⟨s0, s1, s2, s3, s4, s5⟩ := st_cells (HS5.out.later hb6)
          obtain ⟨p0, p1, p2, p3, p4⟩ := dd_cells (HD.out.later hb6)
          simp only [noV] at s1 s2 s3
          have hzl6 : z < w6.heap.size := (HS5.out.later hb6).lt
          have hql6 : q < w6.heap.size := (HD.out.later hb6).lt
          simp only [stC, noV]
          clear hvl hb6 HD HS5 HL5 HB5 bx hzl
          go_wp2_with fail
          change Calls _ _ _ (w6.alloc (.cells (stC m noV (.slice al nl cl)).toArray 28)) _
          obtain ⟨zi, hzi⟩ : ∃ zi, w6.heap.size = zi := ⟨_, rfl⟩
          generalize w6.alloc (.cells (stC m noV (.slice al nl cl)).toArray 28) = w7 at HD7 HS7 HL7 HB7 HI7 HM7 ⊢
          rw [hzi] at HI7 hzl6 hql6
          simp only [hzi]
          clear hzi s0 s1 s2 s3 s4 s5 p0 p1 p2 p3 p4
          cases hmd : mayD m ⟨(y1, y2, y3), yo, ya⟩
          · refine (HK.out.no m (y1, y2, y3) vl L yo _ ya w7 (HT.out.later HB7.out) HL7.out.vsl (HVA.out.later HB7.out) HSz.out HSc.out (by rw [hmd, Bool.and_false])).mono ?_
            rintro e w8 ⟨rfl, hb8⟩
            have bx := below_box w8 (.cells (stC 0 noV nilS).toArray 28)
            have HS9 : Hid (Blk (w8.alloc (.cells (stC 0 noV nilS).toArray 28)) z (stC m noV vl) 28) := (HS7.out.later hb8).later bx
            have HL9 : Hid (HeldV (w8.alloc (.cells (stC 0 noV nilS).toArray 28)) w.heap.size vl L) := (HL7.out.later hb8).later bx
            have HB9 : Hid (Below w.heap.size w (w8.alloc (.cells (stC 0 noV nilS).toArray 28))) := below_next (below_next HB7.out hb8) bx
            have HM9 : Hid (HeldV (w8.alloc (.cells (stC 0 noV nilS).toArray 28)) w.heap.size (.slice al nl cl) L) := (HM7.out.later hb8).later bx
            obtain ⟨s0, s1, s2, s3, s4, s5⟩ := st_cells (HS7.out.later hb8)
            obtain ⟨i0, i1, i2, i3, i4, i5⟩ := st_cells (HI7.out.later hb8)
            simp only [noV] at s1 s2 s3 i1 i2 i3
            have hzl8 : z < w8.heap.size := (HS7.out.later hb8).lt
            have hil8 : zi < w8.heap.size := (HI7.out.later hb8).lt
            simp only [stC, noV]
            clear hmd hb8 HS7 HL7 HB7 HM7 HI7 HD7 bx
            go_wp2_with fail
            refine (same_yesL m noV (.slice al nl cl) vl L _ HM9.out.vsl HL9.out.vsl (by have := HLn.out; omega)).mono ?_
            rintro e w10 ⟨rfl, hb10⟩
            have HS10 : Hid (Blk w10 z (stC m noV vl) 28) := HS9.out.later hb10
            have HL10 : Hid (HeldV w10 w.heap.size vl L) := HL9.out.later hb10
            have HB10 : Hid (Below w.heap.size w w10) := below_next HB9.out hb10
            clear HS9 HB9 HM9 HL9 hb10 s0 s1 s2 s3 s4 s5 i0 i1 i2 i3 i4 i5
            go_wp2_with fail
            go_roundw
            case rel => exact ⟨k + 1, L, by omega, by go_num, by omega, HSrt.out, ⟨vl, HS10.out, HL10.out⟩, HB10.out⟩
            case measure => simp [intOf]; omega
          · refine (HK.out.yes m w.heap.size (y1, y2, y3) vl L yo _ ya w7 HM.out HB7.out.size (HT.out.later HB7.out) HL7.out (by have := HLn.out; omega) (HVA.out.later HB7.out) HSz.out HSc.out hmd).mono ?_
            rintro e w8 ⟨vo, vl', rfl, ho8, hl8, hap, hb8⟩
            have HFit : Hid ((fi m yo && outsOK (fr m yo) (outQ m L ⟨(y1, y2, y3), yo, ya⟩)) = true) := outs_fitQ (d := ⟨(y1, y2, y3), yo, ya⟩) HM.out hmd HSrt.out
            have HOsz : Hid (SzV (outQ m L ⟨(y1, y2, y3), yo, ya⟩)) := outQ_sz HSrt.out
            have HSrt' : Hid (KeptL (nxQ m L ⟨(y1, y2, y3), yo, ya⟩)) := kept_nxQ HM.out hmd HSrt.out HFw.out
            have HLn' : Hid ((nxQ m L ⟨(y1, y2, y3), yo, ya⟩).length ≤ L.length + 1) := nxQ_len m _ _
            obtain ⟨L', hL'⟩ : ∃ L', nxQ m L ⟨(y1, y2, y3), yo, ya⟩ = L' := ⟨_, rfl⟩
            obtain ⟨lo, hlo⟩ : ∃ lo, outQ m L ⟨(y1, y2, y3), yo, ya⟩ = lo := ⟨_, rfl⟩
            rw [hlo] at ho8 HFit HOsz
            rw [hL'] at hl8 HSrt' HLn'
            clear hL' hlo hmd
            obtain ⟨at1, ct, hf⟩ := hl8.form
            obtain ⟨nt, hnt⟩ : ∃ nt, L'.length = nt := ⟨_, rfl⟩
            rw [hnt] at hf
            subst hf
            clear hnt
            have hlv8 : w7.heap.size ≤ w8.heap.size := hb8.size
            have HS8 : Hid (Blk w8 z (stC m noV vl) 28) := HS7.out.later hb8
            have HI8 : Hid (Blk w8 zi (stC m noV (.slice al nl cl)) 28) := HI7.out.later hb8
            have HD8 : Hid (Blk w8 q (ddC ⟨(y1, y2, y3), yo, ya⟩ (.slice av na cv)) 36) := HD7.out.later hb8
            have HO8 : Hid (OwnV w8 w7.heap.size vo lo) := ho8
            have HAp : Hid (∀ g, vo.ownBlock = some g → (Value.slice at1 nt ct).ownBlock ≠ some g) := hap
            have HN8 : Hid (HeldV w8 w.heap.size (.slice at1 nt ct) L') := hl8
            have HL8 : Hid (HeldV w8 w.heap.size vl L) := HL7.out.later hb8
            have HM8 : Hid (HeldV w8 w.heap.size (.slice al nl cl) L) := HM7.out.later hb8
            have HOff : Hid (∀ g, w7.heap.size ≤ g → vl.ownBlock ≠ some g ∧ (Value.slice al nl cl).ownBlock ≠ some g) := fun g hg => ⟨own_below HL7.out hg, own_below HM7.out hg⟩
            have hzl7 : z < w7.heap.size := HS7.out.lt
            have hil7 : zi < w7.heap.size := HI7.out.lt
            have hzl8 : z < w8.heap.size := HS8.out.lt
            have hil8 : zi < w8.heap.size := HI8.out.lt
            have hql8 : q < w8.heap.size := HD8.out.lt
            have HB8 : Hid (Below w.heap.size w w8) := below_next HB7.out hb8
            obtain ⟨B7, hB7⟩ : ∃ B7, w7.heap.size = B7 := ⟨_, rfl⟩
            have HB7w : Hid (w.heap.size ≤ B7) := by show _ ≤ _; rw [← hB7]; exact HB7.out.size
            rw [hB7] at HO8 hzl7 hil7 hlv8 HOff
            clear hB7 ho8 hb8 HS7 HB7 HL7 HM7 HI7 HD7 hl8 hap
            obtain ⟨s0, s1, s2, s3, s4, s5⟩ := st_cells HS8.out
            obtain ⟨i0, i1, i2, i3, i4, i5⟩ := st_cells HI8.out
            simp only [noV] at s1 s2 s3 i1 i2 i3
            have bx := below_box w8 (.cells (stC m noV (.slice at1 nt ct)).toArray 28)
            have HS9 : Hid (Blk (w8.alloc (.cells (stC m noV (.slice at1 nt ct)).toArray 28)) z (stC m noV vl) 28) := HS8.out.later bx
            have HI9 : Hid (Blk (w8.alloc (.cells (stC m noV (.slice at1 nt ct)).toArray 28)) zi (stC m noV (.slice al nl cl)) 28) := HI8.out.later bx
            have HD9 : Hid (Blk (w8.alloc (.cells (stC m noV (.slice at1 nt ct)).toArray 28)) q (ddC ⟨(y1, y2, y3), yo, ya⟩ (.slice av na cv)) 36) := HD8.out.later bx
            have HN9 : Hid (HeldV (w8.alloc (.cells (stC m noV (.slice at1 nt ct)).toArray 28)) w.heap.size (.slice at1 nt ct) L') := HN8.out.later bx
            have HL9 : Hid (HeldV (w8.alloc (.cells (stC m noV (.slice at1 nt ct)).toArray 28)) w.heap.size vl L) := HL8.out.later bx
            have HM9 : Hid (HeldV (w8.alloc (.cells (stC m noV (.slice at1 nt ct)).toArray 28)) w.heap.size (.slice al nl cl) L) := HM8.out.later bx
            have HB9 : Hid (Below w.heap.size w (w8.alloc (.cells (stC m noV (.slice at1 nt ct)).toArray 28))) := below_next HB8.out bx
            have HO9 : Hid (OwnV (w8.alloc (.cells (stC m noV (.slice at1 nt ct)).toArray 28)) B7 vo lo) := HO8.out.later bx
            have HT9 : Hid (Blk (w8.alloc (.cells (stC m noV (.slice at1 nt ct)).toArray 28)) w8.heap.size (stC m noV (.slice at1 nt ct)) 28) := Blk.new w8 _ _
            have HLt : Hid (∀ g, vo.ownBlock = some g → B7 ≤ g ∧ g < w8.heap.size) := HO8.out.lt
            simp only [stC, noV]
            clear bx HS8 HI8 HD8 HN8 HL8 HM8 HB8 HO8
            go_wp2_with fail
            change Calls _ _ _ (w8.alloc (.cells (stC m noV (.slice at1 nt ct)).toArray 28)) _
            obtain ⟨zt, hzt⟩ : ∃ zt, w8.heap.size = zt := ⟨_, rfl⟩
            generalize (w8.alloc (.cells (stC m noV (.slice at1 nt ct)).toArray 28)) = w9 at HS9 HI9 HD9 HN9 HL9 HM9 HB9 HO9 HT9 ⊢
            rw [hzt] at HT9 HLt hzl8 hil8 hql8 hlv8
            simp only [hzt]
            clear hzt s0 s1 s2 s3 s4 s5 i0 i1 i2 i3 i4 i5
            refine (same_yesL m noV (.slice al nl cl) vl L w9 HM9.out.vsl HL9.out.vsl (by have := HLn.out; omega)).mono ?_
            rintro e w10 ⟨rfl, hb10⟩
            have HS10 : Hid (Blk w10 z (stC m noV vl) 28) := HS9.out.later hb10
            have HI10 : Hid (Blk w10 zi (stC m noV (.slice al nl cl)) 28) := HI9.out.later hb10
            have HT10 : Hid (Blk w10 zt (stC m noV (.slice at1 nt ct)) 28) := HT9.out.later hb10
            have HN10 : Hid (HeldV w10 w.heap.size (.slice at1 nt ct) L') := HN9.out.later hb10
            have HL10 : Hid (HeldV w10 w.heap.size vl L) := HL9.out.later hb10
            have HM10 : Hid (HeldV w10 w.heap.size (.slice al nl cl) L) := HM9.out.later hb10
            have HB10 : Hid (Below w.heap.size w w10) := below_next HB9.out hb10
            have HO10 : Hid (OwnV w10 B7 vo lo) := HO9.out.later hb10
            obtain ⟨p0, p1, p2, p3, p4⟩ := dd_cells (HD9.out.later hb10)
            clear HS9 HI9 HD9 HN9 HL9 HM9 HB9 HO9 HT9 hb10
            go_wp2_with fail
            refine (outs_any m yo vo lo w10 (HT.out.later HB10.out) HO10.out.vsl HOsz.out.1 HOsz.out.2).mono ?_
            rintro e w11 ⟨vd, rfl, -, hb11⟩
            rw [HFit.out]
            have HS11 : Hid (Blk w11 z (stC m noV vl) 28) := HS10.out.later hb11
            have HI11 : Hid (Blk w11 zi (stC m noV (.slice al nl cl)) 28) := HI10.out.later hb11
            have HT11 : Hid (Blk w11 zt (stC m noV (.slice at1 nt ct)) 28) := HT10.out.later hb11
            have HN11 : Hid (HeldV w11 w.heap.size (.slice at1 nt ct) L') := HN10.out.later hb11
            have HL11 : Hid (HeldV w11 w.heap.size vl L) := HL10.out.later hb11
            have HM11 : Hid (HeldV w11 w.heap.size (.slice al nl cl) L) := HM10.out.later hb11
            have HB11 : Hid (Below w.heap.size w w11) := below_next HB10.out hb11
            have HO11 : Hid (OwnV w11 B7 vo lo) := HO10.out.later hb11
            obtain ⟨t0, _, _, _, _, _⟩ := st_cells HT11.out
            clear HS10 HI10 HT10 HN10 HL10 HM10 HB10 HO10 hb11 p0 p1 p2 p3 p4
            rcases own_block HO11.out with ⟨rfl, rfl⟩ | ⟨g, co, cs, rfl, hgB, hco, hcs, hcl⟩
            · clear HLt
              go_wp2_with fail
              go_loopw [73] (fun j wj => j = .int .i64 0 ∧ wj = w11) (fun j wj => 0)
              case atStart => exact ⟨rfl, rfl⟩
              case round =>
                obtain ⟨rfl, rfl⟩ := hrel
                have HSx := HS11
                have HIx := HI11
                have HTx := HT11
                have HNx := HN11
                have HLx := HL11
                have HMx := HM11
                have HBx := HB11
                obtain ⟨s0, s1, s2, s3, s4, s5⟩ := st_cells HSx.out
                obtain ⟨i0, i1, i2, i3, i4, i5⟩ := st_cells HIx.out
                simp only [noV] at s1 s2 s3 i1 i2 i3
                go_wp2_with fail
                refine (same_yesL m noV (.slice al nl cl) vl L _ HMx.out.vsl HLx.out.vsl (by have := HLn.out; omega)).mono ?_
                rintro e w20 ⟨rfl, hb20⟩
                have HT20 : Hid (Blk w20 zt (stC m noV (.slice at1 nt ct)) 28) := HTx.out.later hb20
                have HS20 : Hid (Blk w20 z (stC m noV vl) 28) := HSx.out.later hb20
                have HN20 : Hid (HeldV w20 w.heap.size (.slice at1 nt ct) L') := HNx.out.later hb20
                have HB20 : Hid (Below w.heap.size w w20) := below_next HBx.out hb20
                obtain ⟨t0, t1, t2, t3, t4, t5⟩ := st_cells HT20.out
                simp only [noV] at t1 t2 t3
                clear HSx HIx HTx HNx HLx HMx HBx hb20 s0 s1 s2 s3 s4 s5 i0 i1 i2 i3 i4 i5
                go_wp2_with ((with_reducible refine wp_storeB 28 (.tmp 5) (.tmp 85) z 0 (stC m noV (.slice at1 nt ct)) (stC m noV vl) 28 ?_ ?_ (stC_one _ _ rfl) ?_ ?_ ?_ HS20.out ?_); (exact infoSt); (exact (show 0 + 6 ≤ 6 by decide)); (exact ⟨rfl, rfl⟩); (exact rfl); (exact rfl); (intro w21 D1 o21); (replace D1 : Blk w21 z (stC m noV (.slice at1 nt ct)) 28 := D1); (have HS21 : Hid (Blk w21 z (stC m noV (.slice at1 nt ct)) 28) := D1); (have HN21 : Hid (HeldV w21 w.heap.size (.slice at1 nt ct) L') := HN20.out.oth o21 HS20.out (by decide)); (have HB21 : Hid (Below w.heap.size w w21) := below_oth HB20.out o21 HZ.out HZ.out HB20.out.size); (clear D1 o21))
                go_roundw
                case rel => exact ⟨k + 1, L', by omega, by go_num, by have := HLn'.out; omega, HSrt'.out, ⟨_, HS21.out, HN21.out⟩, HB21.out⟩
                case measure => simp [intOf]; omega
            · obtain ⟨hgB', hgt⟩ := HLt.out g rfl
              have hlo1 : (lo.length : Int) ≤ 1000000 := by have := HOsz.out.2; omega
              have HCs : Hid (Blk w11 g cs 25) := hcs
              have HGn : Hid (w.heap.size ≤ g) := Nat.le_trans HB7w.out hgB
              have HO1 : Hid (vl.ownBlock ≠ some g) := (HOff.out g hgB).1
              have HO2 : Hid ((Value.slice al nl cl).ownBlock ≠ some g) := (HOff.out g hgB).2
              have HO3 : Hid ((Value.slice at1 nt ct).ownBlock ≠ some g) := HAp.out g rfl
              clear HLt hcs HOsz HO11 HOff HAp
              obtain ⟨nv1, hnl⟩ : ∃ nv1, lo.length = nv1 := ⟨_, rfl⟩
              rw [hnl] at hco hcl hlo1 ⊢
              clear hnl
              go_wp2_with fail
              go_loopw [73] (fun j wj => ∃ (r : Nat) (cs' : List Value), r ≤ nv1 ∧ j = .int .i64 (r : Int) ∧ Blk wj g cs' 25 ∧ cs'.length = cs.length ∧ Oth g g w11 wj) (fun j wj => nv1 - (intOf j).toNat)
              case atStart => exact ⟨0, cs, by omega, rfl, HCs.out, rfl, Oth.refl _ _ _⟩
              case round =>
                obtain ⟨r, cs', hr, rfl, hb', hl', ho'⟩ := hrel
                have HC' : Hid (Blk wr g cs' 25) := hb'
                have HL' : Hid (cs'.length = cs.length) := hl'
                have HO' : Hid (Oth g g w11 wr) := ho'
                clear hb' hl' ho'
                by_cases hrn : r < nv1
                · have hrn' : (r : Int) < (nv1 : Int) := by omega
                  have hoff : r * 3 < cs'.length := by have := HL'.out; omega
                  go_wp2_with ((with_reducible refine wp_storeC 3 (.tmp 79) (.const (.int .i64 9)) g (r * 3) (.int .i64 9) cs' 25 infoI1 hoff rfl rfl ?_ ?_ ?_ HC'.out ?_); (exact ⟨rfl, rfl⟩); (exact rfl); (exact rfl); (intro w12 D1 o12); (have HC12 : Hid (Blk w12 g (cs'.set (r * 3) (.int .i64 9)) 25) := D1); (have HO12 : Hid (Oth g g w11 w12) := HO'.out.trans o12); (clear D1 o12))
                  go_roundw
                  case rel => exact ⟨r + 1, cs'.set (r * 3) (.int .i64 9), by omega, by go_num, HC12.out, by rw [List.length_set]; exact HL'.out, HO12.out⟩
                  case measure => simp [intOf]; omega
                · have e : r = nv1 := by omega
                  subst e
                  have HSx : Hid (Blk wr z (stC m noV vl) 28) := HS11.out.oth HO'.out (by omega) (by omega)
                  have HIx : Hid (Blk wr zi (stC m noV (.slice al nl cl)) 28) := HI11.out.oth HO'.out (by omega) (by omega)
                  have HTx : Hid (Blk wr zt (stC m noV (.slice at1 nt ct)) 28) := HT11.out.oth HO'.out (by omega) (by omega)
                  have HNx : Hid (HeldV wr w.heap.size (.slice at1 nt ct) L') := HeldV.off HN11.out HO'.out HO3.out
                  have HLx : Hid (HeldV wr w.heap.size vl L) := HeldV.off HL11.out HO'.out HO1.out
                  have HMx : Hid (HeldV wr w.heap.size (.slice al nl cl) L) := HeldV.off HM11.out HO'.out HO2.out
                  have HBx : Hid (Below w.heap.size w wr) := below_oth HB11.out HO'.out HGn.out HGn.out HB11.out.size
                  clear HS11 HI11 HT11 HN11 HL11 HM11 HB11 HC' HO' HCs t0
                  obtain ⟨s0, s1, s2, s3, s4, s5⟩ := st_cells HSx.out
                  obtain ⟨i0, i1, i2, i3, i4, i5⟩ := st_cells HIx.out
                  simp only [noV] at s1 s2 s3 i1 i2 i3
                  go_wp2_with fail
                  refine (same_yesL m noV (.slice al nl cl) vl L _ HMx.out.vsl HLx.out.vsl (by have := HLn.out; omega)).mono ?_
                  rintro e w20 ⟨rfl, hb20⟩
                  have HT20 : Hid (Blk w20 zt (stC m noV (.slice at1 nt ct)) 28) := HTx.out.later hb20
                  have HS20 : Hid (Blk w20 z (stC m noV vl) 28) := HSx.out.later hb20
                  have HN20 : Hid (HeldV w20 w.heap.size (.slice at1 nt ct) L') := HNx.out.later hb20
                  have HB20 : Hid (Below w.heap.size w w20) := below_next HBx.out hb20
                  obtain ⟨t0, t1, t2, t3, t4, t5⟩ := st_cells HT20.out
                  simp only [noV] at t1 t2 t3
                  clear HSx HIx HTx HNx HLx HMx HBx hb20 s0 s1 s2 s3 s4 s5 i0 i1 i2 i3 i4 i5
                  go_wp2_with ((with_reducible refine wp_storeB 28 (.tmp 5) (.tmp 85) z 0 (stC m noV (.slice at1 nt ct)) (stC m noV vl) 28 ?_ ?_ (stC_one _ _ rfl) ?_ ?_ ?_ HS20.out ?_); (exact infoSt); (exact (show 0 + 6 ≤ 6 by decide)); (exact ⟨rfl, rfl⟩); (exact rfl); (exact rfl); (intro w21 D1 o21); (replace D1 : Blk w21 z (stC m noV (.slice at1 nt ct)) 28 := D1); (have HS21 : Hid (Blk w21 z (stC m noV (.slice at1 nt ct)) 28) := D1); (have HN21 : Hid (HeldV w21 w.heap.size (.slice at1 nt ct) L') := HN20.out.oth o21 HS20.out (by decide)); (have HB21 : Hid (Below w.heap.size w w21) := below_oth HB20.out o21 HZ.out HZ.out HB20.out.size); (clear D1 o21))
                  go_roundw
                  case rel => exact ⟨k + 1, L', by omega, by go_num, by have := HLn'.out; omega, HSrt'.out, ⟨_, HS21.out, HN21.out⟩, HB21.out⟩
                  case measure => simp [intOf]; omega
        · have e : k = n := by omega
          subst e
          go_wp2
          go_ret
          exact ⟨rfl, HB.out⟩
    · clear HS4 HF
      go_wp2
      go_ret
      exact ⟨rfl, HB4.out⟩
end Go.Proofs.YthgafmhpajikdaaDoor
