/- The example holds. Condition: the table of signs lies in memory. -/
import Derived.Test.YtgiefgmhjcjabaaDoorGS
namespace Go.Proofs.YtgiefgmhjcjabaaDoor
open Go.RowKit Go.PlainAid Ln Go.Sort
set_option linter.unusedVariables false
set_option linter.unusedSimpArgs false

theorem km4 : mayD 3 ⟨vN 5, 4, [vN 5]⟩ = true := by kernel_rfl
theorem km5 : mayD 3 ⟨vN 5, 5, [vN 5]⟩ = true := by kernel_rfl
theorem km6 : mayD 3 ⟨vN 5, 6, [vN 5]⟩ = true := by kernel_rfl
theorem kn4 : nxB [] ⟨vN 5, 4, [vN 5]⟩ = [vN 5] := by kernel_rfl
theorem kn5 : nxB [vN 5] ⟨vN 5, 5, [vN 5]⟩ = [] := by kernel_rfl
theorem ko1 : outB [vN 5] ⟨vN 5, 6, [vN 5]⟩ = [yesV true] := by kernel_rfl
theorem ko0 : outB [] ⟨vN 5, 6, [vN 5]⟩ = [yesV false] := by kernel_rfl
theorem ksame (b : Bool) : sameL [yesV b] [(3, if b then 1 else 0, noB)] = true := sameL_self _
theorem srt_5 : Srt [vN 5] := List.pairwise_singleton _ _
/-- how the walk stands: who, the state, its list -/
structure Wk (w wr : World) (p s : Nat) (vl : Value) (l : List Val) : Prop where
  a : Blk wr p (encV (vN 5)) 25
  s : Blk wr s (stC 3 noV vl) 28
  o : OwnV wr w.heap.size vl l
  b : Below w.heap.size w wr
theorem Wk.later {w wr wn : World} {p s : Nat} {vl : Value} {l : List Val} (h : Wk w wr p s vl l) (hb : Below wr.heap.size wr wn) : Wk w wn p s vl l := ⟨h.a.later hb, h.s.later hb, h.o.later hb, below_next h.b hb⟩
set_option maxRecDepth 100000 in
set_option maxHeartbeats 16000000 in
theorem wakes_anyB (K : BagOK) (w : World) (ht : Tb w) : Calls Tryd.prog 6 #[] w fun e w' => e = .returned (.bool true) ∧ Below w.heap.size w w' := by
  have HT : Hid (Tb w) := ht
  have HK : Hid BagOK := K
  clear ht
  have h1 := fun w => num_any 5 w
  have h9 := fun w => K.new 3 w
  rw [if_pos (by kernel_rfl), show ownB 3 = true by kernel_rfl] at h9
  simp only [stC, noV] at h9
  clear K
  go_enter Tryd.func6, Tryd.ntmps6
  go_wp2_with (first
    | (go_at_call 19; refine (h1 _).mono ?_; rintro e w1 ⟨rfl, hb1⟩)
    | (go_at_call 7; refine (h9 _).mono ?_; rintro e w2 ⟨rfl, hb2⟩; have HA2 : Blk w2 w1.heap.size (encV (vN 5)) 25 := (Blk.new w1 _ _).later hb2; obtain ⟨a0, a1, a2⟩ := v_cells HA2; simp only [vN] at a0 a1 a2; have hl2 := HA2.lt))
  have hb3 := below_box w2 (.cells (stC 3 noV nilS).toArray 28)
  have hba : Below w.heap.size w (w1.alloc (.cells (encV (vN 5)).toArray 25)) := below_next hb1 (below_box w1 _)
  change Below (w1.alloc (.cells (encV (vN 5)).toArray 25)).heap.size (w1.alloc (.cells (encV (vN 5)).toArray 25)) w2 at hb2
  have hne : w1.heap.size ≠ w2.heap.size := by omega
  have hle : w.heap.size ≤ w2.heap.size := (below_next hba hb2).size
  have HW0 : Hid (Wk w (w2.alloc (.cells (stC 3 noV nilS).toArray 28)) w1.heap.size w2.heap.size nilS []) := ⟨HA2.later hb3, Blk.new w2 _ _, OwnV.nil _ _, below_next (below_next hba hb2) hb3⟩
  have HNe : Hid (w1.heap.size ≠ w2.heap.size) := hne
  have HLe : Hid (w.heap.size ≤ w2.heap.size) := hle
  change Hid (Wk w (w2.alloc (.cells #[.int .i64 3, .int .i64 0, .int .i64 0, .string noB, .int .i64 0, .slice none 0 0] 28)) _ _ _ _) at HW0
  have hq0 : (w2.alloc (.cells #[.int .i64 3, .int .i64 0, .int .i64 0, .string noB, .int .i64 0, .slice none 0 0] 28)).heap.size = w2.heap.size + 1 := by simp
  generalize w2.alloc (.cells #[.int .i64 3, .int .i64 0, .int .i64 0, .string noB, .int .i64 0, .slice none 0 0] 28) = v0 at HW0 hq0 ⊢
  obtain ⟨p, hp⟩ : ∃ p, w1.heap.size = p := ⟨_, rfl⟩
  obtain ⟨s, hs⟩ : ∃ s, w2.heap.size = s := ⟨_, rfl⟩
  rw [hp, hs] at HW0 HNe
  rw [hs] at HLe hq0
  simp only [hp, hs]
  clear hb1 hb2 hba HA2 hb3 hne hle h9 h1 hp hs a0 a1 a2 hl2
  have bx0 := below_box v0 (.cells (encV (vN 5)).toArray 25)
  have HV0 : Hid (VSl (v0.alloc (.cells (encV (vN 5)).toArray 25)) (.slice (some ⟨v0.heap.size, 0, none⟩) 1 1) [vN 5]) := (own_one v0 v0.heap.size (Nat.le_refl _) (vN 5)).vsl
  have HX0 : Hid (Wk w (v0.alloc (.cells (encV (vN 5)).toArray 25)) p s nilS []) := HW0.out.later bx0
  change Calls _ _ _ (v0.alloc (.cells (encV (vN 5)).toArray 25)) _
  generalize v0.alloc (.cells (encV (vN 5)).toArray 25) = x0 at HV0 HX0 ⊢
  rw [hq0] at HV0
  clear hq0 bx0 HW0
  refine (HK.out.yes w.heap.size (vN 5) nilS [] 4 (.slice (some ⟨(s + 1), 0, none⟩) 1 1) [vN 5] x0 HX0.out.b.size (HT.out.later HX0.out.b) HX0.out.o srt_nil (by simp) HV0.out (sz1 _ (Nat.zero_le _)) (Nat.zero_le _) km4).mono ?_
  rintro e y0 ⟨vo, vl, rfl, -, hvl, -, hb⟩
  rw [kn4] at hvl
  have hvl := hvl
  obtain ⟨al, cl, hf⟩ := hvl.form
  have hf : vl = .slice al 1 cl := hf
  subst hf
  have HX1 : Hid (Wk w y0 p s nilS []) := HX0.out.later hb
  have HO1 : Hid (OwnV y0 w.heap.size (.slice al 1 cl) [vN 5]) := hvl
  clear hvl hb HX0 HV0
  simp only [stC, noV]
  obtain ⟨a0, a1, a2⟩ := v_cells HX1.out.a
  simp only [vN] at a0 a1 a2
  go_wp2_with ((with_reducible refine wp_storeB 28 (.tmp 2) (.tmp 21) s 0 (stC 3 noV (.slice al 1 cl)) (stC 3 noV nilS) 28 ?_ ?_ (stC_one _ _ rfl) ?_ ?_ ?_ HX1.out.s ?_); (exact infoSt); (exact (show 0 + 6 ≤ 6 by decide)); (exact ⟨rfl, rfl⟩); (exact rfl); (exact rfl); (intro v1 D1 o1); (replace D1 : Blk v1 s (stC 3 noV (.slice al 1 cl)) 28 := D1); (have HW1 : Hid (Wk w v1 p s (.slice al 1 cl) [vN 5]) := ⟨HX1.out.a.oth o1 HNe.out HNe.out, D1, HO1.out.oth o1 HX1.out.s (by decide), below_oth HX1.out.b o1 HLe.out HLe.out HX1.out.b.size⟩); (clear D1 o1 a0 a1 a2); (obtain ⟨s0, s1, s2, s3, s4, s5⟩ := st_cells HW1.out.s); (obtain ⟨a0, a1, a2⟩ := v_cells HW1.out.a); (simp only [vN, noV] at s1 s2 s3 a0 a1 a2))
  clear HX1 HO1 s0 s1 s2 s3 s4 s5 a0 a1 a2
  have bx1 := below_box v1 (.cells (encV (vN 5)).toArray 25)
  have HV1 : Hid (VSl (v1.alloc (.cells (encV (vN 5)).toArray 25)) (.slice (some ⟨v1.heap.size, 0, none⟩) 1 1) [vN 5]) := (own_one v1 v1.heap.size (Nat.le_refl _) (vN 5)).vsl
  have HX1 : Hid (Wk w (v1.alloc (.cells (encV (vN 5)).toArray 25)) p s (.slice al 1 cl) [vN 5]) := HW1.out.later bx1
  change Calls _ _ _ (v1.alloc (.cells (encV (vN 5)).toArray 25)) _
  obtain ⟨q1, hqq⟩ : ∃ q, v1.heap.size = q := ⟨_, rfl⟩
  rw [hqq] at HV1
  generalize v1.alloc (.cells (encV (vN 5)).toArray 25) = x1 at HV1 HX1  ⊢
  simp only [hqq]
  clear hqq
  clear bx1 HW1 
  refine (HK.out.yes w.heap.size (vN 5) (.slice al 1 cl) [vN 5] 6 (.slice (some ⟨q1, 0, none⟩) 1 1) [vN 5] x1 HX1.out.b.size (HT.out.later HX1.out.b) HX1.out.o srt_5 (by simp) HV1.out (sz1 _ (Nat.zero_le _)) (Nat.zero_le _) km6).mono ?_
  rintro e y1 ⟨vo1, vl1, rfl, ho, hvl, -, hb⟩
  rw [ko1] at ho
  rw [nxB_o (by decide) (by decide)] at hvl
  obtain ⟨al1, cl1, hf⟩ := hvl.form
  have hf : vl1 = .slice al1 1 cl1 := hf
  subst hf
  have HC1 : Hid (Wk w y1 p s (.slice al 1 cl) [vN 5]) := HX1.out.later hb
  have HN1 : Hid (OwnV y1 w.heap.size (.slice al1 1 cl1) [vN 5]) := hvl
  have HA : Hid (OwnV y1 w.heap.size vo1 [yesV true]) := ho.base HX1.out.b.size
  clear ho hvl hb HX1 HV1
  simp only [stC, noV]
  obtain ⟨s0, s1, s2, s3, s4, s5⟩ := st_cells HC1.out.s
  obtain ⟨a0, a1, a2⟩ := v_cells HC1.out.a
  simp only [vN, noV] at s1 s2 s3 a0 a1 a2
  have hlp := HC1.out.a.lt
  have hls := HC1.out.s.lt
  go_wp2_with fail
  clear s0 s1 s2 s3 s4 s5 a0 a1 a2 hlp hls
  have HW2 : Hid (Wk w (y1.alloc (.cells #[.int .i64 3, .int .i64 0, .int .i64 0, .string noB, .int .i64 0, .slice al1 1 cl1] 28)) p s (.slice al 1 cl) [vN 5]) := HC1.out.later (below_box _ _)
  have HA2 : Hid (OwnV (y1.alloc (.cells #[.int .i64 3, .int .i64 0, .int .i64 0, .string noB, .int .i64 0, .slice al1 1 cl1] 28)) w.heap.size vo1 [yesV true]) := HA.out.later (below_box _ _)
  clear HC1 HN1 HA
  have bx2 := below_box (y1.alloc (.cells #[.int .i64 3, .int .i64 0, .int .i64 0, .string noB, .int .i64 0, .slice al1 1 cl1] 28)) (.cells (encV (vN 5)).toArray 25)
  have HV2 : Hid (VSl ((y1.alloc (.cells #[.int .i64 3, .int .i64 0, .int .i64 0, .string noB, .int .i64 0, .slice al1 1 cl1] 28)).alloc (.cells (encV (vN 5)).toArray 25)) (.slice (some ⟨(y1.alloc (.cells #[.int .i64 3, .int .i64 0, .int .i64 0, .string noB, .int .i64 0, .slice al1 1 cl1] 28)).heap.size, 0, none⟩) 1 1) [vN 5]) := (own_one (y1.alloc (.cells #[.int .i64 3, .int .i64 0, .int .i64 0, .string noB, .int .i64 0, .slice al1 1 cl1] 28)) (y1.alloc (.cells #[.int .i64 3, .int .i64 0, .int .i64 0, .string noB, .int .i64 0, .slice al1 1 cl1] 28)).heap.size (Nat.le_refl _) (vN 5)).vsl
  have HX2 : Hid (Wk w ((y1.alloc (.cells #[.int .i64 3, .int .i64 0, .int .i64 0, .string noB, .int .i64 0, .slice al1 1 cl1] 28)).alloc (.cells (encV (vN 5)).toArray 25)) p s (.slice al 1 cl) [vN 5]) := HW2.out.later bx2
  have HA2x : Hid (OwnV ((y1.alloc (.cells #[.int .i64 3, .int .i64 0, .int .i64 0, .string noB, .int .i64 0, .slice al1 1 cl1] 28)).alloc (.cells (encV (vN 5)).toArray 25)) w.heap.size vo1 [yesV true]) := HA2.out.later bx2
  change Calls _ _ _ ((y1.alloc (.cells #[.int .i64 3, .int .i64 0, .int .i64 0, .string noB, .int .i64 0, .slice al1 1 cl1] 28)).alloc (.cells (encV (vN 5)).toArray 25)) _
  have hq2 : (y1.alloc (.cells #[.int .i64 3, .int .i64 0, .int .i64 0, .string noB, .int .i64 0, .slice al1 1 cl1] 28)).heap.size = y1.heap.size + 1 := by simp
  rw [hq2] at HV2
  obtain ⟨q2, hqq⟩ : ∃ q, y1.heap.size + 1 = q := ⟨_, rfl⟩
  rw [hqq] at HV2
  generalize (y1.alloc (.cells #[.int .i64 3, .int .i64 0, .int .i64 0, .string noB, .int .i64 0, .slice al1 1 cl1] 28)).alloc (.cells (encV (vN 5)).toArray 25) = x2 at HV2 HX2 HA2x ⊢
  simp only [hqq]
  clear hq2 hqq
  clear bx2 HW2 HA2
  refine (HK.out.yes w.heap.size (vN 5) (.slice al 1 cl) [vN 5] 5 (.slice (some ⟨q2, 0, none⟩) 1 1) [vN 5] x2 HX2.out.b.size (HT.out.later HX2.out.b) HX2.out.o srt_5 (by simp) HV2.out (sz1 _ (Nat.zero_le _)) (Nat.zero_le _) km5).mono ?_
  rintro e y2 ⟨vo2, vl2, rfl, ho, hvl, -, hb⟩
  rw [kn5] at hvl
  obtain ⟨al2, cl2, hf⟩ := hvl.form
  have hf : vl2 = .slice al2 0 cl2 := hf
  subst hf
  have HC2 : Hid (Wk w y2 p s (.slice al 1 cl) [vN 5]) := HX2.out.later hb
  have HN2 : Hid (OwnV y2 w.heap.size (.slice al2 0 cl2) []) := hvl
  have HA2 : Hid (OwnV y2 w.heap.size vo1 [yesV true]) := HA2x.out.later hb
  clear ho hvl hb HX2 HV2
  simp only [stC, noV]
  obtain ⟨a0, a1, a2⟩ := v_cells HC2.out.a
  simp only [vN] at a0 a1 a2
  go_wp2_with ((with_reducible refine wp_storeB 28 (.tmp 2) (.tmp 39) s 0 (stC 3 noV (.slice al2 0 cl2)) (stC 3 noV (.slice al 1 cl)) 28 ?_ ?_ (stC_one _ _ rfl) ?_ ?_ ?_ HC2.out.s ?_); (exact infoSt); (exact (show 0 + 6 ≤ 6 by decide)); (exact ⟨rfl, rfl⟩); (exact rfl); (exact rfl); (intro v3 D1 o1); (replace D1 : Blk v3 s (stC 3 noV (.slice al2 0 cl2)) 28 := D1); (have HW3 : Hid (Wk w v3 p s (.slice al2 0 cl2) []) := ⟨HC2.out.a.oth o1 HNe.out HNe.out, D1, HN2.out.oth o1 HC2.out.s (by decide), below_oth HC2.out.b o1 HLe.out HLe.out HC2.out.b.size⟩); (have HA3 : Hid (OwnV v3 w.heap.size vo1 [yesV true]) := HA2.out.oth o1 HC2.out.s (by decide)); (clear D1 o1 a0 a1 a2); (obtain ⟨s0, s1, s2, s3, s4, s5⟩ := st_cells HW3.out.s); (obtain ⟨a0, a1, a2⟩ := v_cells HW3.out.a); (simp only [vN, noV] at s1 s2 s3 a0 a1 a2))
  clear HC2 HN2 HA2 s0 s1 s2 s3 s4 s5 a0 a1 a2
  have bx3 := below_box v3 (.cells (encV (vN 5)).toArray 25)
  have HV3 : Hid (VSl (v3.alloc (.cells (encV (vN 5)).toArray 25)) (.slice (some ⟨v3.heap.size, 0, none⟩) 1 1) [vN 5]) := (own_one v3 v3.heap.size (Nat.le_refl _) (vN 5)).vsl
  have HX3 : Hid (Wk w (v3.alloc (.cells (encV (vN 5)).toArray 25)) p s (.slice al2 0 cl2) []) := HW3.out.later bx3
  have HA3x : Hid (OwnV (v3.alloc (.cells (encV (vN 5)).toArray 25)) w.heap.size vo1 [yesV true]) := HA3.out.later bx3
  change Calls _ _ _ (v3.alloc (.cells (encV (vN 5)).toArray 25)) _
  obtain ⟨q3, hqq⟩ : ∃ q, v3.heap.size = q := ⟨_, rfl⟩
  rw [hqq] at HV3
  generalize v3.alloc (.cells (encV (vN 5)).toArray 25) = x3 at HV3 HX3 HA3x ⊢
  simp only [hqq]
  clear hqq
  clear bx3 HW3 HA3
  refine (HK.out.yes w.heap.size (vN 5) (.slice al2 0 cl2) [] 6 (.slice (some ⟨q3, 0, none⟩) 1 1) [vN 5] x3 HX3.out.b.size (HT.out.later HX3.out.b) HX3.out.o srt_nil (by simp) HV3.out (sz1 _ (Nat.zero_le _)) (Nat.zero_le _) km6).mono ?_
  rintro e y3 ⟨vo3, vl3, rfl, ho, hvl, -, hb⟩
  rw [ko0] at ho
  rw [nxB_o (by decide) (by decide)] at hvl
  obtain ⟨al3, cl3, hf⟩ := hvl.form
  have hf : vl3 = .slice al3 0 cl3 := hf
  subst hf
  have HC3 : Hid (Wk w y3 p s (.slice al2 0 cl2) []) := HX3.out.later hb
  have HN3 : Hid (OwnV y3 w.heap.size (.slice al3 0 cl3) []) := hvl
  have HA3 : Hid (OwnV y3 w.heap.size vo1 [yesV true]) := HA3x.out.later hb
  have HE : Hid (OwnV y3 w.heap.size vo3 [yesV false]) := ho.base HX3.out.b.size
  have HB : Hid (Below w.heap.size w y3) := HC3.out.b
  clear ho hvl hb HX3 HV3 HC3 HN3
  simp only [stC, noV]
  have b4 := below_box y3 (.cells #[.int .i64 3, .int .i64 0, .int .i64 0, .string noB, .int .i64 0, .slice al3 0 cl3] 28)
  have HA4 := HA3.out.later b4
  have HE4 := HE.out.later b4
  have HB4 := below_next HB.out b4
  have hq4 : (y3.alloc (.cells #[.int .i64 3, .int .i64 0, .int .i64 0, .string noB, .int .i64 0, .slice al3 0 cl3] 28)).heap.size = y3.heap.size + 1 := by simp
  have b5 := below_box (y3.alloc (.cells #[.int .i64 3, .int .i64 0, .int .i64 0, .string noB, .int .i64 0, .slice al3 0 cl3] 28)) (.cells (encV (yesV true)).toArray 25)
  have HA5 := (HA4.later b5).vsl
  have HE5 := HE4.later b5
  have HB5 := below_next HB4 b5
  have HV5 := (own_one (y3.alloc (.cells #[.int .i64 3, .int .i64 0, .int .i64 0, .string noB, .int .i64 0, .slice al3 0 cl3] 28)) (y3.alloc (.cells #[.int .i64 3, .int .i64 0, .int .i64 0, .string noB, .int .i64 0, .slice al3 0 cl3] 28)).heap.size (Nat.le_refl _) (yesV true)).vsl
  rw [hq4] at HV5
  change VSl ((y3.alloc (.cells #[.int .i64 3, .int .i64 0, .int .i64 0, .string noB, .int .i64 0, .slice al3 0 cl3] 28)).alloc (.cells #[.int .i64 3, .int .i64 1, .string ⟨#[]⟩] 25)) _ _ at HA5 HV5
  change OwnV ((y3.alloc (.cells #[.int .i64 3, .int .i64 0, .int .i64 0, .string noB, .int .i64 0, .slice al3 0 cl3] 28)).alloc (.cells #[.int .i64 3, .int .i64 1, .string ⟨#[]⟩] 25)) _ _ _ at HE5
  change Below _ w ((y3.alloc (.cells #[.int .i64 3, .int .i64 0, .int .i64 0, .string noB, .int .i64 0, .slice al3 0 cl3] 28)).alloc (.cells #[.int .i64 3, .int .i64 1, .string ⟨#[]⟩] 25)) at HB5
  clear HA4 HE4 HB4 hq4 b4 b5 HA3 HE HB
  go_wp2_with fail
  generalize (y3.alloc (.cells #[.int .i64 3, .int .i64 0, .int .i64 0, .string noB, .int .i64 0, .slice al3 0 cl3] 28)).alloc (.cells #[.int .i64 3, .int .i64 1, .string ⟨#[]⟩] 25) = x5 at HA5 HV5 HE5 HB5 ⊢
  refine (same_any vo1 _ [yesV true] [yesV true] x5 HA5 HV5 (by simp)).mono ?_
  rintro e y5 ⟨rfl, hb5⟩
  rw [sameL_self]
  have b6 := below_box y5 (.cells (encV (yesV false)).toArray 25)
  have HE6 := ((HE5.later hb5).later b6).vsl
  have HB6 := below_next (below_next HB5 hb5) b6
  have HV6 := (own_one y5 y5.heap.size (Nat.le_refl _) (yesV false)).vsl
  change VSl (y5.alloc (.cells #[.int .i64 3, .int .i64 0, .string ⟨#[]⟩] 25)) _ _ at HE6 HV6
  change Below _ w (y5.alloc (.cells #[.int .i64 3, .int .i64 0, .string ⟨#[]⟩] 25)) at HB6
  clear HA5 HV5 HE5 HB5 hb5 b6
  go_wp2_with fail
  generalize y5.alloc (.cells #[.int .i64 3, .int .i64 0, .string ⟨#[]⟩] 25) = x6 at HE6 HV6 HB6 ⊢
  refine (same_any vo3 _ [yesV false] [yesV false] x6 HE6 HV6 (by simp)).mono ?_
  rintro e y6 ⟨rfl, hb6⟩
  rw [sameL_self]
  go_wp2
  go_ret
  exact ⟨rfl, below_next HB6 hb6⟩
end Go.Proofs.YtgiefgmhjcjabaaDoor
