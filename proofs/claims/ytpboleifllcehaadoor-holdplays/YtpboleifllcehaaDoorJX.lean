/- The program's New, may and turn are as the chapter says. Conditions: sizes; the table of signs lies in memory. -/
import Derived.Test.YtpboleifllcehaaDoorJF
import Derived.Test.YtpboleifllcehaaDoorUI
import Derived.Test.YtpboleifllcehaaDoorGR
namespace Go.Proofs.YtpboleifllcehaaDoor
open Go.RowKit Go.PlainAid Ln Go.Sort
set_option linter.unusedVariables false
set_option linter.unusedSimpArgs false

theorem encV_oneP (x : Val) : ∀ u ∈ encV x, u.oneCell' = true := by
  intro u hu; simp only [encV, List.mem_cons, List.not_mem_nil, or_false] at hu
  rcases hu with rfl | rfl | rfl <;> rfl
theorem new_isH (m : Int) (h : m = 7 ∨ m = 8) (w : World) : Calls Tryd.prog 8 #[.int .i64 m] w fun e w' => e = .returned (.tuple #[.agg (stC m noV nilS).toArray, .bool true]) ∧ Below w.heap.size w w' := by
  have R0 : Hid (Blk (w.alloc (.cells #[.int .i64 0, .int .i64 0, .int .i64 0, .string ⟨#[]⟩, .int .i64 0, .slice none 0 0] 28)) w.heap.size (stC 0 noV nilS) 28) := Blk.new w _ _
  have B0 : Hid (Below w.heap.size w (w.alloc (.cells #[.int .i64 0, .int .i64 0, .int .i64 0, .string ⟨#[]⟩, .int .i64 0, .slice none 0 0] 28))) := below_box w _
  rcases h with rfl | rfl
  · go_enter Tryd.func8, Tryd.ntmps8
    go_wp2_with (first
      | ((with_reducible refine wp_storeB 28 (.tmp 2) (.tmp 9) w.heap.size 0 (stC 7 noV nilS) (stC 0 noV nilS) 28 ?_ ?_ (stC_one _ _ rfl) ?_ ?_ ?_ R0.out ?_); (exact infoSt); (exact (show 0 + 6 ≤ 6 by decide)); (exact ⟨rfl, rfl⟩); (exact rfl); (exact rfl); (intro w2 D1 o2); (replace D1 : Blk w2 w.heap.size (stC 7 noV nilS) 28 := D1); (have HD : Hid (Blk w2 w.heap.size (stC 7 noV nilS) 28) := D1); (have HB2 : Hid (Below w.heap.size w w2) := below_oth B0.out o2 (Nat.le_refl _) (Nat.le_refl _) B0.out.size); (clear D1 o2)))
    refine ret_blk2 rfl w.heap.size (stC 7 noV nilS) 28 _ (.bool true) Tryd.underlying28 rfl infoSt rfl HD.out rfl rfl ?_
    exact ⟨rfl, HB2.out⟩
  · go_enter Tryd.func8, Tryd.ntmps8
    go_wp2_with (first
      | ((with_reducible refine wp_storeB 28 (.tmp 2) (.tmp 9) w.heap.size 0 (stC 8 noV nilS) (stC 0 noV nilS) 28 ?_ ?_ (stC_one _ _ rfl) ?_ ?_ ?_ R0.out ?_); (exact infoSt); (exact (show 0 + 6 ≤ 6 by decide)); (exact ⟨rfl, rfl⟩); (exact rfl); (exact rfl); (intro w2 D1 o2); (replace D1 : Blk w2 w.heap.size (stC 8 noV nilS) 28 := D1); (have HD : Hid (Blk w2 w.heap.size (stC 8 noV nilS) 28) := D1); (have HB2 : Hid (Below w.heap.size w w2) := below_oth B0.out o2 (Nat.le_refl _) (Nat.le_refl _) B0.out.size); (clear D1 o2)))
    refine ret_blk2 rfl w.heap.size (stC 8 noV nilS) 28 _ (.bool true) Tryd.underlying28 rfl infoSt rfl HD.out rfl rfl ?_
    exact ⟨rfl, HB2.out⟩
theorem new_noH (m : Int) (h5 : m ≠ 7) (h6 : m ≠ 8) (w : World) : Calls Tryd.prog 8 #[.int .i64 m] w fun e w' => e = .returned (.tuple #[.agg (stC 0 noV nilS).toArray, .bool false]) ∧ Below w.heap.size w w' := by
  have e5 : (m == 7) = false := by simp [h5]
  have e6 : (m == 8) = false := by simp [h6]
  have R0 : Hid (Blk (w.alloc (.cells #[.int .i64 0, .int .i64 0, .int .i64 0, .string ⟨#[]⟩, .int .i64 0, .slice none 0 0] 28)) w.heap.size (stC 0 noV nilS) 28) := Blk.new w _ _
  have B0 : Hid (Below w.heap.size w (w.alloc (.cells #[.int .i64 0, .int .i64 0, .int .i64 0, .string ⟨#[]⟩, .int .i64 0, .slice none 0 0] 28))) := below_box w _
  go_enter Tryd.func8, Tryd.ntmps8
  go_wp2_with (first
    | ((with_reducible refine wp_storeB 28 (.tmp 2) (.tmp 10) w.heap.size 0 (stC 0 noV nilS) (stC 0 noV nilS) 28 ?_ ?_ (stC_one _ _ rfl) ?_ ?_ ?_ R0.out ?_); (exact infoSt); (exact (show 0 + 6 ≤ 6 by decide)); (exact ⟨rfl, rfl⟩); (exact rfl); (exact rfl); (intro w2 D1 o2); (replace D1 : Blk w2 w.heap.size (stC 0 noV nilS) 28 := D1); (have HD : Hid (Blk w2 w.heap.size (stC 0 noV nilS) 28) := D1); (have HB2 : Hid (Below w.heap.size w w2) := below_oth B0.out o2 (Nat.le_refl _) (Nat.le_refl _) B0.out.size); (clear D1 o2)))
  refine ret_blk2 rfl w.heap.size (stC 0 noV nilS) 28 _ (.bool false) Tryd.underlying28 rfl infoSt rfl HD.out rfl rfl ?_
  exact ⟨rfl, HB2.out⟩
theorem new_anyH (m : Int) (w : World) : Calls Tryd.prog 8 #[.int .i64 m] w fun e w' => e = .returned (.tuple #[.agg (stC (if ownH m = true then m else 0) noV nilS).toArray, .bool (ownH m)]) ∧ Below w.heap.size w w' := by
  cases h : ownH m
  · rw [if_neg (by decide)]
    have h5 : m ≠ 7 := fun e => by rw [(ownH_iff m).2 (.inl e)] at h; cases h
    have h6 : m ≠ 8 := fun e => by rw [(ownH_iff m).2 (.inr e)] at h; cases h
    exact new_noH m h5 h6 w
  · rw [if_pos rfl]
    exact new_isH m ((ownH_iff m).1 h) w
set_option maxHeartbeats 4000000 in
/-- may the program's step be? -/
theorem may_anyH (m : Int) (c : Val) (o : Int) (va : Value) (xs : List Val) (w : World) (ht : Tb w) (hv : VSl w va xs) (hs : SzV xs) (hc : c.2.2.size ≤ 4611686018427387904) :
    Calls Tryd.prog 22 #[.int .i64 m, .agg #[.int .i64 c.1, .int .i64 c.2.1, .string c.2.2], .int .i64 o, va] w fun e w' => e = .returned (.bool (ownH m && mayD m ⟨c, o, xs⟩)) ∧ Below w.heap.size w w' := by
  have hT := fun w => takes_any 0 c.1 c.2.1 c.2.2 w hc
  have HF : Hid (∀ w', Below w.heap.size w w' → Calls Tryd.prog 31 #[.int .i64 m, .int .i64 o, va] w' fun e w1 => e = .returned (.bool (fi m o && fitsL (fr m o).inn xs)) ∧ Below w'.heap.size w' w1) := fun w' hb => fits_any m o va xs w' (ht.later hb) (hv.later hb) hs.1 hs.2
  have HX : Hid (Blk (w.alloc (.cells #[.int .i64 c.1, .int .i64 c.2.1, .string c.2.2] 25)) w.heap.size (encV c) 25) := Blk.new w _ 25
  have HB : Hid (Below w.heap.size w (w.alloc (.cells #[.int .i64 c.1, .int .i64 c.2.1, .string c.2.2] 25))) := below_box w _
  rw [takesB_n (by decide)] at hT
  have e : (ownH m && mayD m ⟨c, o, xs⟩) = (ownH m && (nameB c.1 c.2.1 c.2.2 && (fi m o && fitsL (fr m o).inn xs))) := rfl
  have HN : Hid (∀ w, Calls Tryd.prog 8 #[.int .i64 m] w fun e w' => e = .returned (.tuple #[.agg (stC (if ownH m = true then m else 0) noV nilS).toArray, .bool (ownH m)]) ∧ Below w.heap.size w w') := fun w => new_anyH m w
  rw [e]
  clear e hv hs ht
  generalize nameB c.1 c.2.1 c.2.2 = b2 at *
  generalize (fi m o && fitsL (fr m o).inn xs) = b3 at *
  obtain ⟨k, hk⟩ : ∃ k, (if ownH m = true then m else 0) = k := ⟨_, rfl⟩
  rw [hk] at HN
  clear hk
  generalize ownH m = b1 at *
  have hN := HN.out
  simp only [stC, noV] at hN
  clear HN
  go_enter Tryd.func22, Tryd.ntmps22
  go_wp2_with fail
  refine (hN _).mono ?_
  rintro e w2 ⟨rfl, hb2⟩
  have bx := below_box w2 (.cells (stC k noV nilS).toArray 28)
  change Below _ w2 (w2.alloc (.cells #[.int .i64 k, .int .i64 0, .int .i64 0, .string noB, .int .i64 0, .slice none 0 0] 28)) at bx
  have HB3 : Hid (Below w.heap.size w (w2.alloc (.cells #[.int .i64 k, .int .i64 0, .int .i64 0, .string noB, .int .i64 0, .slice none 0 0] 28))) := below_next (below_next HB.out hb2) bx
  obtain ⟨c0, c1, c2⟩ := v_cells ((HX.out.later hb2).later bx)
  clear hb2 bx HX HB hN
  cases b1
  · go_wp2_with fail
    go_ret
    exact ⟨rfl, HB3.out⟩
  cases b2
  · go_wp2_with (first
      | (go_at_call 30; refine (hT _).mono ?_; rintro e w4 ⟨rfl, hb4⟩))
    go_ret
    exact ⟨rfl, below_next HB3.out hb4⟩
  go_wp2_with (first
    | (go_at_call 30; refine (hT _).mono ?_; rintro e w4 ⟨rfl, hb4⟩)
    | (go_at_call 31; refine (HF.out _ (below_next HB3.out hb4)).mono ?_; rintro e w5 ⟨rfl, hb5⟩))
  go_ret
  exact ⟨by cases b3 <;> rfl, below_next (below_next HB3.out hb4) hb5⟩
theorem flag_anyH (n : Int) (w : World) : Calls Tryd.prog 32 #[.int .i64 n] w fun e w' => e = .returned (.agg #[.int .i64 3, .int .i64 n, .string noB]) ∧ Below w.heap.size w w' := by
  go_enter Tryd.func32, Tryd.ntmps32
  go_wp2
  refine bodyPost_ret (v := .agg #[.int .i64 3, .int .i64 n, .string noB]) (by simp [results, Tryd.f32, go_sem]; rfl) rfl ?_
  exact ⟨rfl, by first | exact below_more (Below.refl _ _) _ | skip⟩
/-- two results, each in a block of its own -/
theorem ret_two {P : Program} {fn : Func} {R : Ending → World → Prop} {a : Act} {w : World} {p p' : Tmp} {ty ty' : TypeId} (h : fn.results = #[.cell p ty, .cell p' ty']) (g g' : Nat) (c c' : List Value) (t t' : TypeId) (d d' : TypeDesc)
    (hu : P.underlying ty = some d) (hd : d.isRow = true) (hi : (P.info? ty).map (·.size) = some c.length) (hu' : P.underlying ty' = some d') (hd' : d'.isRow = true) (hi' : (P.info? ty').map (·.size) = some c'.length)
    (hp : a.tmps.getD p undef = .pointer (some ⟨g, 0, none⟩)) (hr : Blk w g c t) (hp1 : a.tmps.getD p' undef = .pointer (some ⟨g', 0, none⟩)) (hr' : Blk w g' c' t') (hdef : a.defers = []) (hR : R (.returned (.tuple #[.agg c.toArray, .agg c'.toArray])) w) : bodyPost P fn R .ret a w := by
  refine bodyPost_ret (v := .tuple #[.agg c.toArray, .agg c'.toArray]) ?_ hdef hR
  have hp' : a.tmps[p]?.getD undef = .pointer (some ⟨g, 0, none⟩) := by simpa using hp
  have hp1' : a.tmps[p']?.getD undef = .pointer (some ⟨g', 0, none⟩) := by simpa using hp1
  have hl : (loadVar ty ⟨g, 0, none⟩).run P w = .ok (.agg c.toArray) w := by
    refine run_loadVar_row w g t ty c.toArray (0, 0) d hr hu ?_ (by simpa using hi)
    cases d <;> simp_all [TypeDesc.isRow]
  have hl' : (loadVar ty' ⟨g', 0, none⟩).run P w = .ok (.agg c'.toArray) w := by
    refine run_loadVar_row w g' t' ty' c'.toArray (0, 0) d' hr' hu' ?_ (by simpa using hi')
    cases d' <;> simp_all [TypeDesc.isRow]
  simp [results, h, hp', hp1', asAddr, hl, hl']
theorem five_laid (w : World) (a b c d e : List Value) (s t u v x : TypeId) :
    Blk (((((w.alloc (.cells a.toArray s)).alloc (.cells b.toArray t)).alloc (.cells c.toArray u)).alloc (.cells d.toArray v)).alloc (.cells e.toArray x)) w.heap.size a s ∧
    Blk (((((w.alloc (.cells a.toArray s)).alloc (.cells b.toArray t)).alloc (.cells c.toArray u)).alloc (.cells d.toArray v)).alloc (.cells e.toArray x)) (w.heap.size + 1) b t ∧
    Blk (((((w.alloc (.cells a.toArray s)).alloc (.cells b.toArray t)).alloc (.cells c.toArray u)).alloc (.cells d.toArray v)).alloc (.cells e.toArray x)) (w.heap.size + 1 + 1) c u ∧
    Blk (((((w.alloc (.cells a.toArray s)).alloc (.cells b.toArray t)).alloc (.cells c.toArray u)).alloc (.cells d.toArray v)).alloc (.cells e.toArray x)) (w.heap.size + 1 + 1 + 1) d v ∧
    Blk (((((w.alloc (.cells a.toArray s)).alloc (.cells b.toArray t)).alloc (.cells c.toArray u)).alloc (.cells d.toArray v)).alloc (.cells e.toArray x)) (w.heap.size + 1 + 1 + 1 + 1) e x ∧
    Below w.heap.size w (((((w.alloc (.cells a.toArray s)).alloc (.cells b.toArray t)).alloc (.cells c.toArray u)).alloc (.cells d.toArray v)).alloc (.cells e.toArray x)) := by
  obtain ⟨t1, t2, t3, t4⟩ := three_laid w a b c s t u
  refine ⟨(t1.alloc _).alloc _, (t2.alloc _).alloc _, (t3.alloc _).alloc _, ?_, ?_, below_more (below_more t4 _) _⟩
  · have := (Blk.new (((w.alloc (.cells a.toArray s)).alloc (.cells b.toArray t)).alloc (.cells c.toArray u)) d v).alloc (.cells e.toArray x)
    simpa using this
  · have := Blk.new ((((w.alloc (.cells a.toArray s)).alloc (.cells b.toArray t)).alloc (.cells c.toArray u)).alloc (.cells d.toArray v)) e x
    simpa using this
set_option maxRecDepth 100000 in
set_option maxHeartbeats 16000000 in
theorem turn_take (h c : Val) (hh : h = noV) (w : World) : Calls Tryd.prog 23 #[.agg #[.int .i64 h.1, .int .i64 h.2.1, .string h.2.2], .agg #[.int .i64 c.1, .int .i64 c.2.1, .string c.2.2], .int .i64 11] w fun e w' => e = .returned (.tuple #[.agg (encV c).toArray, .agg (encV (yesV true)).toArray]) ∧ Below w.heap.size w w' := by
  have mixed : Tryd.prog.follows .mixedOrders = true := by kernel_rfl
  have hq := fun w => eqV h.1 h.2.1 0 0 h.2.2 noB w
  rw [show eqvB h.1 h.2.1 h.2.2 0 0 noB = true from (eqvB_iff _ _ _ _ _ _).2 hh] at hq
  have hg := eqgV
  clear hh
  have T := five_laid w (encV h) (encV c) (encV noV) (encV noV) (encV noV) 25 25 25 25 25
  have R1 : Hid (Blk (((((w.alloc (.cells #[.int .i64 h.1, .int .i64 h.2.1, .string h.2.2] 25)).alloc (.cells #[.int .i64 c.1, .int .i64 c.2.1, .string c.2.2] 25)).alloc (.cells #[.int .i64 0, .int .i64 0, .string ⟨#[]⟩] 25)).alloc (.cells #[.int .i64 0, .int .i64 0, .string ⟨#[]⟩] 25)).alloc (.cells #[.int .i64 0, .int .i64 0, .string ⟨#[]⟩] 25)) (w.heap.size) (encV h) 25) := T.1
  have R2 : Hid (Blk (((((w.alloc (.cells #[.int .i64 h.1, .int .i64 h.2.1, .string h.2.2] 25)).alloc (.cells #[.int .i64 c.1, .int .i64 c.2.1, .string c.2.2] 25)).alloc (.cells #[.int .i64 0, .int .i64 0, .string ⟨#[]⟩] 25)).alloc (.cells #[.int .i64 0, .int .i64 0, .string ⟨#[]⟩] 25)).alloc (.cells #[.int .i64 0, .int .i64 0, .string ⟨#[]⟩] 25)) (w.heap.size + 1) (encV c) 25) := T.2.1
  have R3 : Hid (Blk (((((w.alloc (.cells #[.int .i64 h.1, .int .i64 h.2.1, .string h.2.2] 25)).alloc (.cells #[.int .i64 c.1, .int .i64 c.2.1, .string c.2.2] 25)).alloc (.cells #[.int .i64 0, .int .i64 0, .string ⟨#[]⟩] 25)).alloc (.cells #[.int .i64 0, .int .i64 0, .string ⟨#[]⟩] 25)).alloc (.cells #[.int .i64 0, .int .i64 0, .string ⟨#[]⟩] 25)) (w.heap.size + 1 + 1) (encV noV) 25) := T.2.2.1
  have R4 : Hid (Blk (((((w.alloc (.cells #[.int .i64 h.1, .int .i64 h.2.1, .string h.2.2] 25)).alloc (.cells #[.int .i64 c.1, .int .i64 c.2.1, .string c.2.2] 25)).alloc (.cells #[.int .i64 0, .int .i64 0, .string ⟨#[]⟩] 25)).alloc (.cells #[.int .i64 0, .int .i64 0, .string ⟨#[]⟩] 25)).alloc (.cells #[.int .i64 0, .int .i64 0, .string ⟨#[]⟩] 25)) (w.heap.size + 1 + 1 + 1) (encV noV) 25) := T.2.2.2.1
  have R5 : Hid (Blk (((((w.alloc (.cells #[.int .i64 h.1, .int .i64 h.2.1, .string h.2.2] 25)).alloc (.cells #[.int .i64 c.1, .int .i64 c.2.1, .string c.2.2] 25)).alloc (.cells #[.int .i64 0, .int .i64 0, .string ⟨#[]⟩] 25)).alloc (.cells #[.int .i64 0, .int .i64 0, .string ⟨#[]⟩] 25)).alloc (.cells #[.int .i64 0, .int .i64 0, .string ⟨#[]⟩] 25)) (w.heap.size + 1 + 1 + 1 + 1) (encV noV) 25) := T.2.2.2.2.1
  have RB : Hid (Below w.heap.size w (((((w.alloc (.cells #[.int .i64 h.1, .int .i64 h.2.1, .string h.2.2] 25)).alloc (.cells #[.int .i64 c.1, .int .i64 c.2.1, .string c.2.2] 25)).alloc (.cells #[.int .i64 0, .int .i64 0, .string ⟨#[]⟩] 25)).alloc (.cells #[.int .i64 0, .int .i64 0, .string ⟨#[]⟩] 25)).alloc (.cells #[.int .i64 0, .int .i64 0, .string ⟨#[]⟩] 25))) := T.2.2.2.2.2
  clear T
  go_enter Tryd.func23, Tryd.ntmps23
  go_wp2_with (first
    | ((with_reducible refine wp_storeB 25 (.tmp 8) (.tmp 9) (w.heap.size + 1 + 1 + 1 + 1) 0 (encV noV) (encV noV) 25 ?_ ?_ (encV_oneP _) ?_ ?_ ?_ R5.out ?_); (exact infoVv); (exact (show 0 + 3 ≤ 3 by decide)); (exact ⟨rfl, rfl⟩); (exact rfl); (exact rfl); (intro w2 D1 o2); (replace D1 : Blk w2 (w.heap.size + 1 + 1 + 1 + 1) (encV noV) 25 := D1); (have H5 : Hid (Blk w2 (w.heap.size + 1 + 1 + 1 + 1) (encV noV) 25) := D1); (have H1 : Hid (Blk w2 (w.heap.size) (encV h) 25) := R1.out.oth o2 (by omega) (by omega)); (have H2 : Hid (Blk w2 (w.heap.size + 1) (encV c) 25) := R2.out.oth o2 (by omega) (by omega)); (have H3 : Hid (Blk w2 (w.heap.size + 1 + 1) (encV noV) 25) := R3.out.oth o2 (by omega) (by omega)); (have H4 : Hid (Blk w2 (w.heap.size + 1 + 1 + 1) (encV noV) 25) := R4.out.oth o2 (by omega) (by omega)); (have HB : Hid (Below w.heap.size w w2) := below_oth RB.out o2 (by omega) (by omega) RB.out.size); (obtain ⟨a0, a1, a2⟩ := v_cells H1.out); (obtain ⟨b0, b1, b2⟩ := v_cells H2.out); (obtain ⟨z0, z1, z2⟩ := v_cells H5.out); (simp only [noV] at z0 z1 z2); (clear D1 o2 R1 R2 R3 R4 R5 RB)))
  clear a0 a1 a2 b0 b1 b2 z0 z1 z2 hg hq
  rename_i K9 hK9
  have HN : Hid (w.heap.size ≤ w.heap.size + 1 + 1 ∧ w.heap.size ≤ w.heap.size + 1 + 1 + 1 ∧ w.heap.size + 1 + 1 ≠ w.heap.size + 1 + 1 + 1 ∧ w.heap.size + 1 ≠ w.heap.size + 1 + 1 ∧ w.heap.size + 1 ≠ w.heap.size + 1 + 1 + 1) := (by omega : w.heap.size ≤ w.heap.size + 1 + 1 ∧ w.heap.size ≤ w.heap.size + 1 + 1 + 1 ∧ w.heap.size + 1 + 1 ≠ w.heap.size + 1 + 1 + 1 ∧ w.heap.size + 1 ≠ w.heap.size + 1 + 1 ∧ w.heap.size + 1 ≠ w.heap.size + 1 + 1 + 1)
  generalize w.heap.size + 1 + 1 + 1 + 1 = p4 at *
  generalize w.heap.size + 1 + 1 + 1 = p3 at *
  generalize w.heap.size + 1 + 1 = p2 at *
  generalize w.heap.size + 1 = p1 at *
  obtain ⟨I, hI⟩ : ∃ I : (Nat → Bool) → Act → World → Prop, ∀ L act wx, I L act wx ↔ (fun (L : Nat → Bool) (act : Act) (wx : World) => ∃ (t20 : Value) (t21 : Value) , act = ⟨#[Value.agg #[Value.int .i64 h.1, Value.int .i64 h.2.1, Value.string h.2.2], Value.agg #[Value.int .i64 c.1, Value.int .i64 c.2.1, Value.string c.2.2], Value.int .i64 11, Value.pointer (some ⟨w.heap.size, 0, none⟩), Value.pointer (some ⟨p1, 0, none⟩), undef, Value.pointer (some ⟨p2, 0, none⟩), Value.pointer (some ⟨p3, 0, none⟩), Value.pointer (some ⟨p4, 0, none⟩), Value.agg #[Value.int .i64 0, Value.int .i64 0, Value.string ⟨#[]⟩], Value.bool true, Value.int .i64 11, Value.bool true, undef, undef, undef, undef, Value.agg #[Value.int .i64 h.1, Value.int .i64 h.2.1, Value.string h.2.2], Value.agg #[Value.int .i64 0, Value.int .i64 0, Value.string noB], Value.bool true, t20, t21, undef, undef, undef, undef], []⟩ ∧ Hid (Below w.heap.size w wx) ∧ Hid (L 2 = false → Blk wx p2 (encV noV) 25) ∧ Hid (L 3 = false → Blk wx p3 (encV noV) 25) ∧ Hid (Blk wx p1 (encV c) 25) ∧ Hid (L 0 = true → t20 = .agg #[.int .i64 c.1, .int .i64 c.2.1, .string c.2.2]) ∧ Hid (L 1 = true → t21 = .agg #[.int .i64 3, .int .i64 1, .string noB]) ∧ Hid (L 2 = true → Blk wx p2 (encV c) 25) ∧ Hid (L 3 = true → Blk wx p3 (encV (3, 1, noB)) 25)) L act wx := ⟨_, fun _ _ _ => Iff.rfl⟩
  dsimp only at hI
  have HI : Hid (∀ L act wx, I L act wx ↔ _) := hI
  clear hI
  refine wp_region_inv mixed [[], [], [0, 1], [0, 1, 2]] (by kernel_rfl) I ?_ ?_ ?_
  · refine (HI.out _ _ _).2 ⟨_, _, rfl, ?_, ?_, ?_, ?_, fun h => Bool.noConfusion h, fun h => Bool.noConfusion h, fun h => Bool.noConfusion h, fun h => Bool.noConfusion h⟩
    · exact below_next HB.out (Stay.drew _)
    · exact fun _ => H3.out.later (Stay.drew _)
    · exact fun _ => H4.out.later (Stay.drew _)
    · exact H2.out.later (Stay.drew _)
  · intro i hi L act wx hIa hLi hcl hanc
    obtain ⟨t20, t21, rfl, HS, E0, E1, E2, F0, F1, F2, F3⟩ := (HI.out _ _ _).1 hIa
    clear hIa
    have hi' : i = 0 ∨ i = 1 ∨ i = 2 ∨ i = 3 := by have hi : i < 4 := hi; omega
    clear hi
    rcases hi' with rfl | rfl | rfl | rfl
    · refine wpOp_doG 0 (by rfl) (by rfl) ?_
      refine wp_load_mid 25 (.tmp 4) rfl p1 0 rfl (encV c) _ (Blk.all E2.out) Tryd.underlying25 rfl infoVv ?_
      simp only [Act.put, List.setIfInBounds_toArray, List.set_cons_zero, List.set_cons_succ]
      have hb : Below wx.heap.size wx wx := Below.refl _ _
      show I (putL L 0) _ _
      exact (HI.out (putL L 0) _ _).2 ⟨_, _, rfl, below_next HS.out hb, fun h => (E0.out ((putL_ne (i := 0) (by decide)).symm.trans h)).later hb, fun h => (E1.out ((putL_ne (i := 0) (by decide)).symm.trans h)).later hb, E2.out.later hb, fun _ => rfl, fun h => (by first | exact F1.out ((putL_ne (i := 0) (by decide)).symm.trans h) | rfl), fun h => absurd (hcl 2 ((putL_ne (i := 0) (by decide)).symm.trans h) 0 (by decide)) (by rw [hLi]; decide), fun h => absurd (hcl 3 ((putL_ne (i := 0) (by decide)).symm.trans h) 0 (by decide)) (by rw [hLi]; decide)⟩
    · refine wpOp_doG 1 (by rfl) (by rfl) ?_
      go_wp2_with fail
      refine (flag_anyH 1 wx).mono ?_
      rintro e9 wn ⟨rfl, hb⟩
      show I (putL L 1) _ _
      exact (HI.out (putL L 1) _ _).2 ⟨_, _, rfl, below_next HS.out hb, fun h => (E0.out ((putL_ne (i := 1) (by decide)).symm.trans h)).later hb, fun h => (E1.out ((putL_ne (i := 1) (by decide)).symm.trans h)).later hb, E2.out.later hb, fun h => (by first | exact F0.out ((putL_ne (i := 1) (by decide)).symm.trans h) | rfl), fun _ => rfl, fun h => absurd (hcl 2 ((putL_ne (i := 1) (by decide)).symm.trans h) 1 (by decide)) (by rw [hLi]; decide), fun h => absurd (hcl 3 ((putL_ne (i := 1) (by decide)).symm.trans h) 1 (by decide)) (by rw [hLi]; decide)⟩
    · have f0 := F0.out (hanc 0 (by decide))
      have f1 := F1.out (hanc 1 (by decide))
      have g0 := f0
      subst g0
      have BS := E0.out hLi
      refine wpOp_doG 2 (by rfl) (by rfl) ?_
      refine wpo_storeB 25 (.tmp 6) (.tmp 20) p2 0 (encV c) (encV noV) 25 infoVv (show 0 + 3 ≤ 3 by decide) (encV_oneP _) rfl rfl rfl BS ?_
      intro wn BP ho
      replace BP : Blk wn p2 (encV c) 25 := BP
      simp only [Act.put, List.setIfInBounds_toArray, List.set_cons_zero, List.set_cons_succ]
      show I (putL L 2) _ _
      exact (HI.out (putL L 2) _ _).2 ⟨_, _, rfl, below_oth HS.out ho HN.out.1 HN.out.1 HS.out.size, fun h => (by rw [putL_self] at h; cases h), fun h => (E1.out ((putL_ne (i := 2) (by decide)).symm.trans h)).oth ho (Ne.symm HN.out.2.2.1) (Ne.symm HN.out.2.2.1), E2.out.oth ho HN.out.2.2.2.1 HN.out.2.2.2.1, fun h => (by first | exact F0.out ((putL_ne (i := 2) (by decide)).symm.trans h) | rfl), fun h => (by first | exact F1.out ((putL_ne (i := 2) (by decide)).symm.trans h) | rfl), fun _ => BP, fun h => absurd (hcl 3 ((putL_ne (i := 2) (by decide)).symm.trans h) 2 (by decide)) (by rw [hLi]; decide)⟩
    · have f0 := F0.out (hanc 0 (by decide))
      have f1 := F1.out (hanc 1 (by decide))
      have f2 := F2.out (hanc 2 (by decide))
      have g1 := f1
      subst g1
      have BS := E1.out hLi
      refine wpOp_doG 3 (by rfl) (by rfl) ?_
      refine wpo_storeB 25 (.tmp 7) (.tmp 21) p3 0 (encV (3, 1, noB)) (encV noV) 25 infoVv (show 0 + 3 ≤ 3 by decide) (encV_oneP _) rfl rfl rfl BS ?_
      intro wn BP ho
      replace BP : Blk wn p3 (encV (3, 1, noB)) 25 := BP
      simp only [Act.put, List.setIfInBounds_toArray, List.set_cons_zero, List.set_cons_succ]
      show I (putL L 3) _ _
      exact (HI.out (putL L 3) _ _).2 ⟨_, _, rfl, below_oth HS.out ho HN.out.2.1 HN.out.2.1 HS.out.size, fun h => (E0.out ((putL_ne (i := 3) (by decide)).symm.trans h)).oth ho HN.out.2.2.1 HN.out.2.2.1, fun h => (by rw [putL_self] at h; cases h), E2.out.oth ho HN.out.2.2.2.2 HN.out.2.2.2.2, fun h => (by first | exact F0.out ((putL_ne (i := 3) (by decide)).symm.trans h) | rfl), fun h => (by first | exact F1.out ((putL_ne (i := 3) (by decide)).symm.trans h) | rfl), fun h => (fun q => q.oth ho (HN.out.2.2.1) (HN.out.2.2.1)) (F2.out ((putL_ne (i := 3) (by decide)).symm.trans h)), fun _ => BP⟩
  · intro L act wx hall hIa
    obtain ⟨t20, t21, rfl, HS, E0, E1, E2, F0, F1, F2, F3⟩ := (HI.out _ _ _).1 hIa
    have f0 := F0.out (hall 0 (by decide))
    have f1 := F1.out (hall 1 (by decide))
    have f2 := F2.out (hall 2 (by decide))
    have f3 := F3.out (hall 3 (by decide))
    clear hIa HI F0 F1 F2 F3
    show K9 _ _
    apply hK9
    clear hK9
    have HD2 : Hid (Blk wx p2 (encV c) 25) := f2
    have HD3 : Hid (Blk wx p3 (encV (3, 1, noB)) 25) := f3
    clear E0 E1 E2 f0 f1 f2 f3
    go_wp2
    refine ret_two rfl p2 p3 (encV c) (encV (3, 1, noB)) 25 25 _ _ Tryd.underlying25 rfl infoVv Tryd.underlying25 rfl infoVv rfl HD2.out rfl HD3.out rfl ?_
    exact ⟨rfl, HS.out⟩
set_option maxRecDepth 100000 in
set_option maxHeartbeats 16000000 in
theorem turn_held (h c : Val) (hh : h ≠ noV) (w : World) : Calls Tryd.prog 23 #[.agg #[.int .i64 h.1, .int .i64 h.2.1, .string h.2.2], .agg #[.int .i64 c.1, .int .i64 c.2.1, .string c.2.2], .int .i64 11] w fun e w' => e = .returned (.tuple #[.agg (encV h).toArray, .agg (encV (yesV false)).toArray]) ∧ Below w.heap.size w w' := by
  have mixed : Tryd.prog.follows .mixedOrders = true := by kernel_rfl
  have hq := fun w => eqV h.1 h.2.1 0 0 h.2.2 noB w
  rw [show eqvB h.1 h.2.1 h.2.2 0 0 noB = false from Bool.eq_false_iff.2 fun k => hh ((eqvB_iff _ _ _ _ _ _).1 k)] at hq
  have hg := eqgV
  clear hh
  have T := five_laid w (encV h) (encV c) (encV noV) (encV noV) (encV noV) 25 25 25 25 25
  have R1 : Hid (Blk (((((w.alloc (.cells #[.int .i64 h.1, .int .i64 h.2.1, .string h.2.2] 25)).alloc (.cells #[.int .i64 c.1, .int .i64 c.2.1, .string c.2.2] 25)).alloc (.cells #[.int .i64 0, .int .i64 0, .string ⟨#[]⟩] 25)).alloc (.cells #[.int .i64 0, .int .i64 0, .string ⟨#[]⟩] 25)).alloc (.cells #[.int .i64 0, .int .i64 0, .string ⟨#[]⟩] 25)) (w.heap.size) (encV h) 25) := T.1
  have R2 : Hid (Blk (((((w.alloc (.cells #[.int .i64 h.1, .int .i64 h.2.1, .string h.2.2] 25)).alloc (.cells #[.int .i64 c.1, .int .i64 c.2.1, .string c.2.2] 25)).alloc (.cells #[.int .i64 0, .int .i64 0, .string ⟨#[]⟩] 25)).alloc (.cells #[.int .i64 0, .int .i64 0, .string ⟨#[]⟩] 25)).alloc (.cells #[.int .i64 0, .int .i64 0, .string ⟨#[]⟩] 25)) (w.heap.size + 1) (encV c) 25) := T.2.1
  have R3 : Hid (Blk (((((w.alloc (.cells #[.int .i64 h.1, .int .i64 h.2.1, .string h.2.2] 25)).alloc (.cells #[.int .i64 c.1, .int .i64 c.2.1, .string c.2.2] 25)).alloc (.cells #[.int .i64 0, .int .i64 0, .string ⟨#[]⟩] 25)).alloc (.cells #[.int .i64 0, .int .i64 0, .string ⟨#[]⟩] 25)).alloc (.cells #[.int .i64 0, .int .i64 0, .string ⟨#[]⟩] 25)) (w.heap.size + 1 + 1) (encV noV) 25) := T.2.2.1
  have R4 : Hid (Blk (((((w.alloc (.cells #[.int .i64 h.1, .int .i64 h.2.1, .string h.2.2] 25)).alloc (.cells #[.int .i64 c.1, .int .i64 c.2.1, .string c.2.2] 25)).alloc (.cells #[.int .i64 0, .int .i64 0, .string ⟨#[]⟩] 25)).alloc (.cells #[.int .i64 0, .int .i64 0, .string ⟨#[]⟩] 25)).alloc (.cells #[.int .i64 0, .int .i64 0, .string ⟨#[]⟩] 25)) (w.heap.size + 1 + 1 + 1) (encV noV) 25) := T.2.2.2.1
  have R5 : Hid (Blk (((((w.alloc (.cells #[.int .i64 h.1, .int .i64 h.2.1, .string h.2.2] 25)).alloc (.cells #[.int .i64 c.1, .int .i64 c.2.1, .string c.2.2] 25)).alloc (.cells #[.int .i64 0, .int .i64 0, .string ⟨#[]⟩] 25)).alloc (.cells #[.int .i64 0, .int .i64 0, .string ⟨#[]⟩] 25)).alloc (.cells #[.int .i64 0, .int .i64 0, .string ⟨#[]⟩] 25)) (w.heap.size + 1 + 1 + 1 + 1) (encV noV) 25) := T.2.2.2.2.1
  have RB : Hid (Below w.heap.size w (((((w.alloc (.cells #[.int .i64 h.1, .int .i64 h.2.1, .string h.2.2] 25)).alloc (.cells #[.int .i64 c.1, .int .i64 c.2.1, .string c.2.2] 25)).alloc (.cells #[.int .i64 0, .int .i64 0, .string ⟨#[]⟩] 25)).alloc (.cells #[.int .i64 0, .int .i64 0, .string ⟨#[]⟩] 25)).alloc (.cells #[.int .i64 0, .int .i64 0, .string ⟨#[]⟩] 25))) := T.2.2.2.2.2
  clear T
  go_enter Tryd.func23, Tryd.ntmps23
  go_wp2_with (first
    | ((with_reducible refine wp_storeB 25 (.tmp 8) (.tmp 9) (w.heap.size + 1 + 1 + 1 + 1) 0 (encV noV) (encV noV) 25 ?_ ?_ (encV_oneP _) ?_ ?_ ?_ R5.out ?_); (exact infoVv); (exact (show 0 + 3 ≤ 3 by decide)); (exact ⟨rfl, rfl⟩); (exact rfl); (exact rfl); (intro w2 D1 o2); (replace D1 : Blk w2 (w.heap.size + 1 + 1 + 1 + 1) (encV noV) 25 := D1); (have H5 : Hid (Blk w2 (w.heap.size + 1 + 1 + 1 + 1) (encV noV) 25) := D1); (have H1 : Hid (Blk w2 (w.heap.size) (encV h) 25) := R1.out.oth o2 (by omega) (by omega)); (have H2 : Hid (Blk w2 (w.heap.size + 1) (encV c) 25) := R2.out.oth o2 (by omega) (by omega)); (have H3 : Hid (Blk w2 (w.heap.size + 1 + 1) (encV noV) 25) := R3.out.oth o2 (by omega) (by omega)); (have H4 : Hid (Blk w2 (w.heap.size + 1 + 1 + 1) (encV noV) 25) := R4.out.oth o2 (by omega) (by omega)); (have HB : Hid (Below w.heap.size w w2) := below_oth RB.out o2 (by omega) (by omega) RB.out.size); (obtain ⟨a0, a1, a2⟩ := v_cells H1.out); (obtain ⟨b0, b1, b2⟩ := v_cells H2.out); (obtain ⟨z0, z1, z2⟩ := v_cells H5.out); (simp only [noV] at z0 z1 z2); (clear D1 o2 R1 R2 R3 R4 R5 RB)))
  clear a0 a1 a2 b0 b1 b2 z0 z1 z2 hg hq
  rename_i K9 hK9
  have HN : Hid (w.heap.size ≤ w.heap.size + 1 + 1 ∧ w.heap.size ≤ w.heap.size + 1 + 1 + 1 ∧ w.heap.size + 1 + 1 ≠ w.heap.size + 1 + 1 + 1 ∧ w.heap.size ≠ w.heap.size + 1 + 1 ∧ w.heap.size ≠ w.heap.size + 1 + 1 + 1) := (by omega : w.heap.size ≤ w.heap.size + 1 + 1 ∧ w.heap.size ≤ w.heap.size + 1 + 1 + 1 ∧ w.heap.size + 1 + 1 ≠ w.heap.size + 1 + 1 + 1 ∧ w.heap.size ≠ w.heap.size + 1 + 1 ∧ w.heap.size ≠ w.heap.size + 1 + 1 + 1)
  generalize w.heap.size + 1 + 1 + 1 + 1 = p4 at *
  generalize w.heap.size + 1 + 1 + 1 = p3 at *
  generalize w.heap.size + 1 + 1 = p2 at *
  generalize w.heap.size + 1 = p1 at *
  obtain ⟨I, hI⟩ : ∃ I : (Nat → Bool) → Act → World → Prop, ∀ L act wx, I L act wx ↔ (fun (L : Nat → Bool) (act : Act) (wx : World) => ∃ (t22 : Value) (t23 : Value) , act = ⟨#[Value.agg #[Value.int .i64 h.1, Value.int .i64 h.2.1, Value.string h.2.2], Value.agg #[Value.int .i64 c.1, Value.int .i64 c.2.1, Value.string c.2.2], Value.int .i64 11, Value.pointer (some ⟨w.heap.size, 0, none⟩), Value.pointer (some ⟨p1, 0, none⟩), undef, Value.pointer (some ⟨p2, 0, none⟩), Value.pointer (some ⟨p3, 0, none⟩), Value.pointer (some ⟨p4, 0, none⟩), Value.agg #[Value.int .i64 0, Value.int .i64 0, Value.string ⟨#[]⟩], Value.bool true, Value.int .i64 11, Value.bool true, undef, undef, undef, undef, Value.agg #[Value.int .i64 h.1, Value.int .i64 h.2.1, Value.string h.2.2], Value.agg #[Value.int .i64 0, Value.int .i64 0, Value.string noB], Value.bool false, undef, undef, t22, t23, undef, undef], []⟩ ∧ Hid (Below w.heap.size w wx) ∧ Hid (L 2 = false → Blk wx p2 (encV noV) 25) ∧ Hid (L 3 = false → Blk wx p3 (encV noV) 25) ∧ Hid (Blk wx w.heap.size (encV h) 25) ∧ Hid (L 0 = true → t22 = .agg #[.int .i64 h.1, .int .i64 h.2.1, .string h.2.2]) ∧ Hid (L 1 = true → t23 = .agg #[.int .i64 3, .int .i64 0, .string noB]) ∧ Hid (L 2 = true → Blk wx p2 (encV h) 25) ∧ Hid (L 3 = true → Blk wx p3 (encV (3, 0, noB)) 25)) L act wx := ⟨_, fun _ _ _ => Iff.rfl⟩
  dsimp only at hI
  have HI : Hid (∀ L act wx, I L act wx ↔ _) := hI
  clear hI
  refine wp_region_inv mixed [[], [], [0, 1], [0, 1, 2]] (by kernel_rfl) I ?_ ?_ ?_
  · refine (HI.out _ _ _).2 ⟨_, _, rfl, ?_, ?_, ?_, ?_, fun h => Bool.noConfusion h, fun h => Bool.noConfusion h, fun h => Bool.noConfusion h, fun h => Bool.noConfusion h⟩
    · exact below_next HB.out (Stay.drew _)
    · exact fun _ => H3.out.later (Stay.drew _)
    · exact fun _ => H4.out.later (Stay.drew _)
    · exact H1.out.later (Stay.drew _)
  · intro i hi L act wx hIa hLi hcl hanc
    obtain ⟨t22, t23, rfl, HS, E0, E1, E2, F0, F1, F2, F3⟩ := (HI.out _ _ _).1 hIa
    clear hIa
    have hi' : i = 0 ∨ i = 1 ∨ i = 2 ∨ i = 3 := by have hi : i < 4 := hi; omega
    clear hi
    rcases hi' with rfl | rfl | rfl | rfl
    · refine wpOp_doG 0 (by rfl) (by rfl) ?_
      refine wp_load_mid 25 (.tmp 3) rfl w.heap.size 0 rfl (encV h) _ (Blk.all E2.out) Tryd.underlying25 rfl infoVv ?_
      simp only [Act.put, List.setIfInBounds_toArray, List.set_cons_zero, List.set_cons_succ]
      have hb : Below wx.heap.size wx wx := Below.refl _ _
      show I (putL L 0) _ _
      exact (HI.out (putL L 0) _ _).2 ⟨_, _, rfl, below_next HS.out hb, fun h => (E0.out ((putL_ne (i := 0) (by decide)).symm.trans h)).later hb, fun h => (E1.out ((putL_ne (i := 0) (by decide)).symm.trans h)).later hb, E2.out.later hb, fun _ => rfl, fun h => (by first | exact F1.out ((putL_ne (i := 0) (by decide)).symm.trans h) | rfl), fun h => absurd (hcl 2 ((putL_ne (i := 0) (by decide)).symm.trans h) 0 (by decide)) (by rw [hLi]; decide), fun h => absurd (hcl 3 ((putL_ne (i := 0) (by decide)).symm.trans h) 0 (by decide)) (by rw [hLi]; decide)⟩
    · refine wpOp_doG 1 (by rfl) (by rfl) ?_
      go_wp2_with fail
      refine (flag_anyH 0 wx).mono ?_
      rintro e9 wn ⟨rfl, hb⟩
      show I (putL L 1) _ _
      exact (HI.out (putL L 1) _ _).2 ⟨_, _, rfl, below_next HS.out hb, fun h => (E0.out ((putL_ne (i := 1) (by decide)).symm.trans h)).later hb, fun h => (E1.out ((putL_ne (i := 1) (by decide)).symm.trans h)).later hb, E2.out.later hb, fun h => (by first | exact F0.out ((putL_ne (i := 1) (by decide)).symm.trans h) | rfl), fun _ => rfl, fun h => absurd (hcl 2 ((putL_ne (i := 1) (by decide)).symm.trans h) 1 (by decide)) (by rw [hLi]; decide), fun h => absurd (hcl 3 ((putL_ne (i := 1) (by decide)).symm.trans h) 1 (by decide)) (by rw [hLi]; decide)⟩
    · have f0 := F0.out (hanc 0 (by decide))
      have f1 := F1.out (hanc 1 (by decide))
      have g0 := f0
      subst g0
      have BS := E0.out hLi
      refine wpOp_doG 2 (by rfl) (by rfl) ?_
      refine wpo_storeB 25 (.tmp 6) (.tmp 22) p2 0 (encV h) (encV noV) 25 infoVv (show 0 + 3 ≤ 3 by decide) (encV_oneP _) rfl rfl rfl BS ?_
      intro wn BP ho
      replace BP : Blk wn p2 (encV h) 25 := BP
      simp only [Act.put, List.setIfInBounds_toArray, List.set_cons_zero, List.set_cons_succ]
      show I (putL L 2) _ _
      exact (HI.out (putL L 2) _ _).2 ⟨_, _, rfl, below_oth HS.out ho HN.out.1 HN.out.1 HS.out.size, fun h => (by rw [putL_self] at h; cases h), fun h => (E1.out ((putL_ne (i := 2) (by decide)).symm.trans h)).oth ho (Ne.symm HN.out.2.2.1) (Ne.symm HN.out.2.2.1), E2.out.oth ho HN.out.2.2.2.1 HN.out.2.2.2.1, fun h => (by first | exact F0.out ((putL_ne (i := 2) (by decide)).symm.trans h) | rfl), fun h => (by first | exact F1.out ((putL_ne (i := 2) (by decide)).symm.trans h) | rfl), fun _ => BP, fun h => absurd (hcl 3 ((putL_ne (i := 2) (by decide)).symm.trans h) 2 (by decide)) (by rw [hLi]; decide)⟩
    · have f0 := F0.out (hanc 0 (by decide))
      have f1 := F1.out (hanc 1 (by decide))
      have f2 := F2.out (hanc 2 (by decide))
      have g1 := f1
      subst g1
      have BS := E1.out hLi
      refine wpOp_doG 3 (by rfl) (by rfl) ?_
      refine wpo_storeB 25 (.tmp 7) (.tmp 23) p3 0 (encV (3, 0, noB)) (encV noV) 25 infoVv (show 0 + 3 ≤ 3 by decide) (encV_oneP _) rfl rfl rfl BS ?_
      intro wn BP ho
      replace BP : Blk wn p3 (encV (3, 0, noB)) 25 := BP
      simp only [Act.put, List.setIfInBounds_toArray, List.set_cons_zero, List.set_cons_succ]
      show I (putL L 3) _ _
      exact (HI.out (putL L 3) _ _).2 ⟨_, _, rfl, below_oth HS.out ho HN.out.2.1 HN.out.2.1 HS.out.size, fun h => (E0.out ((putL_ne (i := 3) (by decide)).symm.trans h)).oth ho HN.out.2.2.1 HN.out.2.2.1, fun h => (by rw [putL_self] at h; cases h), E2.out.oth ho HN.out.2.2.2.2 HN.out.2.2.2.2, fun h => (by first | exact F0.out ((putL_ne (i := 3) (by decide)).symm.trans h) | rfl), fun h => (by first | exact F1.out ((putL_ne (i := 3) (by decide)).symm.trans h) | rfl), fun h => (fun q => q.oth ho (HN.out.2.2.1) (HN.out.2.2.1)) (F2.out ((putL_ne (i := 3) (by decide)).symm.trans h)), fun _ => BP⟩
  · intro L act wx hall hIa
    obtain ⟨t22, t23, rfl, HS, E0, E1, E2, F0, F1, F2, F3⟩ := (HI.out _ _ _).1 hIa
    have f0 := F0.out (hall 0 (by decide))
    have f1 := F1.out (hall 1 (by decide))
    have f2 := F2.out (hall 2 (by decide))
    have f3 := F3.out (hall 3 (by decide))
    clear hIa HI F0 F1 F2 F3
    show K9 _ _
    apply hK9
    clear hK9
    have HD2 : Hid (Blk wx p2 (encV h) 25) := f2
    have HD3 : Hid (Blk wx p3 (encV (3, 0, noB)) 25) := f3
    clear E0 E1 E2 f0 f1 f2 f3
    go_wp2
    refine ret_two rfl p2 p3 (encV h) (encV (3, 0, noB)) 25 25 _ _ Tryd.underlying25 rfl infoVv Tryd.underlying25 rfl infoVv rfl HD2.out rfl HD3.out rfl ?_
    exact ⟨rfl, HS.out⟩
set_option maxRecDepth 100000 in
set_option maxHeartbeats 16000000 in
theorem turn_not (h c : Val) (hh : h ≠ c) (w : World) : Calls Tryd.prog 23 #[.agg #[.int .i64 h.1, .int .i64 h.2.1, .string h.2.2], .agg #[.int .i64 c.1, .int .i64 c.2.1, .string c.2.2], .int .i64 12] w fun e w' => e = .returned (.tuple #[.agg (encV h).toArray, .agg (encV (yesV false)).toArray]) ∧ Below w.heap.size w w' := by
  have mixed : Tryd.prog.follows .mixedOrders = true := by kernel_rfl
  have hq := fun w => neV h.1 h.2.1 c.1 c.2.1 h.2.2 c.2.2 w
  rw [show eqvB h.1 h.2.1 h.2.2 c.1 c.2.1 c.2.2 = false from Bool.eq_false_iff.2 fun k => hh ((eqvB_iff _ _ _ _ _ _).1 k), Bool.not_false] at hq
  have hg := eqgV
  clear hh
  have T := five_laid w (encV h) (encV c) (encV noV) (encV noV) (encV noV) 25 25 25 25 25
  have R1 : Hid (Blk (((((w.alloc (.cells #[.int .i64 h.1, .int .i64 h.2.1, .string h.2.2] 25)).alloc (.cells #[.int .i64 c.1, .int .i64 c.2.1, .string c.2.2] 25)).alloc (.cells #[.int .i64 0, .int .i64 0, .string ⟨#[]⟩] 25)).alloc (.cells #[.int .i64 0, .int .i64 0, .string ⟨#[]⟩] 25)).alloc (.cells #[.int .i64 0, .int .i64 0, .string ⟨#[]⟩] 25)) (w.heap.size) (encV h) 25) := T.1
  have R2 : Hid (Blk (((((w.alloc (.cells #[.int .i64 h.1, .int .i64 h.2.1, .string h.2.2] 25)).alloc (.cells #[.int .i64 c.1, .int .i64 c.2.1, .string c.2.2] 25)).alloc (.cells #[.int .i64 0, .int .i64 0, .string ⟨#[]⟩] 25)).alloc (.cells #[.int .i64 0, .int .i64 0, .string ⟨#[]⟩] 25)).alloc (.cells #[.int .i64 0, .int .i64 0, .string ⟨#[]⟩] 25)) (w.heap.size + 1) (encV c) 25) := T.2.1
  have R3 : Hid (Blk (((((w.alloc (.cells #[.int .i64 h.1, .int .i64 h.2.1, .string h.2.2] 25)).alloc (.cells #[.int .i64 c.1, .int .i64 c.2.1, .string c.2.2] 25)).alloc (.cells #[.int .i64 0, .int .i64 0, .string ⟨#[]⟩] 25)).alloc (.cells #[.int .i64 0, .int .i64 0, .string ⟨#[]⟩] 25)).alloc (.cells #[.int .i64 0, .int .i64 0, .string ⟨#[]⟩] 25)) (w.heap.size + 1 + 1) (encV noV) 25) := T.2.2.1
  have R4 : Hid (Blk (((((w.alloc (.cells #[.int .i64 h.1, .int .i64 h.2.1, .string h.2.2] 25)).alloc (.cells #[.int .i64 c.1, .int .i64 c.2.1, .string c.2.2] 25)).alloc (.cells #[.int .i64 0, .int .i64 0, .string ⟨#[]⟩] 25)).alloc (.cells #[.int .i64 0, .int .i64 0, .string ⟨#[]⟩] 25)).alloc (.cells #[.int .i64 0, .int .i64 0, .string ⟨#[]⟩] 25)) (w.heap.size + 1 + 1 + 1) (encV noV) 25) := T.2.2.2.1
  have R5 : Hid (Blk (((((w.alloc (.cells #[.int .i64 h.1, .int .i64 h.2.1, .string h.2.2] 25)).alloc (.cells #[.int .i64 c.1, .int .i64 c.2.1, .string c.2.2] 25)).alloc (.cells #[.int .i64 0, .int .i64 0, .string ⟨#[]⟩] 25)).alloc (.cells #[.int .i64 0, .int .i64 0, .string ⟨#[]⟩] 25)).alloc (.cells #[.int .i64 0, .int .i64 0, .string ⟨#[]⟩] 25)) (w.heap.size + 1 + 1 + 1 + 1) (encV noV) 25) := T.2.2.2.2.1
  have RB : Hid (Below w.heap.size w (((((w.alloc (.cells #[.int .i64 h.1, .int .i64 h.2.1, .string h.2.2] 25)).alloc (.cells #[.int .i64 c.1, .int .i64 c.2.1, .string c.2.2] 25)).alloc (.cells #[.int .i64 0, .int .i64 0, .string ⟨#[]⟩] 25)).alloc (.cells #[.int .i64 0, .int .i64 0, .string ⟨#[]⟩] 25)).alloc (.cells #[.int .i64 0, .int .i64 0, .string ⟨#[]⟩] 25))) := T.2.2.2.2.2
  clear T
  go_enter Tryd.func23, Tryd.ntmps23
  go_wp2_with (first
    | ((with_reducible refine wp_storeB 25 (.tmp 8) (.tmp 9) (w.heap.size + 1 + 1 + 1 + 1) 0 (encV noV) (encV noV) 25 ?_ ?_ (encV_oneP _) ?_ ?_ ?_ R5.out ?_); (exact infoVv); (exact (show 0 + 3 ≤ 3 by decide)); (exact ⟨rfl, rfl⟩); (exact rfl); (exact rfl); (intro w2 D1 o2); (replace D1 : Blk w2 (w.heap.size + 1 + 1 + 1 + 1) (encV noV) 25 := D1); (have H5 : Hid (Blk w2 (w.heap.size + 1 + 1 + 1 + 1) (encV noV) 25) := D1); (have H1 : Hid (Blk w2 (w.heap.size) (encV h) 25) := R1.out.oth o2 (by omega) (by omega)); (have H2 : Hid (Blk w2 (w.heap.size + 1) (encV c) 25) := R2.out.oth o2 (by omega) (by omega)); (have H3 : Hid (Blk w2 (w.heap.size + 1 + 1) (encV noV) 25) := R3.out.oth o2 (by omega) (by omega)); (have H4 : Hid (Blk w2 (w.heap.size + 1 + 1 + 1) (encV noV) 25) := R4.out.oth o2 (by omega) (by omega)); (have HB : Hid (Below w.heap.size w w2) := below_oth RB.out o2 (by omega) (by omega) RB.out.size); (obtain ⟨a0, a1, a2⟩ := v_cells H1.out); (obtain ⟨b0, b1, b2⟩ := v_cells H2.out); (obtain ⟨z0, z1, z2⟩ := v_cells H5.out); (simp only [noV] at z0 z1 z2); (clear D1 o2 R1 R2 R3 R4 R5 RB)))
  clear a0 a1 a2 b0 b1 b2 z0 z1 z2 hg hq
  rename_i K9 hK9
  have HN : Hid (w.heap.size ≤ w.heap.size + 1 + 1 ∧ w.heap.size ≤ w.heap.size + 1 + 1 + 1 ∧ w.heap.size + 1 + 1 ≠ w.heap.size + 1 + 1 + 1 ∧ w.heap.size ≠ w.heap.size + 1 + 1 ∧ w.heap.size ≠ w.heap.size + 1 + 1 + 1) := (by omega : w.heap.size ≤ w.heap.size + 1 + 1 ∧ w.heap.size ≤ w.heap.size + 1 + 1 + 1 ∧ w.heap.size + 1 + 1 ≠ w.heap.size + 1 + 1 + 1 ∧ w.heap.size ≠ w.heap.size + 1 + 1 ∧ w.heap.size ≠ w.heap.size + 1 + 1 + 1)
  generalize w.heap.size + 1 + 1 + 1 + 1 = p4 at *
  generalize w.heap.size + 1 + 1 + 1 = p3 at *
  generalize w.heap.size + 1 + 1 = p2 at *
  generalize w.heap.size + 1 = p1 at *
  obtain ⟨I, hI⟩ : ∃ I : (Nat → Bool) → Act → World → Prop, ∀ L act wx, I L act wx ↔ (fun (L : Nat → Bool) (act : Act) (wx : World) => ∃ (t22 : Value) (t23 : Value) , act = ⟨#[Value.agg #[Value.int .i64 h.1, Value.int .i64 h.2.1, Value.string h.2.2], Value.agg #[Value.int .i64 c.1, Value.int .i64 c.2.1, Value.string c.2.2], Value.int .i64 12, Value.pointer (some ⟨w.heap.size, 0, none⟩), Value.pointer (some ⟨p1, 0, none⟩), undef, Value.pointer (some ⟨p2, 0, none⟩), Value.pointer (some ⟨p3, 0, none⟩), Value.pointer (some ⟨p4, 0, none⟩), Value.agg #[Value.int .i64 0, Value.int .i64 0, Value.string ⟨#[]⟩], Value.bool false, Value.int .i64 12, Value.bool false, Value.bool true, Value.agg #[Value.int .i64 h.1, Value.int .i64 h.2.1, Value.string h.2.2], Value.agg #[Value.int .i64 c.1, Value.int .i64 c.2.1, Value.string c.2.2], Value.bool true, undef, undef, undef, undef, undef, t22, t23, undef, undef], []⟩ ∧ Hid (Below w.heap.size w wx) ∧ Hid (L 2 = false → Blk wx p2 (encV noV) 25) ∧ Hid (L 3 = false → Blk wx p3 (encV noV) 25) ∧ Hid (Blk wx w.heap.size (encV h) 25) ∧ Hid (L 0 = true → t22 = .agg #[.int .i64 h.1, .int .i64 h.2.1, .string h.2.2]) ∧ Hid (L 1 = true → t23 = .agg #[.int .i64 3, .int .i64 0, .string noB]) ∧ Hid (L 2 = true → Blk wx p2 (encV h) 25) ∧ Hid (L 3 = true → Blk wx p3 (encV (3, 0, noB)) 25)) L act wx := ⟨_, fun _ _ _ => Iff.rfl⟩
  dsimp only at hI
  have HI : Hid (∀ L act wx, I L act wx ↔ _) := hI
  clear hI
  refine wp_region_inv mixed [[], [], [0, 1], [0, 1, 2]] (by kernel_rfl) I ?_ ?_ ?_
  · refine (HI.out _ _ _).2 ⟨_, _, rfl, ?_, ?_, ?_, ?_, fun h => Bool.noConfusion h, fun h => Bool.noConfusion h, fun h => Bool.noConfusion h, fun h => Bool.noConfusion h⟩
    · exact below_next HB.out (Stay.drew _)
    · exact fun _ => H3.out.later (Stay.drew _)
    · exact fun _ => H4.out.later (Stay.drew _)
    · exact H1.out.later (Stay.drew _)
  · intro i hi L act wx hIa hLi hcl hanc
    obtain ⟨t22, t23, rfl, HS, E0, E1, E2, F0, F1, F2, F3⟩ := (HI.out _ _ _).1 hIa
    clear hIa
    have hi' : i = 0 ∨ i = 1 ∨ i = 2 ∨ i = 3 := by have hi : i < 4 := hi; omega
    clear hi
    rcases hi' with rfl | rfl | rfl | rfl
    · refine wpOp_doG 0 (by rfl) (by rfl) ?_
      refine wp_load_mid 25 (.tmp 3) rfl w.heap.size 0 rfl (encV h) _ (Blk.all E2.out) Tryd.underlying25 rfl infoVv ?_
      simp only [Act.put, List.setIfInBounds_toArray, List.set_cons_zero, List.set_cons_succ]
      have hb : Below wx.heap.size wx wx := Below.refl _ _
      show I (putL L 0) _ _
      exact (HI.out (putL L 0) _ _).2 ⟨_, _, rfl, below_next HS.out hb, fun h => (E0.out ((putL_ne (i := 0) (by decide)).symm.trans h)).later hb, fun h => (E1.out ((putL_ne (i := 0) (by decide)).symm.trans h)).later hb, E2.out.later hb, fun _ => rfl, fun h => (by first | exact F1.out ((putL_ne (i := 0) (by decide)).symm.trans h) | rfl), fun h => absurd (hcl 2 ((putL_ne (i := 0) (by decide)).symm.trans h) 0 (by decide)) (by rw [hLi]; decide), fun h => absurd (hcl 3 ((putL_ne (i := 0) (by decide)).symm.trans h) 0 (by decide)) (by rw [hLi]; decide)⟩
    · refine wpOp_doG 1 (by rfl) (by rfl) ?_
      go_wp2_with fail
      refine (flag_anyH 0 wx).mono ?_
      rintro e9 wn ⟨rfl, hb⟩
      show I (putL L 1) _ _
      exact (HI.out (putL L 1) _ _).2 ⟨_, _, rfl, below_next HS.out hb, fun h => (E0.out ((putL_ne (i := 1) (by decide)).symm.trans h)).later hb, fun h => (E1.out ((putL_ne (i := 1) (by decide)).symm.trans h)).later hb, E2.out.later hb, fun h => (by first | exact F0.out ((putL_ne (i := 1) (by decide)).symm.trans h) | rfl), fun _ => rfl, fun h => absurd (hcl 2 ((putL_ne (i := 1) (by decide)).symm.trans h) 1 (by decide)) (by rw [hLi]; decide), fun h => absurd (hcl 3 ((putL_ne (i := 1) (by decide)).symm.trans h) 1 (by decide)) (by rw [hLi]; decide)⟩
    · have f0 := F0.out (hanc 0 (by decide))
      have f1 := F1.out (hanc 1 (by decide))
      have g0 := f0
      subst g0
      have BS := E0.out hLi
      refine wpOp_doG 2 (by rfl) (by rfl) ?_
      refine wpo_storeB 25 (.tmp 6) (.tmp 22) p2 0 (encV h) (encV noV) 25 infoVv (show 0 + 3 ≤ 3 by decide) (encV_oneP _) rfl rfl rfl BS ?_
      intro wn BP ho
      replace BP : Blk wn p2 (encV h) 25 := BP
      simp only [Act.put, List.setIfInBounds_toArray, List.set_cons_zero, List.set_cons_succ]
      show I (putL L 2) _ _
      exact (HI.out (putL L 2) _ _).2 ⟨_, _, rfl, below_oth HS.out ho HN.out.1 HN.out.1 HS.out.size, fun h => (by rw [putL_self] at h; cases h), fun h => (E1.out ((putL_ne (i := 2) (by decide)).symm.trans h)).oth ho (Ne.symm HN.out.2.2.1) (Ne.symm HN.out.2.2.1), E2.out.oth ho HN.out.2.2.2.1 HN.out.2.2.2.1, fun h => (by first | exact F0.out ((putL_ne (i := 2) (by decide)).symm.trans h) | rfl), fun h => (by first | exact F1.out ((putL_ne (i := 2) (by decide)).symm.trans h) | rfl), fun _ => BP, fun h => absurd (hcl 3 ((putL_ne (i := 2) (by decide)).symm.trans h) 2 (by decide)) (by rw [hLi]; decide)⟩
    · have f0 := F0.out (hanc 0 (by decide))
      have f1 := F1.out (hanc 1 (by decide))
      have f2 := F2.out (hanc 2 (by decide))
      have g1 := f1
      subst g1
      have BS := E1.out hLi
      refine wpOp_doG 3 (by rfl) (by rfl) ?_
      refine wpo_storeB 25 (.tmp 7) (.tmp 23) p3 0 (encV (3, 0, noB)) (encV noV) 25 infoVv (show 0 + 3 ≤ 3 by decide) (encV_oneP _) rfl rfl rfl BS ?_
      intro wn BP ho
      replace BP : Blk wn p3 (encV (3, 0, noB)) 25 := BP
      simp only [Act.put, List.setIfInBounds_toArray, List.set_cons_zero, List.set_cons_succ]
      show I (putL L 3) _ _
      exact (HI.out (putL L 3) _ _).2 ⟨_, _, rfl, below_oth HS.out ho HN.out.2.1 HN.out.2.1 HS.out.size, fun h => (E0.out ((putL_ne (i := 3) (by decide)).symm.trans h)).oth ho HN.out.2.2.1 HN.out.2.2.1, fun h => (by rw [putL_self] at h; cases h), E2.out.oth ho HN.out.2.2.2.2 HN.out.2.2.2.2, fun h => (by first | exact F0.out ((putL_ne (i := 3) (by decide)).symm.trans h) | rfl), fun h => (by first | exact F1.out ((putL_ne (i := 3) (by decide)).symm.trans h) | rfl), fun h => (fun q => q.oth ho (HN.out.2.2.1) (HN.out.2.2.1)) (F2.out ((putL_ne (i := 3) (by decide)).symm.trans h)), fun _ => BP⟩
  · intro L act wx hall hIa
    obtain ⟨t22, t23, rfl, HS, E0, E1, E2, F0, F1, F2, F3⟩ := (HI.out _ _ _).1 hIa
    have f0 := F0.out (hall 0 (by decide))
    have f1 := F1.out (hall 1 (by decide))
    have f2 := F2.out (hall 2 (by decide))
    have f3 := F3.out (hall 3 (by decide))
    clear hIa HI F0 F1 F2 F3
    show K9 _ _
    apply hK9
    clear hK9
    have HD2 : Hid (Blk wx p2 (encV h) 25) := f2
    have HD3 : Hid (Blk wx p3 (encV (3, 0, noB)) 25) := f3
    clear E0 E1 E2 f0 f1 f2 f3
    go_wp2
    refine ret_two rfl p2 p3 (encV h) (encV (3, 0, noB)) 25 25 _ _ Tryd.underlying25 rfl infoVv Tryd.underlying25 rfl infoVv rfl HD2.out rfl HD3.out rfl ?_
    exact ⟨rfl, HS.out⟩
set_option maxRecDepth 100000 in
set_option maxHeartbeats 16000000 in
theorem turn_free (h c : Val) (hh : h = c) (w : World) : Calls Tryd.prog 23 #[.agg #[.int .i64 h.1, .int .i64 h.2.1, .string h.2.2], .agg #[.int .i64 c.1, .int .i64 c.2.1, .string c.2.2], .int .i64 12] w fun e w' => e = .returned (.tuple #[.agg (encV noV).toArray, .agg (encV (yesV true)).toArray]) ∧ Below w.heap.size w w' := by
  have mixed : Tryd.prog.follows .mixedOrders = true := by kernel_rfl
  have hq := fun w => neV h.1 h.2.1 c.1 c.2.1 h.2.2 c.2.2 w
  rw [show eqvB h.1 h.2.1 h.2.2 c.1 c.2.1 c.2.2 = true from (eqvB_iff _ _ _ _ _ _).2 hh, Bool.not_true] at hq
  have hg := eqgV
  clear hh
  have T := five_laid w (encV h) (encV c) (encV noV) (encV noV) (encV noV) 25 25 25 25 25
  have R1 : Hid (Blk (((((w.alloc (.cells #[.int .i64 h.1, .int .i64 h.2.1, .string h.2.2] 25)).alloc (.cells #[.int .i64 c.1, .int .i64 c.2.1, .string c.2.2] 25)).alloc (.cells #[.int .i64 0, .int .i64 0, .string ⟨#[]⟩] 25)).alloc (.cells #[.int .i64 0, .int .i64 0, .string ⟨#[]⟩] 25)).alloc (.cells #[.int .i64 0, .int .i64 0, .string ⟨#[]⟩] 25)) (w.heap.size) (encV h) 25) := T.1
  have R2 : Hid (Blk (((((w.alloc (.cells #[.int .i64 h.1, .int .i64 h.2.1, .string h.2.2] 25)).alloc (.cells #[.int .i64 c.1, .int .i64 c.2.1, .string c.2.2] 25)).alloc (.cells #[.int .i64 0, .int .i64 0, .string ⟨#[]⟩] 25)).alloc (.cells #[.int .i64 0, .int .i64 0, .string ⟨#[]⟩] 25)).alloc (.cells #[.int .i64 0, .int .i64 0, .string ⟨#[]⟩] 25)) (w.heap.size + 1) (encV c) 25) := T.2.1
  have R3 : Hid (Blk (((((w.alloc (.cells #[.int .i64 h.1, .int .i64 h.2.1, .string h.2.2] 25)).alloc (.cells #[.int .i64 c.1, .int .i64 c.2.1, .string c.2.2] 25)).alloc (.cells #[.int .i64 0, .int .i64 0, .string ⟨#[]⟩] 25)).alloc (.cells #[.int .i64 0, .int .i64 0, .string ⟨#[]⟩] 25)).alloc (.cells #[.int .i64 0, .int .i64 0, .string ⟨#[]⟩] 25)) (w.heap.size + 1 + 1) (encV noV) 25) := T.2.2.1
  have R4 : Hid (Blk (((((w.alloc (.cells #[.int .i64 h.1, .int .i64 h.2.1, .string h.2.2] 25)).alloc (.cells #[.int .i64 c.1, .int .i64 c.2.1, .string c.2.2] 25)).alloc (.cells #[.int .i64 0, .int .i64 0, .string ⟨#[]⟩] 25)).alloc (.cells #[.int .i64 0, .int .i64 0, .string ⟨#[]⟩] 25)).alloc (.cells #[.int .i64 0, .int .i64 0, .string ⟨#[]⟩] 25)) (w.heap.size + 1 + 1 + 1) (encV noV) 25) := T.2.2.2.1
  have R5 : Hid (Blk (((((w.alloc (.cells #[.int .i64 h.1, .int .i64 h.2.1, .string h.2.2] 25)).alloc (.cells #[.int .i64 c.1, .int .i64 c.2.1, .string c.2.2] 25)).alloc (.cells #[.int .i64 0, .int .i64 0, .string ⟨#[]⟩] 25)).alloc (.cells #[.int .i64 0, .int .i64 0, .string ⟨#[]⟩] 25)).alloc (.cells #[.int .i64 0, .int .i64 0, .string ⟨#[]⟩] 25)) (w.heap.size + 1 + 1 + 1 + 1) (encV noV) 25) := T.2.2.2.2.1
  have RB : Hid (Below w.heap.size w (((((w.alloc (.cells #[.int .i64 h.1, .int .i64 h.2.1, .string h.2.2] 25)).alloc (.cells #[.int .i64 c.1, .int .i64 c.2.1, .string c.2.2] 25)).alloc (.cells #[.int .i64 0, .int .i64 0, .string ⟨#[]⟩] 25)).alloc (.cells #[.int .i64 0, .int .i64 0, .string ⟨#[]⟩] 25)).alloc (.cells #[.int .i64 0, .int .i64 0, .string ⟨#[]⟩] 25))) := T.2.2.2.2.2
  clear T
  go_enter Tryd.func23, Tryd.ntmps23
  go_wp2_with (first
    | ((with_reducible refine wp_storeB 25 (.tmp 8) (.tmp 9) (w.heap.size + 1 + 1 + 1 + 1) 0 (encV noV) (encV noV) 25 ?_ ?_ (encV_oneP _) ?_ ?_ ?_ R5.out ?_); (exact infoVv); (exact (show 0 + 3 ≤ 3 by decide)); (exact ⟨rfl, rfl⟩); (exact rfl); (exact rfl); (intro w2 D1 o2); (replace D1 : Blk w2 (w.heap.size + 1 + 1 + 1 + 1) (encV noV) 25 := D1); (have H5 : Hid (Blk w2 (w.heap.size + 1 + 1 + 1 + 1) (encV noV) 25) := D1); (have H1 : Hid (Blk w2 (w.heap.size) (encV h) 25) := R1.out.oth o2 (by omega) (by omega)); (have H2 : Hid (Blk w2 (w.heap.size + 1) (encV c) 25) := R2.out.oth o2 (by omega) (by omega)); (have H3 : Hid (Blk w2 (w.heap.size + 1 + 1) (encV noV) 25) := R3.out.oth o2 (by omega) (by omega)); (have H4 : Hid (Blk w2 (w.heap.size + 1 + 1 + 1) (encV noV) 25) := R4.out.oth o2 (by omega) (by omega)); (have HB : Hid (Below w.heap.size w w2) := below_oth RB.out o2 (by omega) (by omega) RB.out.size); (obtain ⟨a0, a1, a2⟩ := v_cells H1.out); (obtain ⟨b0, b1, b2⟩ := v_cells H2.out); (obtain ⟨z0, z1, z2⟩ := v_cells H5.out); (simp only [noV] at z0 z1 z2); (clear D1 o2 R1 R2 R3 R4 R5 RB)))
  clear a0 a1 a2 b0 b1 b2 z0 z1 z2 hg hq
  rename_i K9 hK9
  have HN : Hid (w.heap.size ≤ w.heap.size + 1 + 1 ∧ w.heap.size ≤ w.heap.size + 1 + 1 + 1 ∧ w.heap.size + 1 + 1 ≠ w.heap.size + 1 + 1 + 1 ∧ w.heap.size + 1 + 1 + 1 + 1 ≠ w.heap.size + 1 + 1 ∧ w.heap.size + 1 + 1 + 1 + 1 ≠ w.heap.size + 1 + 1 + 1) := (by omega : w.heap.size ≤ w.heap.size + 1 + 1 ∧ w.heap.size ≤ w.heap.size + 1 + 1 + 1 ∧ w.heap.size + 1 + 1 ≠ w.heap.size + 1 + 1 + 1 ∧ w.heap.size + 1 + 1 + 1 + 1 ≠ w.heap.size + 1 + 1 ∧ w.heap.size + 1 + 1 + 1 + 1 ≠ w.heap.size + 1 + 1 + 1)
  generalize w.heap.size + 1 + 1 + 1 + 1 = p4 at *
  generalize w.heap.size + 1 + 1 + 1 = p3 at *
  generalize w.heap.size + 1 + 1 = p2 at *
  generalize w.heap.size + 1 = p1 at *
  obtain ⟨I, hI⟩ : ∃ I : (Nat → Bool) → Act → World → Prop, ∀ L act wx, I L act wx ↔ (fun (L : Nat → Bool) (act : Act) (wx : World) => ∃ (t24 : Value) (t25 : Value) , act = ⟨#[Value.agg #[Value.int .i64 h.1, Value.int .i64 h.2.1, Value.string h.2.2], Value.agg #[Value.int .i64 c.1, Value.int .i64 c.2.1, Value.string c.2.2], Value.int .i64 12, Value.pointer (some ⟨w.heap.size, 0, none⟩), Value.pointer (some ⟨p1, 0, none⟩), undef, Value.pointer (some ⟨p2, 0, none⟩), Value.pointer (some ⟨p3, 0, none⟩), Value.pointer (some ⟨p4, 0, none⟩), Value.agg #[Value.int .i64 0, Value.int .i64 0, Value.string ⟨#[]⟩], Value.bool false, Value.int .i64 12, Value.bool false, Value.bool false, Value.agg #[Value.int .i64 h.1, Value.int .i64 h.2.1, Value.string h.2.2], Value.agg #[Value.int .i64 c.1, Value.int .i64 c.2.1, Value.string c.2.2], Value.bool false, undef, undef, undef, undef, undef, undef, undef, t24, t25], []⟩ ∧ Hid (Below w.heap.size w wx) ∧ Hid (L 2 = false → Blk wx p2 (encV noV) 25) ∧ Hid (L 3 = false → Blk wx p3 (encV noV) 25) ∧ Hid (Blk wx p4 (encV noV) 25) ∧ Hid (L 0 = true → t24 = .agg #[.int .i64 0, .int .i64 0, .string noB]) ∧ Hid (L 1 = true → t25 = .agg #[.int .i64 3, .int .i64 1, .string noB]) ∧ Hid (L 2 = true → Blk wx p2 (encV noV) 25) ∧ Hid (L 3 = true → Blk wx p3 (encV (3, 1, noB)) 25)) L act wx := ⟨_, fun _ _ _ => Iff.rfl⟩
  dsimp only at hI
  have HI : Hid (∀ L act wx, I L act wx ↔ _) := hI
  clear hI
  refine wp_region_inv mixed [[], [], [0, 1], [0, 1, 2]] (by kernel_rfl) I ?_ ?_ ?_
  · refine (HI.out _ _ _).2 ⟨_, _, rfl, ?_, ?_, ?_, ?_, fun h => Bool.noConfusion h, fun h => Bool.noConfusion h, fun h => Bool.noConfusion h, fun h => Bool.noConfusion h⟩
    · exact below_next HB.out (Stay.drew _)
    · exact fun _ => H3.out.later (Stay.drew _)
    · exact fun _ => H4.out.later (Stay.drew _)
    · exact H5.out.later (Stay.drew _)
  · intro i hi L act wx hIa hLi hcl hanc
    obtain ⟨t24, t25, rfl, HS, E0, E1, E2, F0, F1, F2, F3⟩ := (HI.out _ _ _).1 hIa
    clear hIa
    have hi' : i = 0 ∨ i = 1 ∨ i = 2 ∨ i = 3 := by have hi : i < 4 := hi; omega
    clear hi
    rcases hi' with rfl | rfl | rfl | rfl
    · refine wpOp_doG 0 (by rfl) (by rfl) ?_
      refine wp_load_mid 25 (.tmp 8) rfl p4 0 rfl (encV noV) _ (Blk.all E2.out) Tryd.underlying25 rfl infoVv ?_
      simp only [Act.put, List.setIfInBounds_toArray, List.set_cons_zero, List.set_cons_succ]
      have hb : Below wx.heap.size wx wx := Below.refl _ _
      show I (putL L 0) _ _
      exact (HI.out (putL L 0) _ _).2 ⟨_, _, rfl, below_next HS.out hb, fun h => (E0.out ((putL_ne (i := 0) (by decide)).symm.trans h)).later hb, fun h => (E1.out ((putL_ne (i := 0) (by decide)).symm.trans h)).later hb, E2.out.later hb, fun _ => rfl, fun h => (by first | exact F1.out ((putL_ne (i := 0) (by decide)).symm.trans h) | rfl), fun h => absurd (hcl 2 ((putL_ne (i := 0) (by decide)).symm.trans h) 0 (by decide)) (by rw [hLi]; decide), fun h => absurd (hcl 3 ((putL_ne (i := 0) (by decide)).symm.trans h) 0 (by decide)) (by rw [hLi]; decide)⟩
    · refine wpOp_doG 1 (by rfl) (by rfl) ?_
      go_wp2_with fail
      refine (flag_anyH 1 wx).mono ?_
      rintro e9 wn ⟨rfl, hb⟩
      show I (putL L 1) _ _
      exact (HI.out (putL L 1) _ _).2 ⟨_, _, rfl, below_next HS.out hb, fun h => (E0.out ((putL_ne (i := 1) (by decide)).symm.trans h)).later hb, fun h => (E1.out ((putL_ne (i := 1) (by decide)).symm.trans h)).later hb, E2.out.later hb, fun h => (by first | exact F0.out ((putL_ne (i := 1) (by decide)).symm.trans h) | rfl), fun _ => rfl, fun h => absurd (hcl 2 ((putL_ne (i := 1) (by decide)).symm.trans h) 1 (by decide)) (by rw [hLi]; decide), fun h => absurd (hcl 3 ((putL_ne (i := 1) (by decide)).symm.trans h) 1 (by decide)) (by rw [hLi]; decide)⟩
    · have f0 := F0.out (hanc 0 (by decide))
      have f1 := F1.out (hanc 1 (by decide))
      have g0 := f0
      subst g0
      have BS := E0.out hLi
      refine wpOp_doG 2 (by rfl) (by rfl) ?_
      refine wpo_storeB 25 (.tmp 6) (.tmp 24) p2 0 (encV noV) (encV noV) 25 infoVv (show 0 + 3 ≤ 3 by decide) (encV_oneP _) rfl rfl rfl BS ?_
      intro wn BP ho
      replace BP : Blk wn p2 (encV noV) 25 := BP
      simp only [Act.put, List.setIfInBounds_toArray, List.set_cons_zero, List.set_cons_succ]
      show I (putL L 2) _ _
      exact (HI.out (putL L 2) _ _).2 ⟨_, _, rfl, below_oth HS.out ho HN.out.1 HN.out.1 HS.out.size, fun h => (by rw [putL_self] at h; cases h), fun h => (E1.out ((putL_ne (i := 2) (by decide)).symm.trans h)).oth ho (Ne.symm HN.out.2.2.1) (Ne.symm HN.out.2.2.1), E2.out.oth ho HN.out.2.2.2.1 HN.out.2.2.2.1, fun h => (by first | exact F0.out ((putL_ne (i := 2) (by decide)).symm.trans h) | rfl), fun h => (by first | exact F1.out ((putL_ne (i := 2) (by decide)).symm.trans h) | rfl), fun _ => BP, fun h => absurd (hcl 3 ((putL_ne (i := 2) (by decide)).symm.trans h) 2 (by decide)) (by rw [hLi]; decide)⟩
    · have f0 := F0.out (hanc 0 (by decide))
      have f1 := F1.out (hanc 1 (by decide))
      have f2 := F2.out (hanc 2 (by decide))
      have g1 := f1
      subst g1
      have BS := E1.out hLi
      refine wpOp_doG 3 (by rfl) (by rfl) ?_
      refine wpo_storeB 25 (.tmp 7) (.tmp 25) p3 0 (encV (3, 1, noB)) (encV noV) 25 infoVv (show 0 + 3 ≤ 3 by decide) (encV_oneP _) rfl rfl rfl BS ?_
      intro wn BP ho
      replace BP : Blk wn p3 (encV (3, 1, noB)) 25 := BP
      simp only [Act.put, List.setIfInBounds_toArray, List.set_cons_zero, List.set_cons_succ]
      show I (putL L 3) _ _
      exact (HI.out (putL L 3) _ _).2 ⟨_, _, rfl, below_oth HS.out ho HN.out.2.1 HN.out.2.1 HS.out.size, fun h => (E0.out ((putL_ne (i := 3) (by decide)).symm.trans h)).oth ho HN.out.2.2.1 HN.out.2.2.1, fun h => (by rw [putL_self] at h; cases h), E2.out.oth ho HN.out.2.2.2.2 HN.out.2.2.2.2, fun h => (by first | exact F0.out ((putL_ne (i := 3) (by decide)).symm.trans h) | rfl), fun h => (by first | exact F1.out ((putL_ne (i := 3) (by decide)).symm.trans h) | rfl), fun h => (fun q => q.oth ho (HN.out.2.2.1) (HN.out.2.2.1)) (F2.out ((putL_ne (i := 3) (by decide)).symm.trans h)), fun _ => BP⟩
  · intro L act wx hall hIa
    obtain ⟨t24, t25, rfl, HS, E0, E1, E2, F0, F1, F2, F3⟩ := (HI.out _ _ _).1 hIa
    have f0 := F0.out (hall 0 (by decide))
    have f1 := F1.out (hall 1 (by decide))
    have f2 := F2.out (hall 2 (by decide))
    have f3 := F3.out (hall 3 (by decide))
    clear hIa HI F0 F1 F2 F3
    show K9 _ _
    apply hK9
    clear hK9
    have HD2 : Hid (Blk wx p2 (encV noV) 25) := f2
    have HD3 : Hid (Blk wx p3 (encV (3, 1, noB)) 25) := f3
    clear E0 E1 E2 f0 f1 f2 f3
    go_wp2
    refine ret_two rfl p2 p3 (encV noV) (encV (3, 1, noB)) 25 25 _ _ Tryd.underlying25 rfl infoVv Tryd.underlying25 rfl infoVv rfl HD2.out rfl HD3.out rfl ?_
    exact ⟨rfl, HS.out⟩
/-- is it done? -/
def doneB (h c : Val) (o : Int) : Bool := if o = 11 then decide (h = noV) else decide (h = c)
theorem turn_any (h c : Val) (o : Int) (xs : List Val) (ho : o = 11 ∨ o = 12) (w : World) : Calls Tryd.prog 23 #[.agg #[.int .i64 h.1, .int .i64 h.2.1, .string h.2.2], .agg #[.int .i64 c.1, .int .i64 c.2.1, .string c.2.2], .int .i64 o] w fun e w' => e = .returned (.tuple #[.agg (encV (nxW h ⟨c, o, xs⟩)).toArray, .agg (encV (yesV (doneB h c o))).toArray]) ∧ Below w.heap.size w w' := by
  rcases ho with rfl | rfl
  · have n12 : ¬ ((⟨c, 11, xs⟩ : Dd).o = 12 ∧ h = (⟨c, 11, xs⟩ : Dd).c) := fun k => absurd k.1 (show ¬ (11 : Int) = 12 by decide)
    have e1 : doneB h c 11 = decide (h = noV) := if_pos rfl
    rw [e1]
    unfold nxW
    by_cases hh : h = noV
    · rw [if_pos ⟨rfl, hh⟩, decide_eq_true hh]
      exact turn_take h c hh w
    · rw [if_neg (fun k => hh k.2), if_neg n12, decide_eq_false hh]
      exact turn_held h c hh w
  · have n11 : ¬ ((⟨c, 12, xs⟩ : Dd).o = 11 ∧ h = noV) := fun k => absurd k.1 (show ¬ (12 : Int) = 11 by decide)
    have e1 : doneB h c 12 = decide (h = c) := if_neg (by decide)
    rw [e1]
    unfold nxW
    by_cases hh : h = c
    · rw [if_neg n11, if_pos ⟨rfl, hh⟩, decide_eq_true hh]
      exact turn_free h c hh w
    · rw [if_neg n11, if_neg (fun k => hh k.2), decide_eq_false hh]
      exact turn_not h c hh w
end Go.Proofs.YtpboleifllcehaaDoor
