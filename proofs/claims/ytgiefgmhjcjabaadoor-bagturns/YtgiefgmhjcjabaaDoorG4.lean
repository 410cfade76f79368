/- The program's New, may and Step are as the chapter says. Conditions: sizes; the table of signs lies in memory; the set is in order. -/
import Derived.Test.YtgiefgmhjcjabaaDoorG3
import Derived.Test.YtgiefgmhjcjabaaDoorGS
namespace Go.Proofs.YtgiefgmhjcjabaaDoor
open Go.RowKit Go.PlainAid Ln Go.Sort
set_option linter.unusedVariables false
set_option linter.unusedSimpArgs false

theorem concat_nil (w : World) : Calls Tryd.prog 32 #[.slice none 0 0] w fun e w' => e = .returned nilS ∧ Below w.heap.size w w' := by
  have hG : ∀ w, Calls Tryd.prog 41 #[.slice none 0 0, .int .i64 0] w fun e w' => e = .returned (.slice none 0 0) ∧ w' = w := fun w => Any8.slices_Grow_room growLays none 0 0 0 w (Nat.le_refl _) (by decide) (by decide) (Nat.le_refl _)
  go_enter Tryd.func32, Tryd.ntmps32
  go_wp2
  go_loopw [3, 11] (fun s i w' => i = .int .i64 0 ∧ s = .int .i64 0 ∧ w = w') (fun s i w' => 0)
  case atStart => exact ⟨rfl, rfl, rfl⟩
  case round =>
    obtain ⟨rfl, rfl, rfl⟩ := hrel
    go_wp2_with (go_at_call 41; refine (hG _).mono ?_; rintro e w1 ⟨rfl, rfl⟩)
    go_loopw [6, 27] (fun s i w' => i = .int .i64 0 ∧ s = nilS ∧ w1 = w') (fun s i w' => 0)
    case atStart => exact ⟨rfl, rfl, rfl⟩
    case round =>
      obtain ⟨rfl, rfl, rfl⟩ := hrel
      go_wp2
      go_ret
      exact ⟨rfl, Below.refl _ _⟩
set_option maxHeartbeats 4000000 in
theorem set_nilB (w : World) : Calls Tryd.prog 20 #[.slice none 0 0] w fun e w' => e = .returned (.agg (stC 3 noV nilS).toArray) ∧ Below w.heap.size w w' := by
  have hC := fun w => concat_nil w
  have HR0 : Hid (Blk (w.alloc (.cells (stC 0 noV nilS).toArray 28)) w.heap.size (stC 0 noV nilS) 28) := Blk.new w (stC 0 noV nilS) 28
  have HB0 : Hid (Below w.heap.size w (w.alloc (.cells (stC 0 noV nilS).toArray 28))) := below_box w _
  go_enter Tryd.func20, Tryd.ntmps20
  go_wp2_with fail
  refine (hC _).mono ?_
  rintro e w1 ⟨rfl, hb1⟩
  have HR1 : Hid (Blk w1 w.heap.size (stC 0 noV nilS) 28) := HR0.out.later hb1
  have HB1 : Hid (Below w.heap.size w w1) := below_next HB0.out hb1
  clear hb1 HR0 HB0 hC
  simp only [nilS]
  go_wp2_with (first
    | ((with_reducible refine wp_storeB 28 (.tmp 2) (.tmp 5) w.heap.size 0 (stC 3 noV nilS) (stC 0 noV nilS) 28 ?_ ?_ (stC_one _ _ rfl) ?_ ?_ ?_ HR1.out ?_); (exact infoSt); (exact (show 0 + 6 ≤ 6 by decide)); (exact ⟨rfl, rfl⟩); (exact rfl); (exact rfl); (intro w2 D1 o2); (replace D1 : Blk w2 w.heap.size (stC 3 noV nilS) 28 := D1); (have HR2 : Hid (Blk w2 w.heap.size (stC 3 noV nilS) 28) := D1); (have HB2 : Hid (Below w.heap.size w w2) := below_oth HB1.out o2 (Nat.le_refl _) (Nat.le_refl _) HB1.out.size); (clear D1 o2)))
  refine ret_blk rfl w.heap.size (stC 3 noV nilS) 28 _ Tryd.underlying28 rfl infoSt rfl HR2.out rfl ?_
  exact ⟨rfl, HB2.out⟩
theorem new_anyB (m : Int) (w : World) : Calls Tryd.prog 7 #[.int .i64 m] w fun e w' => e = .returned (.tuple #[.agg (stC (if ownB m = true then m else 0) noV nilS).toArray, .bool (ownB m)]) ∧ Below w.heap.size w w' := by
  by_cases hm : m = 3
  · subst hm
    rw [if_pos (by kernel_rfl), show ownB 3 = true by kernel_rfl]
    have hS := fun w => set_nilB w
    go_enter Tryd.func7, Tryd.ntmps7
    have R0 : Hid (Blk (w.alloc (.cells (stC 0 noV nilS).toArray 28)) w.heap.size (stC 0 noV nilS) 28) := Blk.new w _ _
    have B0 : Hid (Below w.heap.size w (w.alloc (.cells (stC 0 noV nilS).toArray 28))) := below_box w _
    go_wp2_with (first
      | (go_at_call 20; refine (hS _).mono ?_; rintro e w1 ⟨rfl, hb1⟩; have HR1 : Hid (Blk w1 w.heap.size (stC 0 noV nilS) 28) := R0.out.later hb1; have HB1 : Hid (Below w.heap.size w w1) := below_next B0.out hb1; clear hb1 R0 B0)
      | ((with_reducible refine wp_storeB 28 (.tmp 2) (.tmp 7) w.heap.size 0 (stC 3 noV nilS) (stC 0 noV nilS) 28 ?_ ?_ (stC_one _ _ rfl) ?_ ?_ ?_ HR1.out ?_); (exact infoSt); (exact (show 0 + 6 ≤ 6 by decide)); (exact ⟨rfl, rfl⟩); (exact rfl); (exact rfl); (intro w2 D1 o2); (replace D1 : Blk w2 w.heap.size (stC 3 noV nilS) 28 := D1); (have HD : Hid (Blk w2 w.heap.size (stC 3 noV nilS) 28) := D1); (have HB2 : Hid (Below w.heap.size w w2) := below_oth HB1.out o2 (Nat.le_refl _) (Nat.le_refl _) HB1.out.size); (clear D1 o2)))
    refine ret_blk2 rfl w.heap.size (stC 3 noV nilS) 28 _ (.bool true) Tryd.underlying28 rfl infoSt rfl HD.out rfl rfl ?_
    exact ⟨rfl, HB2.out⟩
  · have em : (m == 3) = false := by simp [hm]
    have eo : ownB m = false := em
    rw [eo, if_neg (by decide)]
    have R0 : Hid (Blk (w.alloc (.cells #[.int .i64 0, .int .i64 0, .int .i64 0, .string ⟨#[]⟩, .int .i64 0, .slice none 0 0] 28)) w.heap.size (stC 0 noV nilS) 28) := Blk.new w _ _
    have B0 : Hid (Below w.heap.size w (w.alloc (.cells #[.int .i64 0, .int .i64 0, .int .i64 0, .string ⟨#[]⟩, .int .i64 0, .slice none 0 0] 28))) := below_box w _
    go_enter Tryd.func7, Tryd.ntmps7
    go_wp2_with (first
      | ((with_reducible refine wp_storeB 28 (.tmp 2) (.tmp 6) w.heap.size 0 (stC 0 noV nilS) (stC 0 noV nilS) 28 ?_ ?_ (stC_one _ _ rfl) ?_ ?_ ?_ R0.out ?_); (exact infoSt); (exact (show 0 + 6 ≤ 6 by decide)); (exact ⟨rfl, rfl⟩); (exact rfl); (exact rfl); (intro w2 D1 o2); (replace D1 : Blk w2 w.heap.size (stC 0 noV nilS) 28 := D1); (have HD : Hid (Blk w2 w.heap.size (stC 0 noV nilS) 28) := D1); (have HB2 : Hid (Below w.heap.size w w2) := below_oth B0.out o2 (Nat.le_refl _) (Nat.le_refl _) B0.out.size); (clear D1 o2)))
    refine ret_blk2 rfl w.heap.size (stC 0 noV nilS) 28 _ (.bool false) Tryd.underlying28 rfl infoSt rfl HD.out rfl rfl ?_
    exact ⟨rfl, HB2.out⟩
/-- may the program's step be? -/
theorem may_anyB (m : Int) (c : Val) (o : Int) (va : Value) (xs : List Val) (w : World) (ht : Tb w) (hv : VSl w va xs) (hs : SzV xs) (hc : c.2.2.size ≤ 4611686018427387904) :
    Calls Tryd.prog 23 #[.int .i64 m, .agg #[.int .i64 c.1, .int .i64 c.2.1, .string c.2.2], .int .i64 o, va] w fun e w' => e = .returned (.bool (ownB m && mayD m ⟨c, o, xs⟩)) ∧ Below w.heap.size w w' := by
  have hT := fun w => takes_any 0 c.1 c.2.1 c.2.2 w hc
  have HF : Hid (∀ w', Below w.heap.size w w' → Calls Tryd.prog 35 #[.int .i64 m, .int .i64 o, va] w' fun e w1 => e = .returned (.bool (fi m o && fitsL (fr m o).inn xs)) ∧ Below w'.heap.size w' w1) := fun w' hb => fits_any m o va xs w' (ht.later hb) (hv.later hb) hs.1 hs.2
  have HB : Hid (VBox (w.alloc (.cells #[.int .i64 c.1, .int .i64 c.2.1, .string c.2.2] 25)) w.heap.size c.1 c.2.1 c.2.2) := VBox.new w _ _ _ 25
  rw [takesB_n (by decide)] at hT
  have e : (ownB m && mayD m ⟨c, o, xs⟩) = (ownB m && (nameB c.1 c.2.1 c.2.2 && (fi m o && fitsL (fr m o).inn xs))) := rfl
  rw [e]
  clear e hv hs ht
  obtain ⟨hp1, c0, c1, c2, _⟩ := HB.out
  generalize nameB c.1 c.2.1 c.2.2 = b2 at *
  generalize (fi m o && fitsL (fr m o).inn xs) = b3 at *
  by_cases hm : m = 3
  · subst hm
    rw [show ownB 3 = true by kernel_rfl]
    cases b2
    · go_enter Tryd.func23, Tryd.ntmps23
      go_wp2_with (first
        | (go_at_call 34; refine (hT _).mono ?_; rintro e w2 ⟨rfl, hb2⟩))
      go_ret
      exact ⟨rfl, below_next (below_box _ _) hb2⟩
    go_enter Tryd.func23, Tryd.ntmps23
    go_wp2_with (first
      | (go_at_call 34; refine (hT _).mono ?_; rintro e w2 ⟨rfl, hb2⟩)
      | (go_at_call 35; refine (HF.out _ (below_next (below_box _ _) hb2)).mono ?_; rintro e w3 ⟨rfl, hb3⟩))
    go_ret
    exact ⟨by cases b3 <;> rfl, below_next (below_next (below_box _ _) hb2) hb3⟩
  · have em : (m == 3) = false := by simp [hm]
    rw [show ownB m = false from em]
    go_enter Tryd.func23, Tryd.ntmps23
    go_wp2
    go_ret
    exact ⟨rfl, below_box _ _⟩
set_option maxHeartbeats 4000000 in
theorem step_noB (m : Int) (v c : Val) (l : Value) (o : Int) (va : Value) (xs : List Val) (w : World) (ht : Tb w) (hv : VSl w va xs) (hs : SzV xs) (hc : c.2.2.size ≤ 4611686018427387904) (h : (ownB m && mayD m ⟨c, o, xs⟩) = false) :
    Calls Tryd.prog 12 #[.agg (stC m v l).toArray, .agg #[.int .i64 c.1, .int .i64 c.2.1, .string c.2.2], .int .i64 o, va] w fun e w' => e = .returned (.tuple #[.agg (stC 0 noV nilS).toArray, nilS, .bool false]) ∧ Below w.heap.size w w' := by
  have hM := fun w' (hb : Below w.heap.size w w') => may_anyB m c o va xs w' (ht.later hb) (hv.later hb) hs hc
  rw [h] at hM
  have HM : Hid (∀ w', Below w.heap.size w w' → Calls Tryd.prog 23 #[.int .i64 m, .agg #[.int .i64 c.1, .int .i64 c.2.1, .string c.2.2], .int .i64 o, va] w' fun e w1 => e = .returned (.bool false) ∧ Below w'.heap.size w' w1) := hM
  clear hM hv hs ht hc h
  have T := three_laid w (stC m v l) (encV c) (stC 0 noV nilS) 28 25 28
  have HT : Hid _ := T
  simp only [stC]
  go_enter Tryd.func12, Tryd.ntmps12
  go_wp2_with fail
  refine (HM.out _ HT.out.2.2.2).mono ?_
  rintro e w4 ⟨rfl, hb4⟩
  have R4 := HT.out.2.2.1.later hb4
  have HB4 : Hid (Below w.heap.size w w4) := below_next HT.out.2.2.2 hb4
  have HQ : Hid (w.heap.size ≤ w.heap.size + 1 + 1) := (by omega : w.heap.size ≤ w.heap.size + 1 + 1)
  clear HT T hb4 HM
  go_wp2_with (first
    | ((with_reducible refine wp_storeB 28 (.tmp 8) (.tmp 21) (w.heap.size + 1 + 1) 0 (stC 0 noV nilS) (stC 0 noV nilS) 28 ?_ ?_ (stC_one _ _ rfl) ?_ ?_ ?_ R4 ?_); (exact infoSt); (exact (show 0 + 6 ≤ 6 by decide)); (exact ⟨rfl, rfl⟩); (exact rfl); (exact rfl); (intro w5 D1 o5); (replace D1 : Blk w5 (w.heap.size + 1 + 1) (stC 0 noV nilS) 28 := D1); (have HD : Hid (Blk w5 (w.heap.size + 1 + 1) (stC 0 noV nilS) 28) := D1); (have HB5 : Hid (Below w.heap.size w w5) := below_oth HB4.out o5 HQ.out HQ.out HB4.out.size); (clear D1 o5 HB4)))
  refine ret_blk3 rfl (w.heap.size + 1 + 1) (stC 0 noV nilS) 28 _ nilS (.bool false) Tryd.underlying28 rfl infoSt rfl HD.out rfl rfl rfl ?_
  exact ⟨rfl, HB5.out⟩
/-! ### a value put in and taken out, by where it stands -/
theorem hit_is {l : List Val} (v : Val) (hs : Srt l) : hitB l v (kB v l) = inB v l := by
  cases h : hitB l v (kB v l)
  · rw [miss_in hs (kB_pos v l hs) h]
  · rw [hit_in h]
/-- what is behind it -/
def behB (v : Val) (l : List Val) : List Val := l.drop (if inB v l = true then kB v l + 1 else kB v l)
theorem add_cut {l : List Val} {v : Val} {xs : List Val} (hs : Srt l) (hx : xs = [v]) : [l.take (kB v l), xs, behB v l].flatten = addB v l := by
  subst hx
  have e := hit_is v hs
  unfold behB
  cases h : hitB l v (kB v l)
  · rw [h] at e
    rw [miss_add hs (kB_pos v l hs) h, ← e, if_neg (by decide)]
    simp
  · rw [h] at e
    rw [hit_add h, ← e, if_pos rfl]
    simp
theorem del_cut {l : List Val} {v : Val} (hs : Srt l) : [l.take (kB v l), behB v l].flatten = delB v l := by
  have e := hit_is v hs
  unfold behB
  cases h : hitB l v (kB v l)
  · rw [h] at e
    rw [miss_del hs (kB_pos v l hs) h, ← e, if_neg (by decide)]
    simp
  · rw [h] at e
    rw [hit_del hs h, ← e, if_pos rfl]
    simp
theorem cut_vsl {w : World} {a : Option Addr} {c : Nat} {l : List Val} {v : Val} (hv : VSl w (.slice a l.length c) l) (hs : Srt l) : VSl w (.slice a (kB v l) c) (l.take (kB v l)) ∧ VSl w (cutB a l.length c (kB v l) (inB v l)) (behB v l) := by
  have hk : kB v l ≤ l.length := (kB_pos v l hs).1
  refine ⟨?_, ?_⟩
  · have := (slice_cutV hv 0 (kB v l) (by omega) hk).1
    rw [sliced0] at this
    simpa using this
  · unfold cutB behB
    have e := hit_is v hs
    obtain ⟨k', h', he⟩ : ∃ k', k' ≤ l.length ∧ (if inB v l = true then kB v l + 1 else kB v l) = k' := by
      refine ⟨_, ?_, rfl⟩
      split
      · rename_i h
        rw [h] at e
        have := (hit_split e).1
        omega
      · exact hk
    rw [he]
    have := (slice_cutV hv k' l.length h' (Nat.le_refl _)).1
    rw [List.take_of_length_le (by simp)] at this
    exact this
theorem len_one {xs : List Val} (h : xs.length = 1) : xs = [nv xs 0] := by
  match xs, h with
  | [x], _ => rw [nv_zero]
set_option maxRecDepth 100000 in
set_option maxHeartbeats 16000000 in
theorem step_yesB (B : Nat) (c : Val) (vl : Value) (l : List Val) (o : Int) (va : Value) (xs : List Val) (w : World) (hB : B ≤ w.heap.size) (ht : Tb w) (hl : VSl w vl l) (hs : Srt l) (hn : l.length ≤ 1000) (hv : VSl w va xs) (hz : SzV xs) (hc : c.2.2.size ≤ 4611686018427387904) (hd : mayD 3 ⟨c, o, xs⟩ = true) :
    Calls Tryd.prog 12 #[.agg (stC 3 noV vl).toArray, .agg #[.int .i64 c.1, .int .i64 c.2.1, .string c.2.2], .int .i64 o, va] w fun e w' => RStepB B l ⟨c, o, xs⟩ w e w' := by
  have mixed : Tryd.prog.follows .mixedOrders = true := by kernel_rfl
  have hM := fun w' (hb : Below w.heap.size w w') => may_anyB 3 c o va xs w' (ht.later hb) (hv.later hb) hz hc
  rw [hd, show ownB 3 = true by kernel_rfl] at hM
  have HM : Hid (∀ w', Below w.heap.size w w' → Calls Tryd.prog 23 #[.int .i64 3, .agg #[.int .i64 c.1, .int .i64 c.2.1, .string c.2.2], .int .i64 o, va] w' fun e w1 => e = .returned (.bool true) ∧ Below w'.heap.size w' w1) := hM
  obtain ⟨⟨hop, hx1⟩, _⟩ := may_casesB (by kernel_rfl) hd
  have hx1 : xs.length = 1 := hx1
  have hop : o = 4 ∨ o = 5 ∨ o = 6 := hop
  have hxs := len_one hx1
  obtain ⟨ba, oa, ca, rfl, hbl, hca, hat⟩ := vsl_first hv (by omega)
  have hat0 := hat 0 (by omega)
  rw [Nat.zero_mul, Nat.add_zero] at hat0
  obtain ⟨a0, a1, a2⟩ := hat0
  obtain ⟨x, hx⟩ : ∃ x, nv xs 0 = x := ⟨_, rfl⟩
  rw [hx] at a0 a1 a2 hxs
  obtain ⟨al, cl, rfl, _, _, _⟩ := hl.form
  have HV : Hid (VSl w (.slice (some ⟨ba, oa, none⟩) xs.length ca) xs) := hv
  have HL : Hid (VSl w (.slice al l.length cl) l) := hl
  have hP := fun w' (hb : Below w.heap.size w w') => part_any al cl l x w' (hl.later hb) hs (by omega)
  rw [hit_is x hs] at hP
  have HP : Hid (∀ w', Below w.heap.size w w' → Calls Tryd.prog 24 #[.slice al l.length cl, .agg #[.int .i64 x.1, .int .i64 x.2.1, .string x.2.2]] w' fun e w'' => e = .returned (.tuple #[.slice al (kB x l) cl, cutB al l.length cl (kB x l) (inB x l), .bool (inB x l)]) ∧ Below w'.heap.size w' w'') := hP
  have HC : Hid (∀ w', Below w.heap.size w w' → VSl w' (.slice al (kB x l) cl) (l.take (kB x l)) ∧ VSl w' (cutB al l.length cl (kB x l) (inB x l)) (behB x l)) := fun w' hb => cut_vsl (hl.later hb) hs
  have HAdd : Hid ([l.take (kB x l), xs, behB x l].flatten = addB x l) := add_cut hs hxs
  have HDel : Hid ([l.take (kB x l), behB x l].flatten = delB x l) := del_cut hs
  have hsz1 : (addB x l).length ≤ 900000 := by have := insL_len1 x l; omega
  have hsz2 : (delB x l).length ≤ 900000 := by have := List.length_filter_le (fun y => decide (y ≠ x)) l; unfold delB; omega
  have hsz3 : l.length ≤ 900000 := by omega
  have HS1 : Hid ([l.take (kB x l), xs, behB x l].flatten.length ≤ 900000) := HAdd.out ▸ hsz1
  have HS2 : Hid ([l.take (kB x l), behB x l].flatten.length ≤ 900000) := HDel.out ▸ hsz2
  have HS3 : Hid ([l].flatten.length ≤ 900000) := (by rw [List.flatten_singleton]; exact hsz3 : [l].flatten.length ≤ 900000)
  have N4 : Hid (o = 4 → nxB l ⟨c, o, xs⟩ = addB x l ∧ outB l ⟨c, o, xs⟩ = []) := fun h => ⟨by rw [nxB_4 h]; show addB (nv xs 0) l = _; rw [hx], by unfold outB; rw [if_neg (show ¬ o = 6 by omega)]⟩
  have N5 : Hid (o = 5 → nxB l ⟨c, o, xs⟩ = delB x l ∧ outB l ⟨c, o, xs⟩ = []) := fun h => ⟨by rw [nxB_5 h]; show delB (nv xs 0) l = _; rw [hx], by unfold outB; rw [if_neg (show ¬ o = 6 by omega)]⟩
  have N6 : Hid (o = 6 → nxB l ⟨c, o, xs⟩ = l ∧ outB l ⟨c, o, xs⟩ = [yesV (inB x l)]) := fun h => ⟨nxB_o (show ¬ o = 4 by omega) (show ¬ o = 5 by omega), by unfold outB; rw [if_pos h]; show [yesV (inB (nv xs 0) l)] = _; rw [hx]⟩
  obtain ⟨a4, n4, c4, h4⟩ : ∃ a4 n4 c4, cutB al l.length cl (kB x l) (inB x l) = .slice a4 n4 c4 := ⟨_, _, _, rfl⟩
  rw [h4] at HP HC
  clear h4 hM hv hz ht hc hd hP hl hs hx hxs hat hsz1 hsz2 hsz3
  generalize kB x l = k at *
  generalize inB x l = hit at *
  generalize l.take k = l1 at *
  generalize behB x l = l2 at *
  generalize addB x l = la at *
  generalize delB x l = ld at *
  rw [hx1] at HV HM ⊢
  obtain ⟨n, hN⟩ : ∃ n, l.length = n := ⟨_, rfl⟩
  rw [hN] at HL HP hn ⊢
  have T := three_laid w (stC 3 noV (.slice al n cl)) (encV c) (stC 0 noV nilS) 28 25 28
  have HT : Hid _ := T
  simp only [stC]
  clear T hN
  go_enter Tryd.func12, Tryd.ntmps12
  go_wp2_with fail
  refine (HM.out _ HT.out.2.2.2).mono ?_
  rintro e w4 ⟨rfl, hb4⟩
  have HR4 : Hid (Blk w4 (w.heap.size + 1 + 1) (stC 0 noV nilS) 28) := HT.out.2.2.1.later hb4
  have HS4 : Hid (Blk w4 w.heap.size (stC 3 noV (.slice al n cl)) 28) := HT.out.1.later hb4
  have HB4 : Hid (Below w.heap.size w w4) := below_next HT.out.2.2.2 hb4
  have HQ : Hid (w.heap.size ≤ w.heap.size + 1 + 1) := (by omega : w.heap.size ≤ w.heap.size + 1 + 1)
  obtain ⟨_, _, _, _, _, s5⟩ := st_cells HS4.out
  have s5' := fun d os => cell_regrown s5 d os
  have a0' := fun d os => cell_regrown ((HB4.out.cell (p := ⟨ba, oa, none⟩) hbl).trans a0) d os
  have a1' := fun d os => cell_regrown ((HB4.out.cell (p := ⟨ba, oa + 1, none⟩) hbl).trans a1) d os
  have a2' := fun d os => cell_regrown ((HB4.out.cell (p := ⟨ba, oa + 2, none⟩) hbl).trans a2) d os
  have hP := fun d os => HP.out (grow (redrawn w4 d) os) (below_next HB4.out (below_regrown w4 d os))
  clear HT hb4 HM s5 a0 a1 a2
  go_wp2_with fail
  refine wp_region_quiet_below (by assumption) (by kernel_rfl) ?_
  repeat (go_big_quiet_step (first | (go_at_call 24; with_reducible exact Calls.regrown_of (hP _ _))))
  refine wpQuiet_nil ?_
  intro _ hw'
  obtain ⟨⟨dq, osq⟩, hw''⟩ := hw'
  subst hw''
  have hbq := below_regrown w4 dq osq
  have HB5 : Hid (Below w.heap.size w (grow (redrawn w4 dq) osq)) := below_next HB4.out hbq
  have HR5 : Hid (Blk (grow (redrawn w4 dq) osq) (w.heap.size + 1 + 1) (stC 0 noV nilS) 28) := HR4.out.later hbq
  have HS5 : Hid (Blk (grow (redrawn w4 dq) osq) w.heap.size (stC 3 noV (.slice al n cl)) 28) := HS4.out.later hbq
  clear s5' a0' a1' a2' hP hbq HB4 HR4 HS4 HP
  generalize grow (redrawn w4 dq) osq = w5 at *
  rcases hop with ho | ho | ho
  · subst ho
    obtain ⟨hn1, ho1⟩ := N4.out rfl
    have bx := below_box w5 (.cells #[.slice al k cl, .slice (some ⟨ba, oa, none⟩) 1 ca, .slice a4 n4 c4] 26)
    have HRS : Hid (RSl (w5.alloc (.cells #[.slice al k cl, .slice (some ⟨ba, oa, none⟩) 1 ca, .slice a4 n4 c4] 26)) (.slice (some ⟨w5.heap.size, 0, none⟩) 3 3) [l1, xs, l2]) := rsl_three (HC.out w5 HB5.out).1 (HV.out.later HB5.out) (HC.out w5 HB5.out).2 _
    have HB6 : Hid (Below w.heap.size w (w5.alloc (.cells #[.slice al k cl, .slice (some ⟨ba, oa, none⟩) 1 ca, .slice a4 n4 c4] 26))) := below_next HB5.out bx
    have HR6 : Hid (Blk (w5.alloc (.cells #[.slice al k cl, .slice (some ⟨ba, oa, none⟩) 1 ca, .slice a4 n4 c4] 26)) (w.heap.size + 1 + 1) (stC 0 noV nilS) 28) := HR5.out.later bx
    clear bx HR5 HS5 HC HL
    go_wp2_with fail
    refine (set_any _ _ _ HRS.out HS1.out).mono ?_
    rintro e w7 ⟨u, rfl, hu, hb7⟩
    rw [HAdd.out] at hu
    have HU : Hid (OwnV w7 w.heap.size u la) := hu.base HB6.out.size
    have HR7 : Hid (Blk w7 (w.heap.size + 1 + 1) (stC 0 noV nilS) 28) := HR6.out.later hb7
    have HB7 : Hid (Below w.heap.size w w7) := below_next HB6.out hb7
    obtain ⟨au, cu, hu1, _, _, _⟩ := hu.vsl.form
    generalize la.length = nu at hu1
    subst hu1
    clear hu hb7 HR6 HB6 HRS HB5
    simp only [stC]
    go_wp2_with (first
      | ((with_reducible refine wp_storeB 28 (.tmp 8) (.tmp 39) (w.heap.size + 1 + 1) 0 (stC 3 noV (.slice au nu cu)) (stC 0 noV nilS) 28 ?_ ?_ (stC_one _ _ rfl) ?_ ?_ ?_ HR7.out ?_); (exact infoSt); (exact (show 0 + 6 ≤ 6 by decide)); (exact ⟨rfl, rfl⟩); (exact rfl); (exact rfl); (intro w8 D1 o8); (replace D1 : Blk w8 (w.heap.size + 1 + 1) (stC 3 noV (.slice au nu cu)) 28 := D1); (have HD : Hid (Blk w8 (w.heap.size + 1 + 1) (stC 3 noV (.slice au nu cu)) 28) := D1); (have HB8 : Hid (Below w.heap.size w w8) := below_oth HB7.out o8 HQ.out HQ.out HB7.out.size); (have HU8 : Hid (OwnV w8 w.heap.size (.slice au nu cu) la) := HU.out.oth o8 HR7.out (by decide)); (clear D1 o8)))
    refine ret_blk3 rfl (w.heap.size + 1 + 1) (stC 3 noV (.slice au nu cu)) 28 _ nilS (.bool true) Tryd.underlying28 rfl infoSt rfl HD.out rfl rfl rfl ?_
    exact ⟨nilS, _, rfl, ho1 ▸ OwnV.nil _ _, hn1 ▸ HU8.out.base hB, (fun g hg => by cases hg), HB8.out⟩
  · subst ho
    obtain ⟨hn1, ho1⟩ := N5.out rfl
    have bx := below_box w5 (.cells #[.slice al k cl, .slice a4 n4 c4] 26)
    have HRS : Hid (RSl (w5.alloc (.cells #[.slice al k cl, .slice a4 n4 c4] 26)) (.slice (some ⟨w5.heap.size, 0, none⟩) 2 2) [l1, l2]) := rsl_two (HC.out w5 HB5.out).1 (HC.out w5 HB5.out).2 _
    have HB6 : Hid (Below w.heap.size w (w5.alloc (.cells #[.slice al k cl, .slice a4 n4 c4] 26))) := below_next HB5.out bx
    have HR6 : Hid (Blk (w5.alloc (.cells #[.slice al k cl, .slice a4 n4 c4] 26)) (w.heap.size + 1 + 1) (stC 0 noV nilS) 28) := HR5.out.later bx
    clear bx HR5 HS5 HC HL
    go_wp2_with fail
    refine (set_any _ _ _ HRS.out HS2.out).mono ?_
    rintro e w7 ⟨u, rfl, hu, hb7⟩
    rw [HDel.out] at hu
    have HU : Hid (OwnV w7 w.heap.size u ld) := hu.base HB6.out.size
    have HR7 : Hid (Blk w7 (w.heap.size + 1 + 1) (stC 0 noV nilS) 28) := HR6.out.later hb7
    have HB7 : Hid (Below w.heap.size w w7) := below_next HB6.out hb7
    obtain ⟨au, cu, hu1, _, _, _⟩ := hu.vsl.form
    generalize ld.length = nu at hu1
    subst hu1
    clear hu hb7 HR6 HB6 HRS HB5
    simp only [stC]
    go_wp2_with (first
      | ((with_reducible refine wp_storeB 28 (.tmp 8) (.tmp 45) (w.heap.size + 1 + 1) 0 (stC 3 noV (.slice au nu cu)) (stC 0 noV nilS) 28 ?_ ?_ (stC_one _ _ rfl) ?_ ?_ ?_ HR7.out ?_); (exact infoSt); (exact (show 0 + 6 ≤ 6 by decide)); (exact ⟨rfl, rfl⟩); (exact rfl); (exact rfl); (intro w8 D1 o8); (replace D1 : Blk w8 (w.heap.size + 1 + 1) (stC 3 noV (.slice au nu cu)) 28 := D1); (have HD : Hid (Blk w8 (w.heap.size + 1 + 1) (stC 3 noV (.slice au nu cu)) 28) := D1); (have HB8 : Hid (Below w.heap.size w w8) := below_oth HB7.out o8 HQ.out HQ.out HB7.out.size); (have HU8 : Hid (OwnV w8 w.heap.size (.slice au nu cu) ld) := HU.out.oth o8 HR7.out (by decide)); (clear D1 o8)))
    refine ret_blk3 rfl (w.heap.size + 1 + 1) (stC 3 noV (.slice au nu cu)) 28 _ nilS (.bool true) Tryd.underlying28 rfl infoSt rfl HD.out rfl rfl rfl ?_
    exact ⟨nilS, _, rfl, ho1 ▸ OwnV.nil _ _, hn1 ▸ HU8.out.base hB, (fun g hg => by cases hg), HB8.out⟩
  · subst ho
    obtain ⟨hn1, ho1⟩ := N6.out rfl
    have hF := fun w => flag_anyB hit w
    generalize yesV hit = z at hF ho1
    simp only [encV] at hF
    have bx := below_box w5 (.cells #[.slice al n cl] 26)
    have HRS : Hid (RSl (w5.alloc (.cells #[.slice al n cl] 26)) (.slice (some ⟨w5.heap.size, 0, none⟩) 1 1) [l]) := rsl_one (HL.out.later HB5.out) _
    have HB6 : Hid (Below w.heap.size w (w5.alloc (.cells #[.slice al n cl] 26))) := below_next HB5.out bx
    have HR6 : Hid (Blk (w5.alloc (.cells #[.slice al n cl] 26)) (w.heap.size + 1 + 1) (stC 0 noV nilS) 28) := HR5.out.later bx
    obtain ⟨_, _, _, _, _, s5⟩ := st_cells HS5.out
    clear bx HR5 HS5 HC HL
    go_wp2_with fail
    refine (set_any _ _ _ HRS.out HS3.out).mono ?_
    rintro e w7 ⟨u, rfl, hu, hb7⟩
    rw [List.flatten_singleton] at hu
    have HU : Hid (OwnV w7 w.heap.size u l) := hu.base HB6.out.size
    have HR7 : Hid (Blk w7 (w.heap.size + 1 + 1) (stC 0 noV nilS) 28) := HR6.out.later hb7
    have HB7 : Hid (Below w.heap.size w w7) := below_next HB6.out hb7
    obtain ⟨au, cu, hu1, _, _, _⟩ := hu.vsl.form
    generalize l.length = nu at hu1
    subst hu1
    clear hu hb7 HR6 HB6 HRS HB5 s5
    simp only [stC]
    go_wp2_with fail
    refine (hF _).mono ?_
    rintro e w8 ⟨rfl, hb8⟩
    have HU8 : Hid (OwnV w8 w.heap.size (.slice au nu cu) l) := HU.out.later hb8
    have HR8 : Hid (Blk w8 (w.heap.size + 1 + 1) (stC 0 noV nilS) 28) := HR7.out.later hb8
    have HB8 : Hid (Below w.heap.size w w8) := below_next HB7.out hb8
    have HW8 : Hid (w.heap.size ≤ w8.heap.size) := HB8.out.size
    have hy := own_one w8 w8.heap.size (Nat.le_refl _) z
    have by8 := below_box w8 (.cells (encV z).toArray 25)
    have HY9 : Hid (OwnV (w8.alloc (.cells #[.int .i64 z.1, .int .i64 z.2.1, .string z.2.2] 25)) w8.heap.size (.slice (some ⟨w8.heap.size, 0, none⟩) 1 1) [z]) := hy
    have HU9 : Hid (OwnV (w8.alloc (.cells #[.int .i64 z.1, .int .i64 z.2.1, .string z.2.2] 25)) w.heap.size (.slice au nu cu) l) := HU8.out.later by8
    have HR9 : Hid (Blk (w8.alloc (.cells #[.int .i64 z.1, .int .i64 z.2.1, .string z.2.2] 25)) (w.heap.size + 1 + 1) (stC 0 noV nilS) 28) := HR8.out.later by8
    have HB9 : Hid (Below w.heap.size w (w8.alloc (.cells #[.int .i64 z.1, .int .i64 z.2.1, .string z.2.2] 25))) := below_next HB8.out by8
    have HA : Hid (∀ g, (Value.slice au nu cu).ownBlock = some g → g < w8.heap.size) := fun g hg => (HU8.out.lt g hg).2
    clear hy by8 HU8 HR8 HB8 hb8 hF HU HR7 HB7
    go_wp2_with (first
      | ((with_reducible refine wp_storeB 28 (.tmp 8) (.tmp 49) (w.heap.size + 1 + 1) 0 (stC 3 noV (.slice au nu cu)) (stC 0 noV nilS) 28 ?_ ?_ (stC_one _ _ rfl) ?_ ?_ ?_ HR9.out ?_); (exact infoSt); (exact (show 0 + 6 ≤ 6 by decide)); (exact ⟨rfl, rfl⟩); (exact rfl); (exact rfl); (intro w10 D1 o10); (replace D1 : Blk w10 (w.heap.size + 1 + 1) (stC 3 noV (.slice au nu cu)) 28 := D1); (have HD : Hid (Blk w10 (w.heap.size + 1 + 1) (stC 3 noV (.slice au nu cu)) 28) := D1); (have HB10 : Hid (Below w.heap.size w w10) := below_oth HB9.out o10 HQ.out HQ.out HB9.out.size); (have HU10 : Hid (OwnV w10 w.heap.size (.slice au nu cu) l) := HU9.out.oth o10 HR9.out (by decide)); (have HY10 : Hid (OwnV w10 w8.heap.size (.slice (some ⟨w8.heap.size, 0, none⟩) 1 1) [z]) := HY9.out.oth o10 HR9.out (by decide)); (clear D1 o10)))
    refine ret_blk3 rfl (w.heap.size + 1 + 1) (stC 3 noV (.slice au nu cu)) 28 _ (.slice (some ⟨w8.heap.size, 0, none⟩) 1 1) (.bool true) Tryd.underlying28 rfl infoSt rfl HD.out rfl rfl rfl ?_
    refine ⟨_, _, rfl, ho1 ▸ HY10.out.base HW8.out, hn1 ▸ HU10.out.base hB, (fun g hg e => ?_), HB10.out⟩
    injection hg with hg
    have hg : w8.heap.size = g := hg
    have := HA.out g e
    omega
theorem bag_ok : BagOK := ⟨new_anyB, fun m c vl l o va xs w ht hl hv hz hc h => step_noB m noV c vl o va xs w ht hv hz hc h, fun B c vl l o va xs w hB ht hl hs hn hv hz hc hd => step_yesB B c vl l o va xs w hB ht hl.vsl hs hn hv hz hc hd⟩
end Go.Proofs.YtgiefgmhjcjabaaDoor
