/- The program's New and Step are as the chapter says of locks and counters. Conditions: sizes; the table of signs lies in memory. -/
import Derived.Test.YtpboleifllcehaaDoorJX
import Derived.Test.YtpboleifllcehaaDoorJS
namespace Go.Proofs.YtpboleifllcehaaDoor
open Go.RowKit Go.PlainAid Ln Go.Sort
set_option linter.unusedVariables false
set_option linter.unusedSimpArgs false

set_option maxHeartbeats 4000000 in
theorem step_noH (m : Int) (x : VN) (c : Val) (l : Value) (o : Int) (va : Value) (xs : List Val) (w : World) (ht : Tb w) (hv : VSl w va xs) (hs : SzV xs) (hc : c.2.2.size ≤ 4611686018427387904) (h : (ownH m && mayD m ⟨c, o, xs⟩) = false) :
    Calls Tryd.prog 13 #[.agg (stH m x l).toArray, .agg #[.int .i64 c.1, .int .i64 c.2.1, .string c.2.2], .int .i64 o, va] w fun e w' => e = .returned (.tuple #[.agg (stC 0 noV nilS).toArray, nilS, .bool false]) ∧ Below w.heap.size w w' := by
  have hM := fun w' (hb : Below w.heap.size w w') => may_anyH m c o va xs w' (ht.later hb) (hv.later hb) hs hc
  rw [h] at hM
  have HM : Hid (∀ w', Below w.heap.size w w' → Calls Tryd.prog 22 #[.int .i64 m, .agg #[.int .i64 c.1, .int .i64 c.2.1, .string c.2.2], .int .i64 o, va] w' fun e w1 => e = .returned (.bool false) ∧ Below w'.heap.size w' w1) := hM
  clear hM hv hs ht hc h
  have T := three_laid w (stH m x l) (encV c) (stC 0 noV nilS) 28 25 28
  have HT : Hid _ := T
  simp only [stC, stH, stN]
  go_enter Tryd.func13, Tryd.ntmps13
  go_wp2_with fail
  refine (HM.out _ HT.out.2.2.2).mono ?_
  rintro e w4 ⟨rfl, hb4⟩
  have R4 := HT.out.2.2.1.later hb4
  have HB4 : Hid (Below w.heap.size w w4) := below_next HT.out.2.2.2 hb4
  have HQ : Hid (w.heap.size ≤ w.heap.size + 1 + 1) := (by omega : w.heap.size ≤ w.heap.size + 1 + 1)
  clear HT T hb4 HM
  go_wp2_with (first
    | ((with_reducible refine wp_storeB 28 (.tmp 8) (.tmp 20) (w.heap.size + 1 + 1) 0 (stC 0 noV nilS) (stC 0 noV nilS) 28 ?_ ?_ (stC_one _ _ rfl) ?_ ?_ ?_ R4 ?_); (exact infoSt); (exact (show 0 + 6 ≤ 6 by decide)); (exact ⟨rfl, rfl⟩); (exact rfl); (exact rfl); (intro w5 D1 o5); (replace D1 : Blk w5 (w.heap.size + 1 + 1) (stC 0 noV nilS) 28 := D1); (have HD : Hid (Blk w5 (w.heap.size + 1 + 1) (stC 0 noV nilS) 28) := D1); (have HB5 : Hid (Below w.heap.size w w5) := below_oth HB4.out o5 HQ.out HQ.out HB4.out.size); (clear D1 o5 HB4)))
  refine ret_blk3 rfl (w.heap.size + 1 + 1) (stC 0 noV nilS) 28 _ nilS (.bool false) Tryd.underlying28 rfl infoSt rfl HD.out rfl rfl rfl ?_
  exact ⟨rfl, HB5.out⟩
theorem len_oneH {xs : List Val} (h : xs.length = 1) : xs = [nv xs 0] := by
  match xs, h with
  | [x], _ => rw [nv_zero]
theorem may_yesH (m o : Int) (c : Val) (va : Value) (xs : List Val) (w : World) (ht : Tb w) (hv : VSl w va xs) (hz : SzV xs) (hc : c.2.2.size ≤ 4611686018427387904) (hm : ownH m = true) (hd : mayD m ⟨c, o, xs⟩ = true) :
    ∀ w', Below w.heap.size w w' → Calls Tryd.prog 22 #[.int .i64 m, .agg #[.int .i64 c.1, .int .i64 c.2.1, .string c.2.2], .int .i64 o, va] w' fun e w1 => e = .returned (.bool true) ∧ Below w'.heap.size w' w1 := by
  intro w' hb
  have hM := may_anyH m c o va xs w' (ht.later hb) (hv.later hb) hz hc
  rw [hd, hm] at hM
  exact hM
set_option maxRecDepth 100000 in
set_option maxHeartbeats 16000000 in
theorem step_lock (v c : Val) (o : Int) (va : Value) (xs : List Val) (w : World) (ho : o = 11 ∨ o = 12) (ht : Tb w) (hv : VSl w va xs) (hz : SzV xs) (hc : c.2.2.size ≤ 4611686018427387904) (hd : mayD 7 ⟨c, o, xs⟩ = true) :
    Calls Tryd.prog 13 #[.agg (stN 7 v 0 nilS).toArray, .agg #[.int .i64 c.1, .int .i64 c.2.1, .string c.2.2], .int .i64 o, va] w fun e w' => ∃ vo, e = .returned (.tuple #[.agg (stN 7 (nxW v ⟨c, o, xs⟩) 0 nilS).toArray, vo, .bool true]) ∧ OwnV w' w.heap.size vo [yesV (doneB v c o)] ∧ Below w.heap.size w w' := by
  have HM : Hid (∀ w', Below w.heap.size w w' → Calls Tryd.prog 22 #[.int .i64 7, .agg #[.int .i64 c.1, .int .i64 c.2.1, .string c.2.2], .int .i64 o, va] w' fun e w1 => e = .returned (.bool true) ∧ Below w'.heap.size w' w1) := may_yesH 7 o c va xs w ht hv hz hc (by kernel_rfl) hd
  have HU := fun w => turn_any v c o xs ho w
  obtain ⟨x, hx⟩ : ∃ x, nxW v ⟨c, o, xs⟩ = x := ⟨_, rfl⟩
  obtain ⟨y, hy⟩ : ∃ y, yesV (doneB v c o) = y := ⟨_, rfl⟩
  rw [hx, hy] at HU
  rw [hx, hy]
  have HT7 : Hid _ := HU
  clear hx hy HU ho hd hz hc hv ht
  have mixed : Tryd.prog.follows .mixedOrders = true := by kernel_rfl
  have T := three_laid w (stN 7 v 0 nilS) (encV c) (stC 0 noV nilS) 28 25 28
  have HT : Hid _ := T
  simp only [stC, stN]
  clear T
  go_enter Tryd.func13, Tryd.ntmps13
  go_wp2_with fail
  refine (HM.out _ HT.out.2.2.2).mono ?_
  rintro e w4 ⟨rfl, hb4⟩
  have HR4 : Hid (Blk w4 (w.heap.size + 1 + 1) (stC 0 noV nilS) 28) := HT.out.2.2.1.later hb4
  have HC4 : Hid (Blk w4 (w.heap.size + 1) (encV c) 25) := HT.out.2.1.later hb4
  have HS4 : Hid (Blk w4 w.heap.size (stN 7 v 0 nilS) 28) := HT.out.1.later hb4
  have HB4 : Hid (Below w.heap.size w w4) := below_next HT.out.2.2.2 hb4
  have HQ : Hid (w.heap.size ≤ w.heap.size + 1 + 1 ∧ w.heap.size ≠ w.heap.size + 1 + 1) := (by omega : w.heap.size ≤ w.heap.size + 1 + 1 ∧ w.heap.size ≠ w.heap.size + 1 + 1)
  clear HT hb4 HM
  generalize w.heap.size + 1 + 1 = r at *
  generalize w.heap.size + 1 = p1 at *
  obtain ⟨s0, s1, s2, s3, _, _⟩ := stn_cells HS4.out
  obtain ⟨c0, c1, c2⟩ := v_cells HC4.out
  go_wp2_with fail
  refine (HT7.out _).mono ?_
  rintro e w5 ⟨rfl, hb5⟩
  simp only [encV]
  have HR6 : Hid (Blk ((w5.alloc (.cells #[.int .i64 0, .int .i64 0, .string ⟨#[]⟩] 25)).alloc (.cells #[.int .i64 0, .int .i64 0, .string ⟨#[]⟩] 25)) r (stC 0 noV nilS) 28) := ((HR4.out.later hb5).alloc _).alloc _
  have HB6 : Hid (Below w.heap.size w ((w5.alloc (.cells #[.int .i64 0, .int .i64 0, .string ⟨#[]⟩] 25)).alloc (.cells #[.int .i64 0, .int .i64 0, .string ⟨#[]⟩] 25))) := below_more (below_more (below_next HB4.out hb5) _) _
  have T2 := two_laid w5 (encV noV) (encV noV) 25 25
  have HX6 : Hid (Blk ((w5.alloc (.cells #[.int .i64 0, .int .i64 0, .string ⟨#[]⟩] 25)).alloc (.cells #[.int .i64 0, .int .i64 0, .string ⟨#[]⟩] 25)) w5.heap.size (encV noV) 25) := T2.1
  have HY6 : Hid (Blk ((w5.alloc (.cells #[.int .i64 0, .int .i64 0, .string ⟨#[]⟩] 25)).alloc (.cells #[.int .i64 0, .int .i64 0, .string ⟨#[]⟩] 25)) (w5.heap.size + 1) (encV noV) 25) := T2.2.1
  have HQ5 : Hid (w.heap.size ≤ w5.heap.size ∧ r < w5.heap.size) := ⟨(below_next HB4.out hb5).size, Nat.lt_of_lt_of_le HR4.out.lt hb5.size⟩
  have HQ6 : Hid (w.heap.size ≤ w5.heap.size + 1 ∧ w5.heap.size ≠ w5.heap.size + 1 ∧ w5.heap.size ≠ r ∧ w5.heap.size + 1 ≠ r) := by have := HQ5.out; exact (by omega : w.heap.size ≤ w5.heap.size + 1 ∧ w5.heap.size ≠ w5.heap.size + 1 ∧ w5.heap.size ≠ r ∧ w5.heap.size + 1 ≠ r)
  clear T2 hb5 HB4 HR4 HS4 HC4 HT7 s0 s1 s2 s3 c0 c1 c2
  go_wp2_with (first
    | ((with_reducible refine wp_storeB 25 (.tmp 11) (.tmp 30) w5.heap.size 0 (encV x) (encV noV) 25 ?_ ?_ (encV_oneP _) ?_ ?_ ?_ HX6.out ?_); (exact infoVv); (exact (show 0 + 3 ≤ 3 by decide)); (exact ⟨rfl, rfl⟩); (exact rfl); (exact rfl); (intro w7 D1 o7); (replace D1 : Blk w7 w5.heap.size (encV x) 25 := D1); (have HX7 : Hid (Blk w7 w5.heap.size (encV x) 25) := D1); (have HY7 : Hid (Blk w7 (w5.heap.size + 1) (encV noV) 25) := HY6.out.oth o7 (Ne.symm HQ6.out.2.1) (Ne.symm HQ6.out.2.1)); (have HB7 : Hid (Below w.heap.size w w7) := below_oth HB6.out o7 HQ5.out.1 HQ5.out.1 HB6.out.size); (have HR7 : Hid (Blk w7 r (stC 0 noV nilS) 28) := HR6.out.oth o7 (Ne.symm HQ6.out.2.2.1) (Ne.symm HQ6.out.2.2.1)); (clear D1 o7 HX6 HY6 HB6 HR6))
    | ((with_reducible refine wp_storeB 25 (.tmp 12) (.tmp 31) (w5.heap.size + 1) 0 (encV y) (encV noV) 25 ?_ ?_ (encV_oneP _) ?_ ?_ ?_ HY7.out ?_); (exact infoVv); (exact (show 0 + 3 ≤ 3 by decide)); (exact ⟨rfl, rfl⟩); (exact rfl); (exact rfl); (intro w8 D1 o8); (replace D1 : Blk w8 (w5.heap.size + 1) (encV y) 25 := D1); (have HY8 : Hid (Blk w8 (w5.heap.size + 1) (encV y) 25) := D1); (have HX8 : Hid (Blk w8 w5.heap.size (encV x) 25) := HX7.out.oth o8 HQ6.out.2.1 HQ6.out.2.1); (have HB8 : Hid (Below w.heap.size w w8) := below_oth HB7.out o8 HQ6.out.1 HQ6.out.1 HB7.out.size); (have HR8 : Hid (Blk w8 r (stC 0 noV nilS) 28) := HR7.out.oth o8 (Ne.symm HQ6.out.2.2.2) (Ne.symm HQ6.out.2.2.2)); (clear D1 o8 HX7 HY7 HB7 HR7)))
  clear HQ5
  generalize w5.heap.size + 1 = q1 at *
  generalize w5.heap.size = q at *
  rename_i K9 hK9
  obtain ⟨I, hI⟩ : ∃ I : (Nat → Bool) → Act → World → Prop, ∀ L act wx, I L act wx ↔ (fun (L : Nat → Bool) (act : Act) (wx : World) => ∃ (t32 : Value) (t33 : Value) (t34 : Value) (t35 : Value) (t9 : Value) (t10 : Value) (q8 : Nat), act = ⟨#[Value.agg #[Value.int .i64 7, Value.int .i64 v.1, Value.int .i64 v.2.1, Value.string v.2.2, Value.int .i64 0, Value.slice none 0 0], Value.agg #[Value.int .i64 c.1, Value.int .i64 c.2.1, Value.string c.2.2], Value.int .i64 o, va, Value.pointer (some ⟨w.heap.size, 0, none⟩), Value.pointer (some ⟨p1, 0, none⟩), undef, undef, Value.pointer (some ⟨r, 0, none⟩), t9, t10, Value.pointer (some ⟨q, 0, none⟩), Value.pointer (some ⟨q1, 0, none⟩), Value.pointer (some ⟨w.heap.size, 0, none⟩), Value.int .i64 7, Value.agg #[Value.int .i64 c.1, Value.int .i64 c.2.1, Value.string c.2.2], Value.int .i64 o, va, Value.bool true, Value.bool false, undef, Value.pointer (some ⟨w.heap.size, 0, none⟩), Value.int .i64 7, Value.bool true, Value.tuple #[Value.agg #[Value.int .i64 x.1, Value.int .i64 x.2.1, Value.string x.2.2], Value.agg #[Value.int .i64 y.1, Value.int .i64 y.2.1, Value.string y.2.2]], Value.pointer (some ⟨w.heap.size, 1, none⟩), Value.agg #[Value.int .i64 v.1, Value.int .i64 v.2.1, Value.string v.2.2], Value.agg #[Value.int .i64 c.1, Value.int .i64 c.2.1, Value.string c.2.2], Value.int .i64 o, Value.tuple #[Value.agg #[Value.int .i64 x.1, Value.int .i64 x.2.1, Value.string x.2.2], Value.agg #[Value.int .i64 y.1, Value.int .i64 y.2.1, Value.string y.2.2]], Value.agg #[Value.int .i64 x.1, Value.int .i64 x.2.1, Value.string x.2.2], Value.agg #[Value.int .i64 y.1, Value.int .i64 y.2.1, Value.string y.2.2], t32, t33, t34, t35, undef, undef, undef, undef, undef, undef, undef, undef, undef, undef, undef, undef, undef, undef, undef, undef, undef], []⟩ ∧ Hid (Below w.heap.size w wx) ∧ Hid (L 4 = false → Blk wx r (stC 0 noV nilS) 28) ∧ Hid (Blk wx q (encV x) 25) ∧ Hid (Blk wx q1 (encV y) 25) ∧ Hid (L 0 = true → t32 = .agg #[.int .i64 x.1, .int .i64 x.2.1, .string x.2.2]) ∧ Hid (L 1 = true → t33 = .agg (stN 7 x 0 nilS).toArray) ∧ Hid (L 2 = true → t34 = .agg #[.int .i64 y.1, .int .i64 y.2.1, .string y.2.2]) ∧ Hid (L 3 = true → t35 = .slice (some ⟨q8, 0, none⟩) 1 1 ∧ OwnV wx w.heap.size (.slice (some ⟨q8, 0, none⟩) 1 1) [y]) ∧ Hid (L 4 = true → Blk wx r (stN 7 x 0 nilS) 28) ∧ Hid (L 5 = true → t9 = .slice (some ⟨q8, 0, none⟩) 1 1) ∧ Hid (L 6 = true → t10 = .bool true)) L act wx := ⟨_, fun _ _ _ => Iff.rfl⟩
  dsimp only at hI
  have HI : Hid (∀ L act wx, I L act wx ↔ _) := hI
  clear hI
  refine wp_region_inv mixed [[], [0], [], [2], [0, 1], [2, 3], []] (by kernel_rfl) I ?_ ?_ ?_
  · refine (HI.out _ _ _).2 ⟨_, _, _, _, _, _, 0, rfl, ?_, ?_, ?_, ?_, fun h => Bool.noConfusion h, fun h => Bool.noConfusion h, fun h => Bool.noConfusion h, fun h => Bool.noConfusion h, fun h => Bool.noConfusion h, fun h => Bool.noConfusion h, fun h => Bool.noConfusion h⟩
    · exact below_next HB8.out (Stay.drew _)
    · exact fun _ => HR8.out.later (Stay.drew _)
    · exact HX8.out.later (Stay.drew _)
    · exact HY8.out.later (Stay.drew _)
  · intro i hi L act wx hIa hLi hcl hanc
    obtain ⟨t32, t33, t34, t35, t9, t10, q8, rfl, HS, E0, E1, E2, F0, F1, F2, F3, F4, F5, F6⟩ := (HI.out _ _ _).1 hIa
    clear hIa
    have hi' : i = 0 ∨ i = 1 ∨ i = 2 ∨ i = 3 ∨ i = 4 ∨ i = 5 ∨ i = 6 := by have hi : i < 7 := hi; omega
    clear hi
    rcases hi' with rfl | rfl | rfl | rfl | rfl | rfl | rfl
    · refine wpOp_doG 0 (by rfl) (by rfl) ?_
      refine wp_load_mid 25 (.tmp 11) rfl q 0 rfl (encV x) _ (Blk.all E1.out) Tryd.underlying25 rfl infoVv ?_
      simp only [Act.put, List.setIfInBounds_toArray, List.set_cons_zero, List.set_cons_succ]
      have hb : Below wx.heap.size wx wx := Below.refl _ _
      show I (putL L 0) _ _
      exact (HI.out (putL L 0) _ _).2 ⟨_, _, _, _, _, _, q8, rfl, below_next HS.out hb, fun h => (E0.out ((putL_ne (i := 0) (by decide)).symm.trans h)).later hb, E1.out.later hb, E2.out.later hb, fun _ => rfl, fun h => absurd (hcl 1 ((putL_ne (i := 0) (by decide)).symm.trans h) 0 (by decide)) (by rw [hLi]; decide), fun h => (by first | exact F2.out ((putL_ne (i := 0) (by decide)).symm.trans h) | rfl), fun h => (fun q => ⟨(by first | exact q.1 | rfl), q.2.later hb⟩) (F3.out ((putL_ne (i := 0) (by decide)).symm.trans h)), fun h => absurd (hcl 4 ((putL_ne (i := 0) (by decide)).symm.trans h) 0 (by decide)) (by rw [hLi]; decide), fun h => (by first | exact F5.out ((putL_ne (i := 0) (by decide)).symm.trans h) | rfl), fun h => (by first | exact F6.out ((putL_ne (i := 0) (by decide)).symm.trans h) | rfl)⟩
    · have f0 := F0.out (hanc 0 (by decide))
      have g0 := f0
      subst g0
      refine wpOp_doG 1 (by rfl) (by rfl) ?_
      go_wp2_with fail
      have hb : Below wx.heap.size wx wx := Below.refl _ _
      show I (putL L 1) _ _
      exact (HI.out (putL L 1) _ _).2 ⟨_, _, _, _, _, _, q8, rfl, below_next HS.out hb, fun h => (E0.out ((putL_ne (i := 1) (by decide)).symm.trans h)).later hb, E1.out.later hb, E2.out.later hb, fun h => (by first | exact F0.out ((putL_ne (i := 1) (by decide)).symm.trans h) | rfl), fun _ => rfl, fun h => (by first | exact F2.out ((putL_ne (i := 1) (by decide)).symm.trans h) | rfl), fun h => (fun q => ⟨(by first | exact q.1 | rfl), q.2.later hb⟩) (F3.out ((putL_ne (i := 1) (by decide)).symm.trans h)), fun h => absurd (hcl 4 ((putL_ne (i := 1) (by decide)).symm.trans h) 1 (by decide)) (by rw [hLi]; decide), fun h => (by first | exact F5.out ((putL_ne (i := 1) (by decide)).symm.trans h) | rfl), fun h => (by first | exact F6.out ((putL_ne (i := 1) (by decide)).symm.trans h) | rfl)⟩
    · refine wpOp_doG 2 (by rfl) (by rfl) ?_
      refine wp_load_mid 25 (.tmp 12) rfl q1 0 rfl (encV y) _ (Blk.all E2.out) Tryd.underlying25 rfl infoVv ?_
      simp only [Act.put, List.setIfInBounds_toArray, List.set_cons_zero, List.set_cons_succ]
      have hb : Below wx.heap.size wx wx := Below.refl _ _
      show I (putL L 2) _ _
      exact (HI.out (putL L 2) _ _).2 ⟨_, _, _, _, _, _, q8, rfl, below_next HS.out hb, fun h => (E0.out ((putL_ne (i := 2) (by decide)).symm.trans h)).later hb, E1.out.later hb, E2.out.later hb, fun h => (by first | exact F0.out ((putL_ne (i := 2) (by decide)).symm.trans h) | rfl), fun h => (by first | exact F1.out ((putL_ne (i := 2) (by decide)).symm.trans h) | rfl), fun _ => rfl, fun h => absurd (hcl 3 ((putL_ne (i := 2) (by decide)).symm.trans h) 2 (by decide)) (by rw [hLi]; decide), fun h => (fun q => q.later hb) (F4.out ((putL_ne (i := 2) (by decide)).symm.trans h)), fun h => absurd (hcl 5 ((putL_ne (i := 2) (by decide)).symm.trans h) 2 (by decide)) (by rw [hLi]; decide), fun h => (by first | exact F6.out ((putL_ne (i := 2) (by decide)).symm.trans h) | rfl)⟩
    · have f2 := F2.out (hanc 2 (by decide))
      have g2 := f2
      subst g2
      refine wpOp_doG 3 (by rfl) (by rfl) ?_
      go_wp2_with fail
      have HV9 := own_one wx w.heap.size HS.out.size y
      have hb := below_box wx (.cells (encV y).toArray 25)
      change OwnV (wx.alloc (.cells #[.int .i64 y.1, .int .i64 y.2.1, .string y.2.2] 25)) _ _ _ at HV9
      change Below _ wx (wx.alloc (.cells #[.int .i64 y.1, .int .i64 y.2.1, .string y.2.2] 25)) at hb
      show I (putL L 3) _ _
      exact (HI.out (putL L 3) _ _).2 ⟨_, _, _, _, _, _, wx.heap.size, rfl, below_next HS.out hb, fun h => (E0.out ((putL_ne (i := 3) (by decide)).symm.trans h)).later hb, E1.out.later hb, E2.out.later hb, fun h => (by first | exact F0.out ((putL_ne (i := 3) (by decide)).symm.trans h) | rfl), fun h => (by first | exact F1.out ((putL_ne (i := 3) (by decide)).symm.trans h) | rfl), fun h => (by first | exact F2.out ((putL_ne (i := 3) (by decide)).symm.trans h) | rfl), fun _ => ⟨rfl, HV9⟩, fun h => (fun q => q.later hb) (F4.out ((putL_ne (i := 3) (by decide)).symm.trans h)), fun h => absurd (hcl 5 ((putL_ne (i := 3) (by decide)).symm.trans h) 3 (by decide)) (by rw [hLi]; decide), fun h => (by first | exact F6.out ((putL_ne (i := 3) (by decide)).symm.trans h) | rfl)⟩
    · have f0 := F0.out (hanc 0 (by decide))
      have f1 := F1.out (hanc 1 (by decide))
      have g1 := f1
      subst g1
      have BS := E0.out hLi
      refine wpOp_doG 4 (by rfl) (by rfl) ?_
      refine wpo_storeB 28 (.tmp 8) (.tmp 33) r 0 (stN 7 x 0 nilS) (stC 0 noV nilS) 28 infoSt (show 0 + 6 ≤ 6 by decide) (stN_one _ _ _ rfl) rfl rfl rfl BS ?_
      intro wn BP ho
      replace BP : Blk wn r (stN 7 x 0 nilS) 28 := BP
      simp only [Act.put, List.setIfInBounds_toArray, List.set_cons_zero, List.set_cons_succ]
      show I (putL L 4) _ _
      exact (HI.out (putL L 4) _ _).2 ⟨_, _, _, _, _, _, q8, rfl, below_oth HS.out ho HQ.out.1 HQ.out.1 HS.out.size, fun h => (by rw [putL_self] at h; cases h), E1.out.oth ho HQ6.out.2.2.1 HQ6.out.2.2.1, E2.out.oth ho HQ6.out.2.2.2 HQ6.out.2.2.2, fun h => (by first | exact F0.out ((putL_ne (i := 4) (by decide)).symm.trans h) | rfl), fun h => (by first | exact F1.out ((putL_ne (i := 4) (by decide)).symm.trans h) | rfl), fun h => (by first | exact F2.out ((putL_ne (i := 4) (by decide)).symm.trans h) | rfl), fun h => (fun q => ⟨(by first | exact q.1 | rfl), q.2.oth ho BS (by decide)⟩) (F3.out ((putL_ne (i := 4) (by decide)).symm.trans h)), fun _ => BP, fun h => (by first | exact F5.out ((putL_ne (i := 4) (by decide)).symm.trans h) | rfl), fun h => (by first | exact F6.out ((putL_ne (i := 4) (by decide)).symm.trans h) | rfl)⟩
    · have f2 := F2.out (hanc 2 (by decide))
      have f3 := F3.out (hanc 3 (by decide))
      have g3 := f3.1
      subst g3
      refine wpOp_doG 5 (by rfl) (by rfl) ?_
      go_wp2_with fail
      have hb : Below wx.heap.size wx wx := Below.refl _ _
      show I (putL L 5) _ _
      exact (HI.out (putL L 5) _ _).2 ⟨_, _, _, _, _, _, q8, rfl, below_next HS.out hb, fun h => (E0.out ((putL_ne (i := 5) (by decide)).symm.trans h)).later hb, E1.out.later hb, E2.out.later hb, fun h => (by first | exact F0.out ((putL_ne (i := 5) (by decide)).symm.trans h) | rfl), fun h => (by first | exact F1.out ((putL_ne (i := 5) (by decide)).symm.trans h) | rfl), fun h => (by first | exact F2.out ((putL_ne (i := 5) (by decide)).symm.trans h) | rfl), fun h => (fun q => ⟨(by first | exact q.1 | rfl), q.2.later hb⟩) (F3.out ((putL_ne (i := 5) (by decide)).symm.trans h)), fun h => (fun q => q.later hb) (F4.out ((putL_ne (i := 5) (by decide)).symm.trans h)), fun _ => rfl, fun h => (by first | exact F6.out ((putL_ne (i := 5) (by decide)).symm.trans h) | rfl)⟩
    · refine YieldsIf.wpOp (S := fun _ => True) (v := .bool true) (by rfl) (.inl ⟨rfl, fun w _ => rfl⟩) trivial ?_
      simp only [Act.put, List.setIfInBounds_toArray, List.set_cons_zero, List.set_cons_succ]
      have hb : Below wx.heap.size wx wx := Below.refl _ _
      show I (putL L 6) _ _
      exact (HI.out (putL L 6) _ _).2 ⟨_, _, _, _, _, _, q8, rfl, below_next HS.out hb, fun h => (E0.out ((putL_ne (i := 6) (by decide)).symm.trans h)).later hb, E1.out.later hb, E2.out.later hb, fun h => (by first | exact F0.out ((putL_ne (i := 6) (by decide)).symm.trans h) | rfl), fun h => (by first | exact F1.out ((putL_ne (i := 6) (by decide)).symm.trans h) | rfl), fun h => (by first | exact F2.out ((putL_ne (i := 6) (by decide)).symm.trans h) | rfl), fun h => (fun q => ⟨(by first | exact q.1 | rfl), q.2.later hb⟩) (F3.out ((putL_ne (i := 6) (by decide)).symm.trans h)), fun h => (fun q => q.later hb) (F4.out ((putL_ne (i := 6) (by decide)).symm.trans h)), fun h => (by first | exact F5.out ((putL_ne (i := 6) (by decide)).symm.trans h) | rfl), fun _ => rfl⟩
  · intro L act wx hall hIa
    obtain ⟨t32, t33, t34, t35, t9, t10, q8, rfl, HS, E0, E1, E2, F0, F1, F2, F3, F4, F5, F6⟩ := (HI.out _ _ _).1 hIa
    have f0 := F0.out (hall 0 (by decide))
    have f1 := F1.out (hall 1 (by decide))
    have f2 := F2.out (hall 2 (by decide))
    have f3 := F3.out (hall 3 (by decide))
    have f4 := F4.out (hall 4 (by decide))
    have f5 := F5.out (hall 5 (by decide))
    have f6 := F6.out (hall 6 (by decide))
    clear hIa HI F0 F1 F2 F3 F4 F5 F6
    show K9 _ _
    apply hK9
    clear hK9
    have HD : Hid (Blk wx r (stN 7 x 0 nilS) 28) := f4
    have HY : Hid (OwnV wx w.heap.size (.slice (some ⟨q8, 0, none⟩) 1 1) [y]) := f3.2
    have ga := f5
    subst ga
    have gb := f6
    subst gb
    clear E0 E1 E2 f0 f1 f2 f3 f4 f5 f6
    go_wp2
    refine ret_blk3 rfl r (stN 7 x 0 nilS) 28 _ (.slice (some ⟨q8, 0, none⟩) 1 1) (.bool true) Tryd.underlying28 rfl infoSt rfl HD.out rfl rfl rfl ?_
    exact ⟨_, rfl, HY.out, HS.out⟩
set_option maxRecDepth 100000 in
set_option maxHeartbeats 16000000 in
theorem step_add (n : Int) (c : Val) (va : Value) (xs : List Val) (w : World) (hx1 : xs.length = 1) (ht : Tb w) (hv : VSl w va xs) (hz : SzV xs) (hc : c.2.2.size ≤ 4611686018427387904) (hd : mayD 8 ⟨c, 4, xs⟩ = true) :
    Calls Tryd.prog 13 #[.agg (stN 8 noV n nilS).toArray, .agg #[.int .i64 c.1, .int .i64 c.2.1, .string c.2.2], .int .i64 4, va] w fun e w' => e = .returned (.tuple #[.agg (stN 8 noV (i64w (n + (nv xs 0).2.1)) nilS).toArray, nilS, .bool true]) ∧ Below w.heap.size w w' := by
  have HM : Hid (∀ w', Below w.heap.size w w' → Calls Tryd.prog 22 #[.int .i64 8, .agg #[.int .i64 c.1, .int .i64 c.2.1, .string c.2.2], .int .i64 4, va] w' fun e w1 => e = .returned (.bool true) ∧ Below w'.heap.size w' w1) := may_yesH 8 4 c va xs w ht hv hz hc (by kernel_rfl) hd
  obtain ⟨ba, oa, ca, rfl, hbl, hca, hat⟩ := vsl_first hv (by omega)
  have hat0 := hat 0 (by omega)
  rw [Nat.zero_mul, Nat.add_zero] at hat0
  obtain ⟨x, hx⟩ : ∃ x, nv xs 0 = x := ⟨_, rfl⟩
  rw [hx] at hat0 ⊢
  rw [hx1] at HM ⊢
  have HX : Hid (At w ba oa x) := hat0
  have HLt : Hid (ba < w.heap.size) := hbl
  clear hat hat0 hx hx1 hv hz ht hc hd hbl hca
  have mixed : Tryd.prog.follows .mixedOrders = true := by kernel_rfl
  have T := three_laid w (stN 8 noV n nilS) (encV c) (stC 0 noV nilS) 28 25 28
  have HT : Hid _ := T
  simp only [stC, stN]
  clear T
  go_enter Tryd.func13, Tryd.ntmps13
  go_wp2_with fail
  refine (HM.out _ HT.out.2.2.2).mono ?_
  rintro e w4 ⟨rfl, hb4⟩
  have HR4 : Hid (Blk w4 (w.heap.size + 1 + 1) (stC 0 noV nilS) 28) := HT.out.2.2.1.later hb4
  have HC4 : Hid (Blk w4 (w.heap.size + 1) (encV c) 25) := HT.out.2.1.later hb4
  have HS4 : Hid (Blk w4 w.heap.size (stN 8 noV n nilS) 28) := HT.out.1.later hb4
  have HB4 : Hid (Below w.heap.size w w4) := below_next HT.out.2.2.2 hb4
  have HQ : Hid (w.heap.size ≤ w.heap.size + 1 + 1 ∧ w.heap.size ≠ w.heap.size + 1 + 1) := (by omega : w.heap.size ≤ w.heap.size + 1 + 1 ∧ w.heap.size ≠ w.heap.size + 1 + 1)
  clear HT hb4 HM
  generalize w.heap.size + 1 + 1 = r at *
  generalize w.heap.size + 1 = p1 at *
  clear HC4
  obtain ⟨s0, _, _, _, _, _⟩ := stn_cells HS4.out
  go_wp2_with fail
  clear s0
  rename_i K9 hK9
  obtain ⟨I, hI⟩ : ∃ I : (Nat → Bool) → Act → World → Prop, ∀ L act wx, I L act wx ↔ (fun (L : Nat → Bool) (act : Act) (wx : World) => ∃ (t38 : Value) (t39 : Value) (t40 : Value) (t41 : Value) (t42 : Value) (t43 : Value) (t44 : Value) (t45 : Value) (t9 : Value) (t10 : Value) , act = ⟨#[Value.agg #[Value.int .i64 8, Value.int .i64 0, Value.int .i64 0, Value.string noB, Value.int .i64 n, Value.slice none 0 0], Value.agg #[Value.int .i64 c.1, Value.int .i64 c.2.1, Value.string c.2.2], Value.int .i64 4, Value.slice (some ⟨ba, oa, none⟩) 1 ca, Value.pointer (some ⟨w.heap.size, 0, none⟩), Value.pointer (some ⟨p1, 0, none⟩), undef, undef, Value.pointer (some ⟨r, 0, none⟩), t9, t10, undef, undef, Value.pointer (some ⟨w.heap.size, 0, none⟩), Value.int .i64 8, Value.agg #[Value.int .i64 c.1, Value.int .i64 c.2.1, Value.string c.2.2], Value.int .i64 4, Value.slice (some ⟨ba, oa, none⟩) 1 ca, Value.bool true, Value.bool false, undef, Value.pointer (some ⟨w.heap.size, 0, none⟩), Value.int .i64 8, Value.bool false, undef, undef, undef, undef, undef, undef, undef, undef, undef, undef, undef, undef, Value.int .i64 4, Value.bool true, t38, t39, t40, t41, t42, t43, t44, t45, undef, undef, undef, undef, undef, undef, undef], []⟩ ∧ Hid (Below w.heap.size w wx) ∧ Hid (L 8 = false → Blk wx r (stC 0 noV nilS) 28) ∧ Hid (Blk wx w.heap.size (stN 8 noV n nilS) 28) ∧ Hid (L 0 = true → t38 = .pointer (some ⟨w.heap.size, 4, none⟩)) ∧ Hid (L 1 = true → t39 = .int .i64 n) ∧ Hid (L 2 = true → t40 = .slice (some ⟨ba, oa, none⟩) 1 ca) ∧ Hid (L 3 = true → t41 = .pointer (some ⟨ba, oa, none⟩)) ∧ Hid (L 4 = true → t42 = .pointer (some ⟨ba, oa + 1, none⟩)) ∧ Hid (L 5 = true → t43 = .int .i64 x.2.1) ∧ Hid (L 6 = true → t44 = .int .i64 (i64w (n + x.2.1))) ∧ Hid (L 7 = true → t45 = .agg (stN 8 noV (i64w (n + x.2.1)) nilS).toArray) ∧ Hid (L 8 = true → Blk wx r (stN 8 noV (i64w (n + x.2.1)) nilS) 28) ∧ Hid (L 9 = true → t9 = .slice none 0 0) ∧ Hid (L 10 = true → t10 = .bool true)) L act wx := ⟨_, fun _ _ _ => Iff.rfl⟩
  dsimp only at hI
  have HI : Hid (∀ L act wx, I L act wx ↔ _) := hI
  clear hI
  refine wp_region_inv mixed [[], [0], [], [2], [2, 3], [2, 3, 4], [0, 1, 2, 3, 4, 5], [0, 1, 2, 3, 4, 5, 6], [0, 1, 2, 3, 4, 5, 6, 7], [], []] (by kernel_rfl) I ?_ ?_ ?_
  · refine (HI.out _ _ _).2 ⟨_, _, _, _, _, _, _, _, _, _, rfl, ?_, ?_, ?_, fun h => Bool.noConfusion h, fun h => Bool.noConfusion h, fun h => Bool.noConfusion h, fun h => Bool.noConfusion h, fun h => Bool.noConfusion h, fun h => Bool.noConfusion h, fun h => Bool.noConfusion h, fun h => Bool.noConfusion h, fun h => Bool.noConfusion h, fun h => Bool.noConfusion h, fun h => Bool.noConfusion h⟩
    · exact below_next HB4.out (Stay.drew _)
    · exact fun _ => HR4.out.later (Stay.drew _)
    · exact HS4.out.later (Stay.drew _)
  · intro i hi L act wx hIa hLi hcl hanc
    obtain ⟨t38, t39, t40, t41, t42, t43, t44, t45, t9, t10, rfl, HS, E0, E1, F0, F1, F2, F3, F4, F5, F6, F7, F8, F9, F10⟩ := (HI.out _ _ _).1 hIa
    clear hIa
    have hi' : i = 0 ∨ i = 1 ∨ i = 2 ∨ i = 3 ∨ i = 4 ∨ i = 5 ∨ i = 6 ∨ i = 7 ∨ i = 8 ∨ i = 9 ∨ i = 10 := by have hi : i < 11 := hi; omega
    clear hi
    rcases hi' with rfl | rfl | rfl | rfl | rfl | rfl | rfl | rfl | rfl | rfl | rfl
    · refine wpOp_doG 0 (by rfl) (by rfl) ?_
      go_wp2_with fail
      have hb : Below wx.heap.size wx wx := Below.refl _ _
      show I (putL L 0) _ _
      exact (HI.out (putL L 0) _ _).2 ⟨_, _, _, _, _, _, _, _, _, _, rfl, below_next HS.out hb, fun h => (E0.out ((putL_ne (i := 0) (by decide)).symm.trans h)).later hb, E1.out.later hb, fun _ => rfl, fun h => absurd (hcl 1 ((putL_ne (i := 0) (by decide)).symm.trans h) 0 (by decide)) (by rw [hLi]; decide), fun h => (by first | exact F2.out ((putL_ne (i := 0) (by decide)).symm.trans h) | rfl), fun h => (by first | exact F3.out ((putL_ne (i := 0) (by decide)).symm.trans h) | rfl), fun h => (by first | exact F4.out ((putL_ne (i := 0) (by decide)).symm.trans h) | rfl), fun h => (by first | exact F5.out ((putL_ne (i := 0) (by decide)).symm.trans h) | rfl), fun h => absurd (hcl 6 ((putL_ne (i := 0) (by decide)).symm.trans h) 0 (by decide)) (by rw [hLi]; decide), fun h => absurd (hcl 7 ((putL_ne (i := 0) (by decide)).symm.trans h) 0 (by decide)) (by rw [hLi]; decide), fun h => absurd (hcl 8 ((putL_ne (i := 0) (by decide)).symm.trans h) 0 (by decide)) (by rw [hLi]; decide), fun h => (by first | exact F9.out ((putL_ne (i := 0) (by decide)).symm.trans h) | rfl), fun h => (by first | exact F10.out ((putL_ne (i := 0) (by decide)).symm.trans h) | rfl)⟩
    · have f0 := F0.out (hanc 0 (by decide))
      have g0 := f0
      subst g0
      refine wpOp_doG 1 (by rfl) (by rfl) ?_
      obtain ⟨s0, _, _, _, s4, _⟩ := stn_cells E1.out
      go_wp2_with fail
      have hb : Below wx.heap.size wx wx := Below.refl _ _
      show I (putL L 1) _ _
      exact (HI.out (putL L 1) _ _).2 ⟨_, _, _, _, _, _, _, _, _, _, rfl, below_next HS.out hb, fun h => (E0.out ((putL_ne (i := 1) (by decide)).symm.trans h)).later hb, E1.out.later hb, fun h => (by first | exact F0.out ((putL_ne (i := 1) (by decide)).symm.trans h) | rfl), fun _ => rfl, fun h => (by first | exact F2.out ((putL_ne (i := 1) (by decide)).symm.trans h) | rfl), fun h => (by first | exact F3.out ((putL_ne (i := 1) (by decide)).symm.trans h) | rfl), fun h => (by first | exact F4.out ((putL_ne (i := 1) (by decide)).symm.trans h) | rfl), fun h => (by first | exact F5.out ((putL_ne (i := 1) (by decide)).symm.trans h) | rfl), fun h => absurd (hcl 6 ((putL_ne (i := 1) (by decide)).symm.trans h) 1 (by decide)) (by rw [hLi]; decide), fun h => absurd (hcl 7 ((putL_ne (i := 1) (by decide)).symm.trans h) 1 (by decide)) (by rw [hLi]; decide), fun h => absurd (hcl 8 ((putL_ne (i := 1) (by decide)).symm.trans h) 1 (by decide)) (by rw [hLi]; decide), fun h => (by first | exact F9.out ((putL_ne (i := 1) (by decide)).symm.trans h) | rfl), fun h => (by first | exact F10.out ((putL_ne (i := 1) (by decide)).symm.trans h) | rfl)⟩
    · refine YieldsIf.wpOp (S := fun _ => True) (v := .slice (some ⟨ba, oa, none⟩) 1 ca) (by rfl) (.inl ⟨rfl, fun w _ => rfl⟩) trivial ?_
      simp only [Act.put, List.setIfInBounds_toArray, List.set_cons_zero, List.set_cons_succ]
      have hb : Below wx.heap.size wx wx := Below.refl _ _
      show I (putL L 2) _ _
      exact (HI.out (putL L 2) _ _).2 ⟨_, _, _, _, _, _, _, _, _, _, rfl, below_next HS.out hb, fun h => (E0.out ((putL_ne (i := 2) (by decide)).symm.trans h)).later hb, E1.out.later hb, fun h => (by first | exact F0.out ((putL_ne (i := 2) (by decide)).symm.trans h) | rfl), fun h => (by first | exact F1.out ((putL_ne (i := 2) (by decide)).symm.trans h) | rfl), fun _ => rfl, fun h => absurd (hcl 3 ((putL_ne (i := 2) (by decide)).symm.trans h) 2 (by decide)) (by rw [hLi]; decide), fun h => absurd (hcl 4 ((putL_ne (i := 2) (by decide)).symm.trans h) 2 (by decide)) (by rw [hLi]; decide), fun h => absurd (hcl 5 ((putL_ne (i := 2) (by decide)).symm.trans h) 2 (by decide)) (by rw [hLi]; decide), fun h => absurd (hcl 6 ((putL_ne (i := 2) (by decide)).symm.trans h) 2 (by decide)) (by rw [hLi]; decide), fun h => absurd (hcl 7 ((putL_ne (i := 2) (by decide)).symm.trans h) 2 (by decide)) (by rw [hLi]; decide), fun h => absurd (hcl 8 ((putL_ne (i := 2) (by decide)).symm.trans h) 2 (by decide)) (by rw [hLi]; decide), fun h => (by first | exact F9.out ((putL_ne (i := 2) (by decide)).symm.trans h) | rfl), fun h => (by first | exact F10.out ((putL_ne (i := 2) (by decide)).symm.trans h) | rfl)⟩
    · have f2 := F2.out (hanc 2 (by decide))
      have g2 := f2
      subst g2
      refine wpOp_doG 3 (by rfl) (by rfl) ?_
      go_wp2_with fail
      have hb : Below wx.heap.size wx wx := Below.refl _ _
      show I (putL L 3) _ _
      exact (HI.out (putL L 3) _ _).2 ⟨_, _, _, _, _, _, _, _, _, _, rfl, below_next HS.out hb, fun h => (E0.out ((putL_ne (i := 3) (by decide)).symm.trans h)).later hb, E1.out.later hb, fun h => (by first | exact F0.out ((putL_ne (i := 3) (by decide)).symm.trans h) | rfl), fun h => (by first | exact F1.out ((putL_ne (i := 3) (by decide)).symm.trans h) | rfl), fun h => (by first | exact F2.out ((putL_ne (i := 3) (by decide)).symm.trans h) | rfl), fun _ => rfl, fun h => absurd (hcl 4 ((putL_ne (i := 3) (by decide)).symm.trans h) 3 (by decide)) (by rw [hLi]; decide), fun h => absurd (hcl 5 ((putL_ne (i := 3) (by decide)).symm.trans h) 3 (by decide)) (by rw [hLi]; decide), fun h => absurd (hcl 6 ((putL_ne (i := 3) (by decide)).symm.trans h) 3 (by decide)) (by rw [hLi]; decide), fun h => absurd (hcl 7 ((putL_ne (i := 3) (by decide)).symm.trans h) 3 (by decide)) (by rw [hLi]; decide), fun h => absurd (hcl 8 ((putL_ne (i := 3) (by decide)).symm.trans h) 3 (by decide)) (by rw [hLi]; decide), fun h => (by first | exact F9.out ((putL_ne (i := 3) (by decide)).symm.trans h) | rfl), fun h => (by first | exact F10.out ((putL_ne (i := 3) (by decide)).symm.trans h) | rfl)⟩
    · have f2 := F2.out (hanc 2 (by decide))
      have f3 := F3.out (hanc 3 (by decide))
      have g3 := f3
      subst g3
      refine wpOp_doG 4 (by rfl) (by rfl) ?_
      go_wp2_with fail
      have hb : Below wx.heap.size wx wx := Below.refl _ _
      show I (putL L 4) _ _
      exact (HI.out (putL L 4) _ _).2 ⟨_, _, _, _, _, _, _, _, _, _, rfl, below_next HS.out hb, fun h => (E0.out ((putL_ne (i := 4) (by decide)).symm.trans h)).later hb, E1.out.later hb, fun h => (by first | exact F0.out ((putL_ne (i := 4) (by decide)).symm.trans h) | rfl), fun h => (by first | exact F1.out ((putL_ne (i := 4) (by decide)).symm.trans h) | rfl), fun h => (by first | exact F2.out ((putL_ne (i := 4) (by decide)).symm.trans h) | rfl), fun h => (by first | exact F3.out ((putL_ne (i := 4) (by decide)).symm.trans h) | rfl), fun _ => rfl, fun h => absurd (hcl 5 ((putL_ne (i := 4) (by decide)).symm.trans h) 4 (by decide)) (by rw [hLi]; decide), fun h => absurd (hcl 6 ((putL_ne (i := 4) (by decide)).symm.trans h) 4 (by decide)) (by rw [hLi]; decide), fun h => absurd (hcl 7 ((putL_ne (i := 4) (by decide)).symm.trans h) 4 (by decide)) (by rw [hLi]; decide), fun h => absurd (hcl 8 ((putL_ne (i := 4) (by decide)).symm.trans h) 4 (by decide)) (by rw [hLi]; decide), fun h => (by first | exact F9.out ((putL_ne (i := 4) (by decide)).symm.trans h) | rfl), fun h => (by first | exact F10.out ((putL_ne (i := 4) (by decide)).symm.trans h) | rfl)⟩
    · have f2 := F2.out (hanc 2 (by decide))
      have f3 := F3.out (hanc 3 (by decide))
      have f4 := F4.out (hanc 4 (by decide))
      have g4 := f4
      subst g4
      refine wpOp_doG 5 (by rfl) (by rfl) ?_
      obtain ⟨x0, x1, x2⟩ := HX.out.later HLt.out HS.out
      go_wp2_with fail
      have hb : Below wx.heap.size wx wx := Below.refl _ _
      show I (putL L 5) _ _
      exact (HI.out (putL L 5) _ _).2 ⟨_, _, _, _, _, _, _, _, _, _, rfl, below_next HS.out hb, fun h => (E0.out ((putL_ne (i := 5) (by decide)).symm.trans h)).later hb, E1.out.later hb, fun h => (by first | exact F0.out ((putL_ne (i := 5) (by decide)).symm.trans h) | rfl), fun h => (by first | exact F1.out ((putL_ne (i := 5) (by decide)).symm.trans h) | rfl), fun h => (by first | exact F2.out ((putL_ne (i := 5) (by decide)).symm.trans h) | rfl), fun h => (by first | exact F3.out ((putL_ne (i := 5) (by decide)).symm.trans h) | rfl), fun h => (by first | exact F4.out ((putL_ne (i := 5) (by decide)).symm.trans h) | rfl), fun _ => rfl, fun h => absurd (hcl 6 ((putL_ne (i := 5) (by decide)).symm.trans h) 5 (by decide)) (by rw [hLi]; decide), fun h => absurd (hcl 7 ((putL_ne (i := 5) (by decide)).symm.trans h) 5 (by decide)) (by rw [hLi]; decide), fun h => absurd (hcl 8 ((putL_ne (i := 5) (by decide)).symm.trans h) 5 (by decide)) (by rw [hLi]; decide), fun h => (by first | exact F9.out ((putL_ne (i := 5) (by decide)).symm.trans h) | rfl), fun h => (by first | exact F10.out ((putL_ne (i := 5) (by decide)).symm.trans h) | rfl)⟩
    · have f0 := F0.out (hanc 0 (by decide))
      have f1 := F1.out (hanc 1 (by decide))
      have f2 := F2.out (hanc 2 (by decide))
      have f3 := F3.out (hanc 3 (by decide))
      have f4 := F4.out (hanc 4 (by decide))
      have f5 := F5.out (hanc 5 (by decide))
      have g1 := f1
      subst g1
      have g5 := f5
      subst g5
      refine wpOp_doG 6 (by rfl) (by rfl) ?_
      go_wp2_with fail
      have hb : Below wx.heap.size wx wx := Below.refl _ _
      show I (putL L 6) _ _
      exact (HI.out (putL L 6) _ _).2 ⟨_, _, _, _, _, _, _, _, _, _, rfl, below_next HS.out hb, fun h => (E0.out ((putL_ne (i := 6) (by decide)).symm.trans h)).later hb, E1.out.later hb, fun h => (by first | exact F0.out ((putL_ne (i := 6) (by decide)).symm.trans h) | rfl), fun h => (by first | exact F1.out ((putL_ne (i := 6) (by decide)).symm.trans h) | rfl), fun h => (by first | exact F2.out ((putL_ne (i := 6) (by decide)).symm.trans h) | rfl), fun h => (by first | exact F3.out ((putL_ne (i := 6) (by decide)).symm.trans h) | rfl), fun h => (by first | exact F4.out ((putL_ne (i := 6) (by decide)).symm.trans h) | rfl), fun h => (by first | exact F5.out ((putL_ne (i := 6) (by decide)).symm.trans h) | rfl), fun _ => rfl, fun h => absurd (hcl 7 ((putL_ne (i := 6) (by decide)).symm.trans h) 6 (by decide)) (by rw [hLi]; decide), fun h => absurd (hcl 8 ((putL_ne (i := 6) (by decide)).symm.trans h) 6 (by decide)) (by rw [hLi]; decide), fun h => (by first | exact F9.out ((putL_ne (i := 6) (by decide)).symm.trans h) | rfl), fun h => (by first | exact F10.out ((putL_ne (i := 6) (by decide)).symm.trans h) | rfl)⟩
    · have f0 := F0.out (hanc 0 (by decide))
      have f1 := F1.out (hanc 1 (by decide))
      have f2 := F2.out (hanc 2 (by decide))
      have f3 := F3.out (hanc 3 (by decide))
      have f4 := F4.out (hanc 4 (by decide))
      have f5 := F5.out (hanc 5 (by decide))
      have f6 := F6.out (hanc 6 (by decide))
      have g6 := f6
      subst g6
      refine wpOp_doG 7 (by rfl) (by rfl) ?_
      go_wp2_with fail
      have hb : Below wx.heap.size wx wx := Below.refl _ _
      show I (putL L 7) _ _
      exact (HI.out (putL L 7) _ _).2 ⟨_, _, _, _, _, _, _, _, _, _, rfl, below_next HS.out hb, fun h => (E0.out ((putL_ne (i := 7) (by decide)).symm.trans h)).later hb, E1.out.later hb, fun h => (by first | exact F0.out ((putL_ne (i := 7) (by decide)).symm.trans h) | rfl), fun h => (by first | exact F1.out ((putL_ne (i := 7) (by decide)).symm.trans h) | rfl), fun h => (by first | exact F2.out ((putL_ne (i := 7) (by decide)).symm.trans h) | rfl), fun h => (by first | exact F3.out ((putL_ne (i := 7) (by decide)).symm.trans h) | rfl), fun h => (by first | exact F4.out ((putL_ne (i := 7) (by decide)).symm.trans h) | rfl), fun h => (by first | exact F5.out ((putL_ne (i := 7) (by decide)).symm.trans h) | rfl), fun h => (by first | exact F6.out ((putL_ne (i := 7) (by decide)).symm.trans h) | rfl), fun _ => rfl, fun h => absurd (hcl 8 ((putL_ne (i := 7) (by decide)).symm.trans h) 7 (by decide)) (by rw [hLi]; decide), fun h => (by first | exact F9.out ((putL_ne (i := 7) (by decide)).symm.trans h) | rfl), fun h => (by first | exact F10.out ((putL_ne (i := 7) (by decide)).symm.trans h) | rfl)⟩
    · have f0 := F0.out (hanc 0 (by decide))
      have f1 := F1.out (hanc 1 (by decide))
      have f2 := F2.out (hanc 2 (by decide))
      have f3 := F3.out (hanc 3 (by decide))
      have f4 := F4.out (hanc 4 (by decide))
      have f5 := F5.out (hanc 5 (by decide))
      have f6 := F6.out (hanc 6 (by decide))
      have f7 := F7.out (hanc 7 (by decide))
      have g7 := f7
      subst g7
      have BS := E0.out hLi
      refine wpOp_doG 8 (by rfl) (by rfl) ?_
      refine wpo_storeB 28 (.tmp 8) (.tmp 45) r 0 (stN 8 noV (i64w (n + x.2.1)) nilS) (stC 0 noV nilS) 28 infoSt (show 0 + 6 ≤ 6 by decide) (stN_one _ _ _ rfl) rfl rfl rfl BS ?_
      intro wn BP ho
      replace BP : Blk wn r (stN 8 noV (i64w (n + x.2.1)) nilS) 28 := BP
      simp only [Act.put, List.setIfInBounds_toArray, List.set_cons_zero, List.set_cons_succ]
      show I (putL L 8) _ _
      exact (HI.out (putL L 8) _ _).2 ⟨_, _, _, _, _, _, _, _, _, _, rfl, below_oth HS.out ho HQ.out.1 HQ.out.1 HS.out.size, fun h => (by rw [putL_self] at h; cases h), E1.out.oth ho HQ.out.2 HQ.out.2, fun h => (by first | exact F0.out ((putL_ne (i := 8) (by decide)).symm.trans h) | rfl), fun h => (by first | exact F1.out ((putL_ne (i := 8) (by decide)).symm.trans h) | rfl), fun h => (by first | exact F2.out ((putL_ne (i := 8) (by decide)).symm.trans h) | rfl), fun h => (by first | exact F3.out ((putL_ne (i := 8) (by decide)).symm.trans h) | rfl), fun h => (by first | exact F4.out ((putL_ne (i := 8) (by decide)).symm.trans h) | rfl), fun h => (by first | exact F5.out ((putL_ne (i := 8) (by decide)).symm.trans h) | rfl), fun h => (by first | exact F6.out ((putL_ne (i := 8) (by decide)).symm.trans h) | rfl), fun h => (by first | exact F7.out ((putL_ne (i := 8) (by decide)).symm.trans h) | rfl), fun _ => BP, fun h => (by first | exact F9.out ((putL_ne (i := 8) (by decide)).symm.trans h) | rfl), fun h => (by first | exact F10.out ((putL_ne (i := 8) (by decide)).symm.trans h) | rfl)⟩
    · refine YieldsIf.wpOp (S := fun _ => True) (v := .slice none 0 0) (by rfl) (.inl ⟨rfl, fun w _ => rfl⟩) trivial ?_
      simp only [Act.put, List.setIfInBounds_toArray, List.set_cons_zero, List.set_cons_succ]
      have hb : Below wx.heap.size wx wx := Below.refl _ _
      show I (putL L 9) _ _
      exact (HI.out (putL L 9) _ _).2 ⟨_, _, _, _, _, _, _, _, _, _, rfl, below_next HS.out hb, fun h => (E0.out ((putL_ne (i := 9) (by decide)).symm.trans h)).later hb, E1.out.later hb, fun h => (by first | exact F0.out ((putL_ne (i := 9) (by decide)).symm.trans h) | rfl), fun h => (by first | exact F1.out ((putL_ne (i := 9) (by decide)).symm.trans h) | rfl), fun h => (by first | exact F2.out ((putL_ne (i := 9) (by decide)).symm.trans h) | rfl), fun h => (by first | exact F3.out ((putL_ne (i := 9) (by decide)).symm.trans h) | rfl), fun h => (by first | exact F4.out ((putL_ne (i := 9) (by decide)).symm.trans h) | rfl), fun h => (by first | exact F5.out ((putL_ne (i := 9) (by decide)).symm.trans h) | rfl), fun h => (by first | exact F6.out ((putL_ne (i := 9) (by decide)).symm.trans h) | rfl), fun h => (by first | exact F7.out ((putL_ne (i := 9) (by decide)).symm.trans h) | rfl), fun h => (fun q => q.later hb) (F8.out ((putL_ne (i := 9) (by decide)).symm.trans h)), fun _ => rfl, fun h => (by first | exact F10.out ((putL_ne (i := 9) (by decide)).symm.trans h) | rfl)⟩
    · refine YieldsIf.wpOp (S := fun _ => True) (v := .bool true) (by rfl) (.inl ⟨rfl, fun w _ => rfl⟩) trivial ?_
      simp only [Act.put, List.setIfInBounds_toArray, List.set_cons_zero, List.set_cons_succ]
      have hb : Below wx.heap.size wx wx := Below.refl _ _
      show I (putL L 10) _ _
      exact (HI.out (putL L 10) _ _).2 ⟨_, _, _, _, _, _, _, _, _, _, rfl, below_next HS.out hb, fun h => (E0.out ((putL_ne (i := 10) (by decide)).symm.trans h)).later hb, E1.out.later hb, fun h => (by first | exact F0.out ((putL_ne (i := 10) (by decide)).symm.trans h) | rfl), fun h => (by first | exact F1.out ((putL_ne (i := 10) (by decide)).symm.trans h) | rfl), fun h => (by first | exact F2.out ((putL_ne (i := 10) (by decide)).symm.trans h) | rfl), fun h => (by first | exact F3.out ((putL_ne (i := 10) (by decide)).symm.trans h) | rfl), fun h => (by first | exact F4.out ((putL_ne (i := 10) (by decide)).symm.trans h) | rfl), fun h => (by first | exact F5.out ((putL_ne (i := 10) (by decide)).symm.trans h) | rfl), fun h => (by first | exact F6.out ((putL_ne (i := 10) (by decide)).symm.trans h) | rfl), fun h => (by first | exact F7.out ((putL_ne (i := 10) (by decide)).symm.trans h) | rfl), fun h => (fun q => q.later hb) (F8.out ((putL_ne (i := 10) (by decide)).symm.trans h)), fun h => (by first | exact F9.out ((putL_ne (i := 10) (by decide)).symm.trans h) | rfl), fun _ => rfl⟩
  · intro L act wx hall hIa
    obtain ⟨t38, t39, t40, t41, t42, t43, t44, t45, t9, t10, rfl, HS, E0, E1, F0, F1, F2, F3, F4, F5, F6, F7, F8, F9, F10⟩ := (HI.out _ _ _).1 hIa
    have f0 := F0.out (hall 0 (by decide))
    have f1 := F1.out (hall 1 (by decide))
    have f2 := F2.out (hall 2 (by decide))
    have f3 := F3.out (hall 3 (by decide))
    have f4 := F4.out (hall 4 (by decide))
    have f5 := F5.out (hall 5 (by decide))
    have f6 := F6.out (hall 6 (by decide))
    have f7 := F7.out (hall 7 (by decide))
    have f8 := F8.out (hall 8 (by decide))
    have f9 := F9.out (hall 9 (by decide))
    have f10 := F10.out (hall 10 (by decide))
    clear hIa HI F0 F1 F2 F3 F4 F5 F6 F7 F8 F9 F10
    show K9 _ _
    apply hK9
    clear hK9
    have HD : Hid (Blk wx r (stN 8 noV (i64w (n + x.2.1)) nilS) 28) := f8
    have ga := f9
    subst ga
    have gb := f10
    subst gb
    clear E0 E1 f0 f1 f2 f3 f4 f5 f6 f7 f8 f9 f10
    go_wp2
    refine ret_blk3 rfl r (stN 8 noV (i64w (n + x.2.1)) nilS) 28 _ nilS (.bool true) Tryd.underlying28 rfl infoSt rfl HD.out rfl rfl rfl ?_
    exact ⟨rfl, HS.out⟩
set_option maxRecDepth 100000 in
set_option maxHeartbeats 16000000 in
theorem step_read (n : Int) (c : Val) (va : Value) (xs : List Val) (w : World) (ht : Tb w) (hv : VSl w va xs) (hz : SzV xs) (hc : c.2.2.size ≤ 4611686018427387904) (hd : mayD 8 ⟨c, 2, xs⟩ = true) :
    Calls Tryd.prog 13 #[.agg (stN 8 noV n nilS).toArray, .agg #[.int .i64 c.1, .int .i64 c.2.1, .string c.2.2], .int .i64 2, va] w fun e w' => ∃ vo, e = .returned (.tuple #[.agg (stN 8 noV n nilS).toArray, vo, .bool true]) ∧ OwnV w' w.heap.size vo [(1, n, noB)] ∧ Below w.heap.size w w' := by
  have HM : Hid (∀ w', Below w.heap.size w w' → Calls Tryd.prog 22 #[.int .i64 8, .agg #[.int .i64 c.1, .int .i64 c.2.1, .string c.2.2], .int .i64 2, va] w' fun e w1 => e = .returned (.bool true) ∧ Below w'.heap.size w' w1) := may_yesH 8 2 c va xs w ht hv hz hc (by kernel_rfl) hd
  clear hv hz ht hc hd
  have mixed : Tryd.prog.follows .mixedOrders = true := by kernel_rfl
  have T := three_laid w (stN 8 noV n nilS) (encV c) (stC 0 noV nilS) 28 25 28
  have HT : Hid _ := T
  simp only [stC, stN]
  clear T
  go_enter Tryd.func13, Tryd.ntmps13
  go_wp2_with fail
  refine (HM.out _ HT.out.2.2.2).mono ?_
  rintro e w4 ⟨rfl, hb4⟩
  have HR4 : Hid (Blk w4 (w.heap.size + 1 + 1) (stC 0 noV nilS) 28) := HT.out.2.2.1.later hb4
  have HC4 : Hid (Blk w4 (w.heap.size + 1) (encV c) 25) := HT.out.2.1.later hb4
  have HS4 : Hid (Blk w4 w.heap.size (stN 8 noV n nilS) 28) := HT.out.1.later hb4
  have HB4 : Hid (Below w.heap.size w w4) := below_next HT.out.2.2.2 hb4
  have HQ : Hid (w.heap.size ≤ w.heap.size + 1 + 1 ∧ w.heap.size ≠ w.heap.size + 1 + 1) := (by omega : w.heap.size ≤ w.heap.size + 1 + 1 ∧ w.heap.size ≠ w.heap.size + 1 + 1)
  clear HT hb4 HM
  generalize w.heap.size + 1 + 1 = r at *
  generalize w.heap.size + 1 = p1 at *
  clear HC4
  obtain ⟨s0, _, _, _, _, _⟩ := stn_cells HS4.out
  go_wp2_with fail
  clear s0
  rename_i K9 hK9
  obtain ⟨I, hI⟩ : ∃ I : (Nat → Bool) → Act → World → Prop, ∀ L act wx, I L act wx ↔ (fun (L : Nat → Bool) (act : Act) (wx : World) => ∃ (t46 : Value) (t47 : Value) (t48 : Value) (t49 : Value) (t50 : Value) (t51 : Value) (t52 : Value) (t9 : Value) (t10 : Value) (q8 : Nat), act = ⟨#[Value.agg #[Value.int .i64 8, Value.int .i64 0, Value.int .i64 0, Value.string noB, Value.int .i64 n, Value.slice none 0 0], Value.agg #[Value.int .i64 c.1, Value.int .i64 c.2.1, Value.string c.2.2], Value.int .i64 2, va, Value.pointer (some ⟨w.heap.size, 0, none⟩), Value.pointer (some ⟨p1, 0, none⟩), undef, undef, Value.pointer (some ⟨r, 0, none⟩), t9, t10, undef, undef, Value.pointer (some ⟨w.heap.size, 0, none⟩), Value.int .i64 8, Value.agg #[Value.int .i64 c.1, Value.int .i64 c.2.1, Value.string c.2.2], Value.int .i64 2, va, Value.bool true, Value.bool false, undef, Value.pointer (some ⟨w.heap.size, 0, none⟩), Value.int .i64 8, Value.bool false, undef, undef, undef, undef, undef, undef, undef, undef, undef, undef, undef, undef, Value.int .i64 2, Value.bool false, undef, undef, undef, undef, undef, undef, undef, undef, t46, t47, t48, t49, t50, t51, t52], []⟩ ∧ Hid (Below w.heap.size w wx) ∧ Hid (L 7 = false → Blk wx r (stC 0 noV nilS) 28) ∧ Hid (Blk wx w.heap.size (stN 8 noV n nilS) 28) ∧ Hid (L 0 = true → t46 = .pointer (some ⟨w.heap.size, 4, none⟩)) ∧ Hid (L 1 = true → t47 = .int .i64 n) ∧ Hid (L 2 = true → t48 = .agg (stN 8 noV n nilS).toArray) ∧ Hid (L 3 = true → t49 = .pointer (some ⟨w.heap.size, 4, none⟩)) ∧ Hid (L 4 = true → t50 = .int .i64 n) ∧ Hid (L 5 = true → t51 = .agg #[.int .i64 1, .int .i64 n, .string noB]) ∧ Hid (L 6 = true → t52 = .slice (some ⟨q8, 0, none⟩) 1 1 ∧ OwnV wx w.heap.size (.slice (some ⟨q8, 0, none⟩) 1 1) [(1, n, noB)]) ∧ Hid (L 7 = true → Blk wx r (stN 8 noV n nilS) 28) ∧ Hid (L 8 = true → t9 = .slice (some ⟨q8, 0, none⟩) 1 1) ∧ Hid (L 9 = true → t10 = .bool true)) L act wx := ⟨_, fun _ _ _ => Iff.rfl⟩
  dsimp only at hI
  have HI : Hid (∀ L act wx, I L act wx ↔ _) := hI
  clear hI
  refine wp_region_inv mixed [[], [0], [0, 1], [], [3], [3, 4], [3, 4, 5], [0, 1, 2], [3, 4, 5, 6], []] (by kernel_rfl) I ?_ ?_ ?_
  · refine (HI.out _ _ _).2 ⟨_, _, _, _, _, _, _, _, _, 0, rfl, ?_, ?_, ?_, fun h => Bool.noConfusion h, fun h => Bool.noConfusion h, fun h => Bool.noConfusion h, fun h => Bool.noConfusion h, fun h => Bool.noConfusion h, fun h => Bool.noConfusion h, fun h => Bool.noConfusion h, fun h => Bool.noConfusion h, fun h => Bool.noConfusion h, fun h => Bool.noConfusion h⟩
    · exact below_next HB4.out (Stay.drew _)
    · exact fun _ => HR4.out.later (Stay.drew _)
    · exact HS4.out.later (Stay.drew _)
  · intro i hi L act wx hIa hLi hcl hanc
    obtain ⟨t46, t47, t48, t49, t50, t51, t52, t9, t10, q8, rfl, HS, E0, E1, F0, F1, F2, F3, F4, F5, F6, F7, F8, F9⟩ := (HI.out _ _ _).1 hIa
    clear hIa
    have hi' : i = 0 ∨ i = 1 ∨ i = 2 ∨ i = 3 ∨ i = 4 ∨ i = 5 ∨ i = 6 ∨ i = 7 ∨ i = 8 ∨ i = 9 := by have hi : i < 10 := hi; omega
    clear hi
    rcases hi' with rfl | rfl | rfl | rfl | rfl | rfl | rfl | rfl | rfl | rfl
    · refine wpOp_doG 0 (by rfl) (by rfl) ?_
      go_wp2_with fail
      have hb : Below wx.heap.size wx wx := Below.refl _ _
      show I (putL L 0) _ _
      exact (HI.out (putL L 0) _ _).2 ⟨_, _, _, _, _, _, _, _, _, q8, rfl, below_next HS.out hb, fun h => (E0.out ((putL_ne (i := 0) (by decide)).symm.trans h)).later hb, E1.out.later hb, fun _ => rfl, fun h => absurd (hcl 1 ((putL_ne (i := 0) (by decide)).symm.trans h) 0 (by decide)) (by rw [hLi]; decide), fun h => absurd (hcl 2 ((putL_ne (i := 0) (by decide)).symm.trans h) 0 (by decide)) (by rw [hLi]; decide), fun h => (by first | exact F3.out ((putL_ne (i := 0) (by decide)).symm.trans h) | rfl), fun h => (by first | exact F4.out ((putL_ne (i := 0) (by decide)).symm.trans h) | rfl), fun h => (by first | exact F5.out ((putL_ne (i := 0) (by decide)).symm.trans h) | rfl), fun h => (fun q => ⟨(by first | exact q.1 | rfl), q.2.later hb⟩) (F6.out ((putL_ne (i := 0) (by decide)).symm.trans h)), fun h => absurd (hcl 7 ((putL_ne (i := 0) (by decide)).symm.trans h) 0 (by decide)) (by rw [hLi]; decide), fun h => (by first | exact F8.out ((putL_ne (i := 0) (by decide)).symm.trans h) | rfl), fun h => (by first | exact F9.out ((putL_ne (i := 0) (by decide)).symm.trans h) | rfl)⟩
    · have f0 := F0.out (hanc 0 (by decide))
      have g0 := f0
      subst g0
      refine wpOp_doG 1 (by rfl) (by rfl) ?_
      obtain ⟨s0, _, _, _, s4, _⟩ := stn_cells E1.out
      go_wp2_with fail
      have hb : Below wx.heap.size wx wx := Below.refl _ _
      show I (putL L 1) _ _
      exact (HI.out (putL L 1) _ _).2 ⟨_, _, _, _, _, _, _, _, _, q8, rfl, below_next HS.out hb, fun h => (E0.out ((putL_ne (i := 1) (by decide)).symm.trans h)).later hb, E1.out.later hb, fun h => (by first | exact F0.out ((putL_ne (i := 1) (by decide)).symm.trans h) | rfl), fun _ => rfl, fun h => absurd (hcl 2 ((putL_ne (i := 1) (by decide)).symm.trans h) 1 (by decide)) (by rw [hLi]; decide), fun h => (by first | exact F3.out ((putL_ne (i := 1) (by decide)).symm.trans h) | rfl), fun h => (by first | exact F4.out ((putL_ne (i := 1) (by decide)).symm.trans h) | rfl), fun h => (by first | exact F5.out ((putL_ne (i := 1) (by decide)).symm.trans h) | rfl), fun h => (fun q => ⟨(by first | exact q.1 | rfl), q.2.later hb⟩) (F6.out ((putL_ne (i := 1) (by decide)).symm.trans h)), fun h => absurd (hcl 7 ((putL_ne (i := 1) (by decide)).symm.trans h) 1 (by decide)) (by rw [hLi]; decide), fun h => (by first | exact F8.out ((putL_ne (i := 1) (by decide)).symm.trans h) | rfl), fun h => (by first | exact F9.out ((putL_ne (i := 1) (by decide)).symm.trans h) | rfl)⟩
    · have f0 := F0.out (hanc 0 (by decide))
      have f1 := F1.out (hanc 1 (by decide))
      have g1 := f1
      subst g1
      refine wpOp_doG 2 (by rfl) (by rfl) ?_
      go_wp2_with fail
      have hb : Below wx.heap.size wx wx := Below.refl _ _
      show I (putL L 2) _ _
      exact (HI.out (putL L 2) _ _).2 ⟨_, _, _, _, _, _, _, _, _, q8, rfl, below_next HS.out hb, fun h => (E0.out ((putL_ne (i := 2) (by decide)).symm.trans h)).later hb, E1.out.later hb, fun h => (by first | exact F0.out ((putL_ne (i := 2) (by decide)).symm.trans h) | rfl), fun h => (by first | exact F1.out ((putL_ne (i := 2) (by decide)).symm.trans h) | rfl), fun _ => rfl, fun h => (by first | exact F3.out ((putL_ne (i := 2) (by decide)).symm.trans h) | rfl), fun h => (by first | exact F4.out ((putL_ne (i := 2) (by decide)).symm.trans h) | rfl), fun h => (by first | exact F5.out ((putL_ne (i := 2) (by decide)).symm.trans h) | rfl), fun h => (fun q => ⟨(by first | exact q.1 | rfl), q.2.later hb⟩) (F6.out ((putL_ne (i := 2) (by decide)).symm.trans h)), fun h => absurd (hcl 7 ((putL_ne (i := 2) (by decide)).symm.trans h) 2 (by decide)) (by rw [hLi]; decide), fun h => (by first | exact F8.out ((putL_ne (i := 2) (by decide)).symm.trans h) | rfl), fun h => (by first | exact F9.out ((putL_ne (i := 2) (by decide)).symm.trans h) | rfl)⟩
    · refine wpOp_doG 3 (by rfl) (by rfl) ?_
      go_wp2_with fail
      have hb : Below wx.heap.size wx wx := Below.refl _ _
      show I (putL L 3) _ _
      exact (HI.out (putL L 3) _ _).2 ⟨_, _, _, _, _, _, _, _, _, q8, rfl, below_next HS.out hb, fun h => (E0.out ((putL_ne (i := 3) (by decide)).symm.trans h)).later hb, E1.out.later hb, fun h => (by first | exact F0.out ((putL_ne (i := 3) (by decide)).symm.trans h) | rfl), fun h => (by first | exact F1.out ((putL_ne (i := 3) (by decide)).symm.trans h) | rfl), fun h => (by first | exact F2.out ((putL_ne (i := 3) (by decide)).symm.trans h) | rfl), fun _ => rfl, fun h => absurd (hcl 4 ((putL_ne (i := 3) (by decide)).symm.trans h) 3 (by decide)) (by rw [hLi]; decide), fun h => absurd (hcl 5 ((putL_ne (i := 3) (by decide)).symm.trans h) 3 (by decide)) (by rw [hLi]; decide), fun h => absurd (hcl 6 ((putL_ne (i := 3) (by decide)).symm.trans h) 3 (by decide)) (by rw [hLi]; decide), fun h => (fun q => q.later hb) (F7.out ((putL_ne (i := 3) (by decide)).symm.trans h)), fun h => absurd (hcl 8 ((putL_ne (i := 3) (by decide)).symm.trans h) 3 (by decide)) (by rw [hLi]; decide), fun h => (by first | exact F9.out ((putL_ne (i := 3) (by decide)).symm.trans h) | rfl)⟩
    · have f3 := F3.out (hanc 3 (by decide))
      have g3 := f3
      subst g3
      refine wpOp_doG 4 (by rfl) (by rfl) ?_
      obtain ⟨s0, _, _, _, s4, _⟩ := stn_cells E1.out
      go_wp2_with fail
      have hb : Below wx.heap.size wx wx := Below.refl _ _
      show I (putL L 4) _ _
      exact (HI.out (putL L 4) _ _).2 ⟨_, _, _, _, _, _, _, _, _, q8, rfl, below_next HS.out hb, fun h => (E0.out ((putL_ne (i := 4) (by decide)).symm.trans h)).later hb, E1.out.later hb, fun h => (by first | exact F0.out ((putL_ne (i := 4) (by decide)).symm.trans h) | rfl), fun h => (by first | exact F1.out ((putL_ne (i := 4) (by decide)).symm.trans h) | rfl), fun h => (by first | exact F2.out ((putL_ne (i := 4) (by decide)).symm.trans h) | rfl), fun h => (by first | exact F3.out ((putL_ne (i := 4) (by decide)).symm.trans h) | rfl), fun _ => rfl, fun h => absurd (hcl 5 ((putL_ne (i := 4) (by decide)).symm.trans h) 4 (by decide)) (by rw [hLi]; decide), fun h => absurd (hcl 6 ((putL_ne (i := 4) (by decide)).symm.trans h) 4 (by decide)) (by rw [hLi]; decide), fun h => (fun q => q.later hb) (F7.out ((putL_ne (i := 4) (by decide)).symm.trans h)), fun h => absurd (hcl 8 ((putL_ne (i := 4) (by decide)).symm.trans h) 4 (by decide)) (by rw [hLi]; decide), fun h => (by first | exact F9.out ((putL_ne (i := 4) (by decide)).symm.trans h) | rfl)⟩
    · have f3 := F3.out (hanc 3 (by decide))
      have f4 := F4.out (hanc 4 (by decide))
      have g4 := f4
      subst g4
      refine wpOp_doG 5 (by rfl) (by rfl) ?_
      go_wp2_with fail
      have hb : Below wx.heap.size wx wx := Below.refl _ _
      show I (putL L 5) _ _
      exact (HI.out (putL L 5) _ _).2 ⟨_, _, _, _, _, _, _, _, _, q8, rfl, below_next HS.out hb, fun h => (E0.out ((putL_ne (i := 5) (by decide)).symm.trans h)).later hb, E1.out.later hb, fun h => (by first | exact F0.out ((putL_ne (i := 5) (by decide)).symm.trans h) | rfl), fun h => (by first | exact F1.out ((putL_ne (i := 5) (by decide)).symm.trans h) | rfl), fun h => (by first | exact F2.out ((putL_ne (i := 5) (by decide)).symm.trans h) | rfl), fun h => (by first | exact F3.out ((putL_ne (i := 5) (by decide)).symm.trans h) | rfl), fun h => (by first | exact F4.out ((putL_ne (i := 5) (by decide)).symm.trans h) | rfl), fun _ => rfl, fun h => absurd (hcl 6 ((putL_ne (i := 5) (by decide)).symm.trans h) 5 (by decide)) (by rw [hLi]; decide), fun h => (fun q => q.later hb) (F7.out ((putL_ne (i := 5) (by decide)).symm.trans h)), fun h => absurd (hcl 8 ((putL_ne (i := 5) (by decide)).symm.trans h) 5 (by decide)) (by rw [hLi]; decide), fun h => (by first | exact F9.out ((putL_ne (i := 5) (by decide)).symm.trans h) | rfl)⟩
    · have f3 := F3.out (hanc 3 (by decide))
      have f4 := F4.out (hanc 4 (by decide))
      have f5 := F5.out (hanc 5 (by decide))
      have g5 := f5
      subst g5
      refine wpOp_doG 6 (by rfl) (by rfl) ?_
      go_wp2_with fail
      have HV9 := own_one wx w.heap.size HS.out.size (1, n, noB)
      have hb := below_box wx (.cells (encV (1, n, noB)).toArray 25)
      change OwnV (wx.alloc (.cells #[.int .i64 1, .int .i64 n, .string noB] 25)) _ _ _ at HV9
      change Below _ wx (wx.alloc (.cells #[.int .i64 1, .int .i64 n, .string noB] 25)) at hb
      show I (putL L 6) _ _
      exact (HI.out (putL L 6) _ _).2 ⟨_, _, _, _, _, _, _, _, _, wx.heap.size, rfl, below_next HS.out hb, fun h => (E0.out ((putL_ne (i := 6) (by decide)).symm.trans h)).later hb, E1.out.later hb, fun h => (by first | exact F0.out ((putL_ne (i := 6) (by decide)).symm.trans h) | rfl), fun h => (by first | exact F1.out ((putL_ne (i := 6) (by decide)).symm.trans h) | rfl), fun h => (by first | exact F2.out ((putL_ne (i := 6) (by decide)).symm.trans h) | rfl), fun h => (by first | exact F3.out ((putL_ne (i := 6) (by decide)).symm.trans h) | rfl), fun h => (by first | exact F4.out ((putL_ne (i := 6) (by decide)).symm.trans h) | rfl), fun h => (by first | exact F5.out ((putL_ne (i := 6) (by decide)).symm.trans h) | rfl), fun _ => ⟨rfl, HV9⟩, fun h => (fun q => q.later hb) (F7.out ((putL_ne (i := 6) (by decide)).symm.trans h)), fun h => absurd (hcl 8 ((putL_ne (i := 6) (by decide)).symm.trans h) 6 (by decide)) (by rw [hLi]; decide), fun h => (by first | exact F9.out ((putL_ne (i := 6) (by decide)).symm.trans h) | rfl)⟩
    · have f0 := F0.out (hanc 0 (by decide))
      have f1 := F1.out (hanc 1 (by decide))
      have f2 := F2.out (hanc 2 (by decide))
      have g2 := f2
      subst g2
      have BS := E0.out hLi
      refine wpOp_doG 7 (by rfl) (by rfl) ?_
      refine wpo_storeB 28 (.tmp 8) (.tmp 48) r 0 (stN 8 noV n nilS) (stC 0 noV nilS) 28 infoSt (show 0 + 6 ≤ 6 by decide) (stN_one _ _ _ rfl) rfl rfl rfl BS ?_
      intro wn BP ho
      replace BP : Blk wn r (stN 8 noV n nilS) 28 := BP
      simp only [Act.put, List.setIfInBounds_toArray, List.set_cons_zero, List.set_cons_succ]
      show I (putL L 7) _ _
      exact (HI.out (putL L 7) _ _).2 ⟨_, _, _, _, _, _, _, _, _, q8, rfl, below_oth HS.out ho HQ.out.1 HQ.out.1 HS.out.size, fun h => (by rw [putL_self] at h; cases h), E1.out.oth ho HQ.out.2 HQ.out.2, fun h => (by first | exact F0.out ((putL_ne (i := 7) (by decide)).symm.trans h) | rfl), fun h => (by first | exact F1.out ((putL_ne (i := 7) (by decide)).symm.trans h) | rfl), fun h => (by first | exact F2.out ((putL_ne (i := 7) (by decide)).symm.trans h) | rfl), fun h => (by first | exact F3.out ((putL_ne (i := 7) (by decide)).symm.trans h) | rfl), fun h => (by first | exact F4.out ((putL_ne (i := 7) (by decide)).symm.trans h) | rfl), fun h => (by first | exact F5.out ((putL_ne (i := 7) (by decide)).symm.trans h) | rfl), fun h => (fun q => ⟨(by first | exact q.1 | rfl), q.2.oth ho BS (by decide)⟩) (F6.out ((putL_ne (i := 7) (by decide)).symm.trans h)), fun _ => BP, fun h => (by first | exact F8.out ((putL_ne (i := 7) (by decide)).symm.trans h) | rfl), fun h => (by first | exact F9.out ((putL_ne (i := 7) (by decide)).symm.trans h) | rfl)⟩
    · have f3 := F3.out (hanc 3 (by decide))
      have f4 := F4.out (hanc 4 (by decide))
      have f5 := F5.out (hanc 5 (by decide))
      have f6 := F6.out (hanc 6 (by decide))
      have g6 := f6.1
      subst g6
      refine wpOp_doG 8 (by rfl) (by rfl) ?_
      go_wp2_with fail
      have hb : Below wx.heap.size wx wx := Below.refl _ _
      show I (putL L 8) _ _
      exact (HI.out (putL L 8) _ _).2 ⟨_, _, _, _, _, _, _, _, _, q8, rfl, below_next HS.out hb, fun h => (E0.out ((putL_ne (i := 8) (by decide)).symm.trans h)).later hb, E1.out.later hb, fun h => (by first | exact F0.out ((putL_ne (i := 8) (by decide)).symm.trans h) | rfl), fun h => (by first | exact F1.out ((putL_ne (i := 8) (by decide)).symm.trans h) | rfl), fun h => (by first | exact F2.out ((putL_ne (i := 8) (by decide)).symm.trans h) | rfl), fun h => (by first | exact F3.out ((putL_ne (i := 8) (by decide)).symm.trans h) | rfl), fun h => (by first | exact F4.out ((putL_ne (i := 8) (by decide)).symm.trans h) | rfl), fun h => (by first | exact F5.out ((putL_ne (i := 8) (by decide)).symm.trans h) | rfl), fun h => (fun q => ⟨(by first | exact q.1 | rfl), q.2.later hb⟩) (F6.out ((putL_ne (i := 8) (by decide)).symm.trans h)), fun h => (fun q => q.later hb) (F7.out ((putL_ne (i := 8) (by decide)).symm.trans h)), fun _ => rfl, fun h => (by first | exact F9.out ((putL_ne (i := 8) (by decide)).symm.trans h) | rfl)⟩
    · refine YieldsIf.wpOp (S := fun _ => True) (v := .bool true) (by rfl) (.inl ⟨rfl, fun w _ => rfl⟩) trivial ?_
      simp only [Act.put, List.setIfInBounds_toArray, List.set_cons_zero, List.set_cons_succ]
      have hb : Below wx.heap.size wx wx := Below.refl _ _
      show I (putL L 9) _ _
      exact (HI.out (putL L 9) _ _).2 ⟨_, _, _, _, _, _, _, _, _, q8, rfl, below_next HS.out hb, fun h => (E0.out ((putL_ne (i := 9) (by decide)).symm.trans h)).later hb, E1.out.later hb, fun h => (by first | exact F0.out ((putL_ne (i := 9) (by decide)).symm.trans h) | rfl), fun h => (by first | exact F1.out ((putL_ne (i := 9) (by decide)).symm.trans h) | rfl), fun h => (by first | exact F2.out ((putL_ne (i := 9) (by decide)).symm.trans h) | rfl), fun h => (by first | exact F3.out ((putL_ne (i := 9) (by decide)).symm.trans h) | rfl), fun h => (by first | exact F4.out ((putL_ne (i := 9) (by decide)).symm.trans h) | rfl), fun h => (by first | exact F5.out ((putL_ne (i := 9) (by decide)).symm.trans h) | rfl), fun h => (fun q => ⟨(by first | exact q.1 | rfl), q.2.later hb⟩) (F6.out ((putL_ne (i := 9) (by decide)).symm.trans h)), fun h => (fun q => q.later hb) (F7.out ((putL_ne (i := 9) (by decide)).symm.trans h)), fun h => (by first | exact F8.out ((putL_ne (i := 9) (by decide)).symm.trans h) | rfl), fun _ => rfl⟩
  · intro L act wx hall hIa
    obtain ⟨t46, t47, t48, t49, t50, t51, t52, t9, t10, q8, rfl, HS, E0, E1, F0, F1, F2, F3, F4, F5, F6, F7, F8, F9⟩ := (HI.out _ _ _).1 hIa
    have f0 := F0.out (hall 0 (by decide))
    have f1 := F1.out (hall 1 (by decide))
    have f2 := F2.out (hall 2 (by decide))
    have f3 := F3.out (hall 3 (by decide))
    have f4 := F4.out (hall 4 (by decide))
    have f5 := F5.out (hall 5 (by decide))
    have f6 := F6.out (hall 6 (by decide))
    have f7 := F7.out (hall 7 (by decide))
    have f8 := F8.out (hall 8 (by decide))
    have f9 := F9.out (hall 9 (by decide))
    clear hIa HI F0 F1 F2 F3 F4 F5 F6 F7 F8 F9
    show K9 _ _
    apply hK9
    clear hK9
    have HD : Hid (Blk wx r (stN 8 noV n nilS) 28) := f7
    have HY : Hid (OwnV wx w.heap.size (.slice (some ⟨q8, 0, none⟩) 1 1) [(1, n, noB)]) := f6.2
    have ga := f8
    subst ga
    have gb := f9
    subst gb
    clear E0 E1 f0 f1 f2 f3 f4 f5 f6 f7 f8 f9
    go_wp2
    refine ret_blk3 rfl r (stN 8 noV n nilS) 28 _ (.slice (some ⟨q8, 0, none⟩) 1 1) (.bool true) Tryd.underlying28 rfl infoSt rfl HD.out rfl rfl rfl ?_
    exact ⟨_, rfl, HY.out, HS.out⟩
theorem step_yesH (m : Int) (x : VN) (c : Val) (o : Int) (va : Value) (xs : List Val) (w : World) (ht : Tb w) (hv : VSl w va xs) (hz : SzV xs) (hc : c.2.2.size ≤ 4611686018427387904) (hm : ownH m = true) (hd : mayD m ⟨c, o, xs⟩ = true) (hx : OkX m x) :
    Calls Tryd.prog 13 #[.agg (stH m x nilS).toArray, .agg #[.int .i64 c.1, .int .i64 c.2.1, .string c.2.2], .int .i64 o, va] w fun e w' => ∃ vo, e = .returned (.tuple #[.agg (stH m (nxH m x ⟨c, o, xs⟩) nilS).toArray, vo, .bool true]) ∧ OwnV w' w.heap.size vo (outHx x ⟨c, o, xs⟩) ∧ Below w.heap.size w w' := by
  obtain ⟨v, n⟩ := x
  rcases may_casesH hm hd with ⟨rfl, h2, h3⟩ | ⟨rfl, h2, h3⟩ | ⟨rfl, h2, h3⟩
  · have hn : n = 0 := hx.1 rfl
    subst hn
    rw [nxH_7]
    have h2 : o = 11 ∨ o = 12 := h2
    have e : outHx (v, 0) ⟨c, o, xs⟩ = [yesV (doneB v c o)] := by
      rcases h2 with rfl | rfl
      · rfl
      · rfl
    rw [e]
    exact step_lock v c o va xs w h2 ht hv hz hc hd
  · have hv0 : v = noV := hx.2 rfl
    subst hv0
    have h2 : o = 4 := h2
    subst h2
    refine (step_add n c va xs w h3 ht hv hz hc hd).mono ?_
    rintro e w' ⟨rfl, hb⟩
    exact ⟨nilS, rfl, OwnV.nil _ _, hb⟩
  · have hv0 : v = noV := hx.2 rfl
    subst hv0
    have h2 : o = 2 := h2
    subst h2
    exact step_read n c va xs w ht hv hz hc hd
theorem hold_ok : HoldOK := ⟨new_anyH, fun m x c l o va xs w ht hv hz hc h => step_noH m x c l o va xs w ht hv hz hc h, fun m x c o va xs w ht hv hz hc hm hd hx => step_yesH m x c o va xs w ht hv hz hc hm hd hx⟩
end Go.Proofs.YtpboleifllcehaaDoor
