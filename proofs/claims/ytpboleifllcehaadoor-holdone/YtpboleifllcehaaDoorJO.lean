/- The contracts of the document's State and Out of a lock and a counter. Conditions: those of holder and sum. -/
import Derived.Test.YtpboleifllcehaaDoorJG
import Derived.Test.YtpboleifllcehaaDoorUI
import Derived.Test.YtpboleifllcehaaDoorGR
namespace Go.Proofs.YtpboleifllcehaaDoor
open Go.RowKit Go.PlainAid Ln Go.Sort
set_option linter.unusedVariables false
set_option linter.unusedSimpArgs false

set_option maxHeartbeats 4000000 in
theorem state_anyH (m : Int) (v : Value) (ys : List YD) (w : World) (hv : DSl w v ys) (hi : InD w ys) (hk : ∀ i, i < ys.length → OkH (yd ys i).1) (hl : ys.length ≤ 1000000) :
    Calls Tryd.prog 12 #[.int .i64 m, v] w fun e w' => e = .returned (.agg (stH m (keptH m (ys.map (·.1))) nilS).toArray) ∧ Below w.heap.size w w' := by
  have bx := below_box w (.cells (stC 0 noV nilS).toArray 28)
  have hW := holder_any v ys (w.alloc (.cells (stC 0 noV nilS).toArray 28)) (hv.later bx) hl
  have hS := sum_any v ys (w.alloc (.cells (stC 0 noV nilS).toArray 28)) (hv.later bx) (hi.later bx) hk hl
  have HR0 : Hid (Blk (w.alloc (.cells (stC 0 noV nilS).toArray 28)) w.heap.size (stC 0 noV nilS) 28) := Blk.new w _ _
  have HB0 : Hid (Below w.heap.size w (w.alloc (.cells (stC 0 noV nilS).toArray 28))) := bx
  clear hv hi hk bx
  by_cases h7 : m = 7
  · subst h7
    rw [keptH_7]
    generalize keptW (ys.map (·.1)) = x at *
    simp only [encV] at hW
    go_enter Tryd.func12, Tryd.ntmps12
    go_wp2_with fail
    refine hW.mono ?_
    rintro e w7 ⟨rfl, hb7⟩
    have HR7 : Hid (Blk w7 w.heap.size (stC 0 noV nilS) 28) := HR0.out.later hb7
    have HB7 : Hid (Below w.heap.size w w7) := below_next HB0.out hb7
    clear hb7 HR0 HB0 hW hS
    go_wp2_with ((with_reducible refine wp_storeB 28 (.tmp 4) (.tmp 10) w.heap.size 0 (stH 7 (x, 0) nilS) (stC 0 noV nilS) 28 ?_ ?_ (stH_one _ _ rfl) ?_ ?_ ?_ HR7.out ?_); (exact infoSt); (exact (show 0 + 6 ≤ 6 by decide)); (exact ⟨rfl, rfl⟩); (exact rfl); (exact rfl); (intro w8 D1 o8); (replace D1 : Blk w8 w.heap.size (stH 7 (x, 0) nilS) 28 := D1); (have HR8 : Hid (Blk w8 w.heap.size (stH 7 (x, 0) nilS) 28) := D1); (have HB8 : Hid (Below w.heap.size w w8) := below_oth HB7.out o8 (Nat.le_refl _) (Nat.le_refl _) HB7.out.size); (clear D1 o8))
    refine ret_blk rfl w.heap.size (stH 7 (x, 0) nilS) 28 _ Tryd.underlying28 rfl infoSt rfl HR8.out rfl ?_
    exact ⟨rfl, HB8.out⟩
  · have e7 : (m == 7) = false := by simp [h7]
    rw [keptH_8 h7]
    generalize keptN (ys.map (·.1)) = x at *
    clear h7
    go_enter Tryd.func12, Tryd.ntmps12
    go_wp2_with fail
    refine hS.mono ?_
    rintro e w7 ⟨rfl, hb7⟩
    have HR7 : Hid (Blk w7 w.heap.size (stC 0 noV nilS) 28) := HR0.out.later hb7
    have HB7 : Hid (Below w.heap.size w w7) := below_next HB0.out hb7
    clear hb7 HR0 HB0 hW hS
    go_wp2_with ((with_reducible refine wp_storeB 28 (.tmp 4) (.tmp 14) w.heap.size 0 (stH m (noV, x) nilS) (stC 0 noV nilS) 28 ?_ ?_ (stH_one _ _ rfl) ?_ ?_ ?_ HR7.out ?_); (exact infoSt); (exact (show 0 + 6 ≤ 6 by decide)); (exact ⟨rfl, rfl⟩); (exact rfl); (exact rfl); (intro w8 D1 o8); (replace D1 : Blk w8 w.heap.size (stH m (noV, x) nilS) 28 := D1); (have HR8 : Hid (Blk w8 w.heap.size (stH m (noV, x) nilS) 28) := D1); (have HB8 : Hid (Below w.heap.size w w8) := below_oth HB7.out o8 (Nat.le_refl _) (Nat.le_refl _) HB7.out.size); (clear D1 o8))
    refine ret_blk rfl w.heap.size (stH m (noV, x) nilS) 28 _ Tryd.underlying28 rfl infoSt rfl HR8.out rfl ?_
    exact ⟨rfl, HB8.out⟩
/-- what may be done with which -/
def DoH (m : Int) (d : Dd) : Prop := (m = 7 ∧ (d.o = 11 ∨ d.o = 12)) ∨ (m = 8 ∧ (d.o = 2 ∨ d.o = 4))
set_option maxRecDepth 100000 in
set_option maxHeartbeats 8000000 in
theorem out_anyH (m : Int) (v : Value) (ys : List YD) (d : Dd) (va : Value) (w : World) (hv : DSl w v ys) (hi : InD w ys) (hk : ∀ i, i < ys.length → OkH (yd ys i).1) (hl : ys.length ≤ 1000000) (hd : DoH m d) :
    Calls Tryd.prog 16 #[.int .i64 m, v, .agg (ddC d va).toArray] w fun e w' => ∃ vo, e = .returned vo ∧ VSl w' vo (outHx (keptH m (ys.map (·.1))) d) ∧ Below w.heap.size w w' := by
  have mixed : Tryd.prog.follows .mixedOrders = true := by kernel_rfl
  have hW := fun w' (hb : Below w.heap.size w w') => holder_any v ys w' (hv.later hb) hl
  have hS := fun w' (hb : Below w.heap.size w w') => sum_any v ys w' (hv.later hb) (hi.later hb) hk hl
  clear hv hi hk hl
  have T := two_laid w (ddC d va) (encV noV) 36 25
  obtain ⟨⟨y1, y2, y3⟩, yo, ya⟩ := d
  have HT : Hid _ := T
  rcases hd with ⟨h7, h⟩ | ⟨h8, h⟩
  · subst h7
    rw [keptH_7]
    generalize keptW (ys.map (·.1)) = x at *
    simp only [encV] at hW
    have HW : Hid (∀ w', Below w.heap.size w w' → Calls Tryd.prog 20 #[v] w' fun e w'' => e = .returned (.agg #[.int .i64 x.1, .int .i64 x.2.1, .string x.2.2]) ∧ Below w'.heap.size w' w'') := hW
    clear hW hS
    rcases h with h | h
    · have h : yo = 11 := h
      subst h
      have HO : Hid (outHx (x, 0) ⟨(y1, y2, y3), 11, ya⟩ = [yesV (decide (x = noV))]) := rfl
      have hq := fun w => eqV x.1 x.2.1 0 0 x.2.2 noB w
      have hg := eqgV
      have HQ : Hid (eqvB x.1 x.2.1 x.2.2 0 0 noB = decide (x = noV)) := by
        show _ = _
        by_cases h : x = noV
        · rw [decide_eq_true h]; exact (eqvB_iff _ _ _ _ _ _).2 h
        · rw [decide_eq_false h]; exact Bool.eq_false_iff.2 fun k => h ((eqvB_iff _ _ _ _ _ _).1 k)
      rw [HQ.out] at hq
      clear T HQ
      simp only [ddC]
      obtain ⟨ib, hib⟩ : ∃ ib, decide (x = noV) = ib := ⟨_, rfl⟩
      rw [hib] at hq HO
      clear hib
      go_enter Tryd.func16, Tryd.ntmps16
      go_wp2_with fail
      obtain ⟨y, hy⟩ : ∃ y, yesV ib = y := ⟨_, rfl⟩
      have HYs : Hid (∀ w', Calls Tryd.prog 26 #[.bool ib] w' fun e w'' => e = .returned (.agg #[.int .i64 y.1, .int .i64 y.2.1, .string y.2.2]) ∧ Below w'.heap.size w' w'') := fun w' => by rw [← hy]; exact yes_any ib w'
      rw [hy] at HO
      clear hy
      rename_i K9 hK9
      obtain ⟨I, hI⟩ : ∃ I : (Nat → Bool) → Act → World → Prop, ∀ L act wx, I L act wx ↔ (fun (L : Nat → Bool) (act : Act) (wx : World) => ∃ (t19 : Value) (t20 : Value) (t21 : Value) (t22 : Value) (t23 : Value) (t24 : Value) (t6 : Value) , act = ⟨#[.int .i64 7, v, .agg #[.int .i64 y1, .int .i64 y2, .string y3, .int .i64 11, va], undef, undef, .pointer (some ⟨w.heap.size, 0, none⟩), t6, .pointer (some ⟨w.heap.size + 1, 0, none⟩), .agg #[.int .i64 0, .int .i64 0, .string ⟨#[]⟩], .pointer (some ⟨w.heap.size, 3, none⟩), .int .i64 11, .bool false, .bool false, undef, undef, undef, undef, .bool true, .bool true, t19, t20, t21, t22, t23, t24, undef, undef, undef, undef, undef, undef, undef, undef, undef], []⟩ ∧ Hid (Below w.heap.size w wx) ∧ Hid (Blk wx (w.heap.size + 1) (encV noV) 25) ∧ Hid (L 0 = true → t19 = v) ∧ Hid (L 1 = true → t20 = .agg #[.int .i64 x.1, .int .i64 x.2.1, .string x.2.2]) ∧ Hid (L 2 = true → t21 = .agg #[.int .i64 0, .int .i64 0, .string noB]) ∧ Hid (L 3 = true → t22 = .bool ib) ∧ Hid (L 4 = true → t23 = .agg #[.int .i64 y.1, .int .i64 y.2.1, .string y.2.2]) ∧ Hid (L 5 = true → OwnV wx w.heap.size t24 [y]) ∧ Hid (L 6 = true → OwnV wx w.heap.size t6 [y])) L act wx := ⟨_, fun _ _ _ => Iff.rfl⟩
      dsimp only at hI
      have HI : Hid (∀ L act wx, I L act wx ↔ _) := hI
      clear hI
      refine wp_region_inv mixed [[], [0], [], [0, 1, 2], [0, 1, 2, 3], [0, 1, 2, 3, 4], [0, 1, 2, 3, 4, 5]] (by kernel_rfl) I ?_ ?_ ?_
      · refine (HI.out _ _ _).2 ⟨_, _, _, _, _, _, _, rfl, ?_, ?_, fun h => Bool.noConfusion h, fun h => Bool.noConfusion h, fun h => Bool.noConfusion h, fun h => Bool.noConfusion h, fun h => Bool.noConfusion h, fun h => Bool.noConfusion h, fun h => Bool.noConfusion h⟩
        · exact below_next HT.out.2.2 (Stay.drew _)
        · exact HT.out.2.1.later (Stay.drew _)
      · intro i hi L act wx hIa hLi hcl hanc
        obtain ⟨t19, t20, t21, t22, t23, t24, t6, rfl, HS, E0, F0, F1, F2, F3, F4, F5, F6⟩ := (HI.out _ _ _).1 hIa
        clear hIa
        have hi' : i = 0 ∨ i = 1 ∨ i = 2 ∨ i = 3 ∨ i = 4 ∨ i = 5 ∨ i = 6 := by have hi : i < 7 := hi; omega
        clear hi
        rcases hi' with rfl | rfl | rfl | rfl | rfl | rfl | rfl
        · refine YieldsIf.wpOp (S := fun _ => True) (v := v) (by rfl) (.inl ⟨rfl, fun w _ => rfl⟩) trivial ?_
          simp only [Act.put, List.setIfInBounds_toArray, List.set_cons_zero, List.set_cons_succ]
          have hb : Below wx.heap.size wx wx := Below.refl _ _
          show I (putL L 0) _ _
          exact (HI.out (putL L 0) _ _).2 ⟨_, _, _, _, _, _, _, rfl, below_next HS.out hb, E0.out.later hb, fun _ => rfl, fun h => absurd (hcl 1 ((putL_ne (i := 0) (by decide)).symm.trans h) 0 (by decide)) (by rw [hLi]; decide), fun h => (by first | exact F2.out ((putL_ne (i := 0) (by decide)).symm.trans h) | rfl), fun h => absurd (hcl 3 ((putL_ne (i := 0) (by decide)).symm.trans h) 0 (by decide)) (by rw [hLi]; decide), fun h => absurd (hcl 4 ((putL_ne (i := 0) (by decide)).symm.trans h) 0 (by decide)) (by rw [hLi]; decide), fun h => absurd (hcl 5 ((putL_ne (i := 0) (by decide)).symm.trans h) 0 (by decide)) (by rw [hLi]; decide), fun h => absurd (hcl 6 ((putL_ne (i := 0) (by decide)).symm.trans h) 0 (by decide)) (by rw [hLi]; decide)⟩
        · have f0 := F0.out (hanc 0 (by decide))
          have g0 := f0
          subst g0
          refine wpOp_doG 1 (by rfl) (by rfl) ?_
          go_wp2_with fail
          refine (HW.out wx HS.out).mono ?_
          rintro e9 wn ⟨rfl, hb⟩
          show I (putL L 1) _ _
          exact (HI.out (putL L 1) _ _).2 ⟨_, _, _, _, _, _, _, rfl, below_next HS.out hb, E0.out.later hb, fun h => (by first | exact F0.out ((putL_ne (i := 1) (by decide)).symm.trans h) | rfl), fun _ => rfl, fun h => (by first | exact F2.out ((putL_ne (i := 1) (by decide)).symm.trans h) | rfl), fun h => absurd (hcl 3 ((putL_ne (i := 1) (by decide)).symm.trans h) 1 (by decide)) (by rw [hLi]; decide), fun h => absurd (hcl 4 ((putL_ne (i := 1) (by decide)).symm.trans h) 1 (by decide)) (by rw [hLi]; decide), fun h => absurd (hcl 5 ((putL_ne (i := 1) (by decide)).symm.trans h) 1 (by decide)) (by rw [hLi]; decide), fun h => absurd (hcl 6 ((putL_ne (i := 1) (by decide)).symm.trans h) 1 (by decide)) (by rw [hLi]; decide)⟩
        · refine wpOp_doG 2 (by rfl) (by rfl) ?_
          refine wp_load_mid 25 (.tmp 7) rfl (w.heap.size + 1) 0 rfl (encV noV) _ (Blk.all E0.out) Tryd.underlying25 rfl infoVv ?_
          simp only [Act.put, List.setIfInBounds_toArray, List.set_cons_zero, List.set_cons_succ]
          have hb : Below wx.heap.size wx wx := Below.refl _ _
          show I (putL L 2) _ _
          exact (HI.out (putL L 2) _ _).2 ⟨_, _, _, _, _, _, _, rfl, below_next HS.out hb, E0.out.later hb, fun h => (by first | exact F0.out ((putL_ne (i := 2) (by decide)).symm.trans h) | rfl), fun h => (by first | exact F1.out ((putL_ne (i := 2) (by decide)).symm.trans h) | rfl), fun _ => rfl, fun h => absurd (hcl 3 ((putL_ne (i := 2) (by decide)).symm.trans h) 2 (by decide)) (by rw [hLi]; decide), fun h => absurd (hcl 4 ((putL_ne (i := 2) (by decide)).symm.trans h) 2 (by decide)) (by rw [hLi]; decide), fun h => absurd (hcl 5 ((putL_ne (i := 2) (by decide)).symm.trans h) 2 (by decide)) (by rw [hLi]; decide), fun h => absurd (hcl 6 ((putL_ne (i := 2) (by decide)).symm.trans h) 2 (by decide)) (by rw [hLi]; decide)⟩
        · have f0 := F0.out (hanc 0 (by decide))
          have f1 := F1.out (hanc 1 (by decide))
          have f2 := F2.out (hanc 2 (by decide))
          have g1 := f1
          subst g1
          have g2 := f2
          subst g2
          refine wpOp_doG 3 (by rfl) (by rfl) ?_
          go_wp2_with fail
          have hb : Below wx.heap.size wx wx := Below.refl _ _
          show I (putL L 3) _ _
          exact (HI.out (putL L 3) _ _).2 ⟨_, _, _, _, _, _, _, rfl, below_next HS.out hb, E0.out.later hb, fun h => (by first | exact F0.out ((putL_ne (i := 3) (by decide)).symm.trans h) | rfl), fun h => (by first | exact F1.out ((putL_ne (i := 3) (by decide)).symm.trans h) | rfl), fun h => (by first | exact F2.out ((putL_ne (i := 3) (by decide)).symm.trans h) | rfl), fun _ => rfl, fun h => absurd (hcl 4 ((putL_ne (i := 3) (by decide)).symm.trans h) 3 (by decide)) (by rw [hLi]; decide), fun h => absurd (hcl 5 ((putL_ne (i := 3) (by decide)).symm.trans h) 3 (by decide)) (by rw [hLi]; decide), fun h => absurd (hcl 6 ((putL_ne (i := 3) (by decide)).symm.trans h) 3 (by decide)) (by rw [hLi]; decide)⟩
        · have f0 := F0.out (hanc 0 (by decide))
          have f1 := F1.out (hanc 1 (by decide))
          have f2 := F2.out (hanc 2 (by decide))
          have f3 := F3.out (hanc 3 (by decide))
          have g3 := f3
          subst g3
          refine wpOp_doG 4 (by rfl) (by rfl) ?_
          go_wp2_with fail
          refine (HYs.out wx).mono ?_
          rintro e9 wn ⟨rfl, hb⟩
          show I (putL L 4) _ _
          exact (HI.out (putL L 4) _ _).2 ⟨_, _, _, _, _, _, _, rfl, below_next HS.out hb, E0.out.later hb, fun h => (by first | exact F0.out ((putL_ne (i := 4) (by decide)).symm.trans h) | rfl), fun h => (by first | exact F1.out ((putL_ne (i := 4) (by decide)).symm.trans h) | rfl), fun h => (by first | exact F2.out ((putL_ne (i := 4) (by decide)).symm.trans h) | rfl), fun h => (by first | exact F3.out ((putL_ne (i := 4) (by decide)).symm.trans h) | rfl), fun _ => rfl, fun h => absurd (hcl 5 ((putL_ne (i := 4) (by decide)).symm.trans h) 4 (by decide)) (by rw [hLi]; decide), fun h => absurd (hcl 6 ((putL_ne (i := 4) (by decide)).symm.trans h) 4 (by decide)) (by rw [hLi]; decide)⟩
        · have f0 := F0.out (hanc 0 (by decide))
          have f1 := F1.out (hanc 1 (by decide))
          have f2 := F2.out (hanc 2 (by decide))
          have f3 := F3.out (hanc 3 (by decide))
          have f4 := F4.out (hanc 4 (by decide))
          have g4 := f4
          subst g4
          refine wpOp_doG 5 (by rfl) (by rfl) ?_
          go_wp2_with fail
          have HV9 := own_one wx w.heap.size HS.out.size y
          have hb := below_box wx (.cells (encV y).toArray 25)
          change OwnV (wx.alloc (.cells #[.int .i64 y.1, .int .i64 y.2.1, .string y.2.2] 25)) _ _ _ at HV9
          change Below _ wx (wx.alloc (.cells #[.int .i64 y.1, .int .i64 y.2.1, .string y.2.2] 25)) at hb
          show I (putL L 5) _ _
          exact (HI.out (putL L 5) _ _).2 ⟨_, _, _, _, _, _, _, rfl, below_next HS.out hb, E0.out.later hb, fun h => (by first | exact F0.out ((putL_ne (i := 5) (by decide)).symm.trans h) | rfl), fun h => (by first | exact F1.out ((putL_ne (i := 5) (by decide)).symm.trans h) | rfl), fun h => (by first | exact F2.out ((putL_ne (i := 5) (by decide)).symm.trans h) | rfl), fun h => (by first | exact F3.out ((putL_ne (i := 5) (by decide)).symm.trans h) | rfl), fun h => (by first | exact F4.out ((putL_ne (i := 5) (by decide)).symm.trans h) | rfl), fun _ => HV9, fun h => absurd (hcl 6 ((putL_ne (i := 5) (by decide)).symm.trans h) 5 (by decide)) (by rw [hLi]; decide)⟩
        · have f0 := F0.out (hanc 0 (by decide))
          have f1 := F1.out (hanc 1 (by decide))
          have f2 := F2.out (hanc 2 (by decide))
          have f3 := F3.out (hanc 3 (by decide))
          have f4 := F4.out (hanc 4 (by decide))
          have f5 := F5.out (hanc 5 (by decide))
          refine YieldsIf.wpOp (S := fun _ => True) (v := t24) (by rfl) (.inl ⟨rfl, fun w _ => rfl⟩) trivial ?_
          simp only [Act.put, List.setIfInBounds_toArray, List.set_cons_zero, List.set_cons_succ]
          have hb : Below wx.heap.size wx wx := Below.refl _ _
          show I (putL L 6) _ _
          exact (HI.out (putL L 6) _ _).2 ⟨_, _, _, _, _, _, _, rfl, below_next HS.out hb, E0.out.later hb, fun h => (by first | exact F0.out ((putL_ne (i := 6) (by decide)).symm.trans h) | rfl), fun h => (by first | exact F1.out ((putL_ne (i := 6) (by decide)).symm.trans h) | rfl), fun h => (by first | exact F2.out ((putL_ne (i := 6) (by decide)).symm.trans h) | rfl), fun h => (by first | exact F3.out ((putL_ne (i := 6) (by decide)).symm.trans h) | rfl), fun h => (by first | exact F4.out ((putL_ne (i := 6) (by decide)).symm.trans h) | rfl), fun h => (fun q => q.later hb) (F5.out ((putL_ne (i := 6) (by decide)).symm.trans h)), fun _ => f5⟩
      · intro L act wx hall hIa
        obtain ⟨t19, t20, t21, t22, t23, t24, t6, rfl, HS, E0, F0, F1, F2, F3, F4, F5, F6⟩ := (HI.out _ _ _).1 hIa
        have f0 := F0.out (hall 0 (by decide))
        have f1 := F1.out (hall 1 (by decide))
        have f2 := F2.out (hall 2 (by decide))
        have f3 := F3.out (hall 3 (by decide))
        have f4 := F4.out (hall 4 (by decide))
        have f5 := F5.out (hall 5 (by decide))
        have f6 := F6.out (hall 6 (by decide))
        clear hIa HI F0 F1 F2 F3 F4 F5 F6
        show K9 _ _
        apply hK9
        clear hK9 K9
        have HF : Hid (OwnV wx w.heap.size t6 [y]) := f6
        have HB9 : Hid (Below w.heap.size w wx) := HS.out
        clear HS E0 HT HW HYs f0 f1 f2 f3 f4 f5 f6
        go_wp2_with fail
        go_ret
        exact ⟨_, rfl, by rw [HO.out]; exact HF.out.vsl, HB9.out⟩
    · have h : yo = 12 := h
      subst h
      have HO : Hid (outHx (x, 0) ⟨(y1, y2, y3), 12, ya⟩ = [yesV (decide (x = (y1, y2, y3)))]) := rfl
      have hq := fun w => eqV x.1 x.2.1 y1 y2 x.2.2 y3 w
      have hg := eqgV
      have HQ : Hid (eqvB x.1 x.2.1 x.2.2 y1 y2 y3 = decide (x = (y1, y2, y3))) := by
        show _ = _
        by_cases h : x = (y1, y2, y3)
        · rw [decide_eq_true h]; exact (eqvB_iff _ _ _ _ _ _).2 h
        · rw [decide_eq_false h]; exact Bool.eq_false_iff.2 fun k => h ((eqvB_iff _ _ _ _ _ _).1 k)
      rw [HQ.out] at hq
      clear T HQ
      simp only [ddC]
      obtain ⟨ib, hib⟩ : ∃ ib, decide (x = (y1, y2, y3)) = ib := ⟨_, rfl⟩
      rw [hib] at hq HO
      clear hib
      go_enter Tryd.func16, Tryd.ntmps16
      go_wp2_with fail
      obtain ⟨y, hy⟩ : ∃ y, yesV ib = y := ⟨_, rfl⟩
      have HYs : Hid (∀ w', Calls Tryd.prog 26 #[.bool ib] w' fun e w'' => e = .returned (.agg #[.int .i64 y.1, .int .i64 y.2.1, .string y.2.2]) ∧ Below w'.heap.size w' w'') := fun w' => by rw [← hy]; exact yes_any ib w'
      rw [hy] at HO
      clear hy
      rename_i K9 hK9
      obtain ⟨I, hI⟩ : ∃ I : (Nat → Bool) → Act → World → Prop, ∀ L act wx, I L act wx ↔ (fun (L : Nat → Bool) (act : Act) (wx : World) => ∃ (t27 : Value) (t28 : Value) (t29 : Value) (t30 : Value) (t31 : Value) (t32 : Value) (t33 : Value) (t6 : Value) , act = ⟨#[.int .i64 7, v, .agg #[.int .i64 y1, .int .i64 y2, .string y3, .int .i64 12, va], undef, undef, .pointer (some ⟨w.heap.size, 0, none⟩), t6, .pointer (some ⟨w.heap.size + 1, 0, none⟩), .agg #[.int .i64 0, .int .i64 0, .string ⟨#[]⟩], .pointer (some ⟨w.heap.size, 3, none⟩), .int .i64 12, .bool false, .bool false, undef, undef, undef, undef, .bool false, .bool false, undef, undef, undef, undef, undef, undef, .bool true, .bool true, t27, t28, t29, t30, t31, t32, t33], []⟩ ∧ Hid (Below w.heap.size w wx) ∧ Hid (Blk wx w.heap.size [.int .i64 y1, .int .i64 y2, .string y3, .int .i64 12, va] 36) ∧ Hid (L 0 = true → t27 = v) ∧ Hid (L 1 = true → t28 = .agg #[.int .i64 x.1, .int .i64 x.2.1, .string x.2.2]) ∧ Hid (L 2 = true → t29 = .pointer (some ⟨w.heap.size, 0, none⟩)) ∧ Hid (L 3 = true → t30 = .agg #[.int .i64 y1, .int .i64 y2, .string y3]) ∧ Hid (L 4 = true → t31 = .bool ib) ∧ Hid (L 5 = true → t32 = .agg #[.int .i64 y.1, .int .i64 y.2.1, .string y.2.2]) ∧ Hid (L 6 = true → OwnV wx w.heap.size t33 [y]) ∧ Hid (L 7 = true → OwnV wx w.heap.size t6 [y])) L act wx := ⟨_, fun _ _ _ => Iff.rfl⟩
      dsimp only at hI
      have HI : Hid (∀ L act wx, I L act wx ↔ _) := hI
      clear hI
      refine wp_region_inv mixed [[], [0], [], [2], [0, 1, 2, 3], [0, 1, 2, 3, 4], [0, 1, 2, 3, 4, 5], [0, 1, 2, 3, 4, 5, 6]] (by kernel_rfl) I ?_ ?_ ?_
      · refine (HI.out _ _ _).2 ⟨_, _, _, _, _, _, _, _, rfl, ?_, ?_, fun h => Bool.noConfusion h, fun h => Bool.noConfusion h, fun h => Bool.noConfusion h, fun h => Bool.noConfusion h, fun h => Bool.noConfusion h, fun h => Bool.noConfusion h, fun h => Bool.noConfusion h, fun h => Bool.noConfusion h⟩
        · exact below_next HT.out.2.2 (Stay.drew _)
        · exact HT.out.1.later (Stay.drew _)
      · intro i hi L act wx hIa hLi hcl hanc
        obtain ⟨t27, t28, t29, t30, t31, t32, t33, t6, rfl, HS, E0, F0, F1, F2, F3, F4, F5, F6, F7⟩ := (HI.out _ _ _).1 hIa
        clear hIa
        have hi' : i = 0 ∨ i = 1 ∨ i = 2 ∨ i = 3 ∨ i = 4 ∨ i = 5 ∨ i = 6 ∨ i = 7 := by have hi : i < 8 := hi; omega
        clear hi
        rcases hi' with rfl | rfl | rfl | rfl | rfl | rfl | rfl | rfl
        · refine YieldsIf.wpOp (S := fun _ => True) (v := v) (by rfl) (.inl ⟨rfl, fun w _ => rfl⟩) trivial ?_
          simp only [Act.put, List.setIfInBounds_toArray, List.set_cons_zero, List.set_cons_succ]
          have hb : Below wx.heap.size wx wx := Below.refl _ _
          show I (putL L 0) _ _
          exact (HI.out (putL L 0) _ _).2 ⟨_, _, _, _, _, _, _, _, rfl, below_next HS.out hb, E0.out.later hb, fun _ => rfl, fun h => absurd (hcl 1 ((putL_ne (i := 0) (by decide)).symm.trans h) 0 (by decide)) (by rw [hLi]; decide), fun h => (by first | exact F2.out ((putL_ne (i := 0) (by decide)).symm.trans h) | rfl), fun h => (by first | exact F3.out ((putL_ne (i := 0) (by decide)).symm.trans h) | rfl), fun h => absurd (hcl 4 ((putL_ne (i := 0) (by decide)).symm.trans h) 0 (by decide)) (by rw [hLi]; decide), fun h => absurd (hcl 5 ((putL_ne (i := 0) (by decide)).symm.trans h) 0 (by decide)) (by rw [hLi]; decide), fun h => absurd (hcl 6 ((putL_ne (i := 0) (by decide)).symm.trans h) 0 (by decide)) (by rw [hLi]; decide), fun h => absurd (hcl 7 ((putL_ne (i := 0) (by decide)).symm.trans h) 0 (by decide)) (by rw [hLi]; decide)⟩
        · have f0 := F0.out (hanc 0 (by decide))
          have g0 := f0
          subst g0
          refine wpOp_doG 1 (by rfl) (by rfl) ?_
          go_wp2_with fail
          refine (HW.out wx HS.out).mono ?_
          rintro e9 wn ⟨rfl, hb⟩
          show I (putL L 1) _ _
          exact (HI.out (putL L 1) _ _).2 ⟨_, _, _, _, _, _, _, _, rfl, below_next HS.out hb, E0.out.later hb, fun h => (by first | exact F0.out ((putL_ne (i := 1) (by decide)).symm.trans h) | rfl), fun _ => rfl, fun h => (by first | exact F2.out ((putL_ne (i := 1) (by decide)).symm.trans h) | rfl), fun h => (by first | exact F3.out ((putL_ne (i := 1) (by decide)).symm.trans h) | rfl), fun h => absurd (hcl 4 ((putL_ne (i := 1) (by decide)).symm.trans h) 1 (by decide)) (by rw [hLi]; decide), fun h => absurd (hcl 5 ((putL_ne (i := 1) (by decide)).symm.trans h) 1 (by decide)) (by rw [hLi]; decide), fun h => absurd (hcl 6 ((putL_ne (i := 1) (by decide)).symm.trans h) 1 (by decide)) (by rw [hLi]; decide), fun h => absurd (hcl 7 ((putL_ne (i := 1) (by decide)).symm.trans h) 1 (by decide)) (by rw [hLi]; decide)⟩
        · refine YieldsIf.wpOp (S := fun _ => True) (v := .pointer (some ⟨w.heap.size, 0, none⟩)) (by rfl) (.inl ⟨rfl, fun w _ => by go_simp⟩) trivial ?_
          simp only [Act.put, List.setIfInBounds_toArray, List.set_cons_zero, List.set_cons_succ]
          have hb : Below wx.heap.size wx wx := Below.refl _ _
          show I (putL L 2) _ _
          exact (HI.out (putL L 2) _ _).2 ⟨_, _, _, _, _, _, _, _, rfl, below_next HS.out hb, E0.out.later hb, fun h => (by first | exact F0.out ((putL_ne (i := 2) (by decide)).symm.trans h) | rfl), fun h => (by first | exact F1.out ((putL_ne (i := 2) (by decide)).symm.trans h) | rfl), fun _ => rfl, fun h => absurd (hcl 3 ((putL_ne (i := 2) (by decide)).symm.trans h) 2 (by decide)) (by rw [hLi]; decide), fun h => absurd (hcl 4 ((putL_ne (i := 2) (by decide)).symm.trans h) 2 (by decide)) (by rw [hLi]; decide), fun h => absurd (hcl 5 ((putL_ne (i := 2) (by decide)).symm.trans h) 2 (by decide)) (by rw [hLi]; decide), fun h => absurd (hcl 6 ((putL_ne (i := 2) (by decide)).symm.trans h) 2 (by decide)) (by rw [hLi]; decide), fun h => absurd (hcl 7 ((putL_ne (i := 2) (by decide)).symm.trans h) 2 (by decide)) (by rw [hLi]; decide)⟩
        · have f2 := F2.out (hanc 2 (by decide))
          have g2 := f2
          subst g2
          refine wpOp_doG 3 (by rfl) (by rfl) ?_
          refine wp_load_mid 25 (.tmp 29) rfl w.heap.size 0 rfl (encV (y1, y2, y3)) _ (E0.out.range 0 _ (fun j v hj => by have hj3 : j < 3 := (List.getElem?_eq_some_iff.1 hj).1; rcases j with _ | _ | _ | j <;> first | exact hj | omega)) Tryd.underlying25 rfl infoVv ?_
          simp only [Act.put, List.setIfInBounds_toArray, List.set_cons_zero, List.set_cons_succ]
          have hb : Below wx.heap.size wx wx := Below.refl _ _
          show I (putL L 3) _ _
          exact (HI.out (putL L 3) _ _).2 ⟨_, _, _, _, _, _, _, _, rfl, below_next HS.out hb, E0.out.later hb, fun h => (by first | exact F0.out ((putL_ne (i := 3) (by decide)).symm.trans h) | rfl), fun h => (by first | exact F1.out ((putL_ne (i := 3) (by decide)).symm.trans h) | rfl), fun h => (by first | exact F2.out ((putL_ne (i := 3) (by decide)).symm.trans h) | rfl), fun _ => rfl, fun h => absurd (hcl 4 ((putL_ne (i := 3) (by decide)).symm.trans h) 3 (by decide)) (by rw [hLi]; decide), fun h => absurd (hcl 5 ((putL_ne (i := 3) (by decide)).symm.trans h) 3 (by decide)) (by rw [hLi]; decide), fun h => absurd (hcl 6 ((putL_ne (i := 3) (by decide)).symm.trans h) 3 (by decide)) (by rw [hLi]; decide), fun h => absurd (hcl 7 ((putL_ne (i := 3) (by decide)).symm.trans h) 3 (by decide)) (by rw [hLi]; decide)⟩
        · have f0 := F0.out (hanc 0 (by decide))
          have f1 := F1.out (hanc 1 (by decide))
          have f2 := F2.out (hanc 2 (by decide))
          have f3 := F3.out (hanc 3 (by decide))
          have g1 := f1
          subst g1
          have g3 := f3
          subst g3
          refine wpOp_doG 4 (by rfl) (by rfl) ?_
          go_wp2_with fail
          have hb : Below wx.heap.size wx wx := Below.refl _ _
          show I (putL L 4) _ _
          exact (HI.out (putL L 4) _ _).2 ⟨_, _, _, _, _, _, _, _, rfl, below_next HS.out hb, E0.out.later hb, fun h => (by first | exact F0.out ((putL_ne (i := 4) (by decide)).symm.trans h) | rfl), fun h => (by first | exact F1.out ((putL_ne (i := 4) (by decide)).symm.trans h) | rfl), fun h => (by first | exact F2.out ((putL_ne (i := 4) (by decide)).symm.trans h) | rfl), fun h => (by first | exact F3.out ((putL_ne (i := 4) (by decide)).symm.trans h) | rfl), fun _ => rfl, fun h => absurd (hcl 5 ((putL_ne (i := 4) (by decide)).symm.trans h) 4 (by decide)) (by rw [hLi]; decide), fun h => absurd (hcl 6 ((putL_ne (i := 4) (by decide)).symm.trans h) 4 (by decide)) (by rw [hLi]; decide), fun h => absurd (hcl 7 ((putL_ne (i := 4) (by decide)).symm.trans h) 4 (by decide)) (by rw [hLi]; decide)⟩
        · have f0 := F0.out (hanc 0 (by decide))
          have f1 := F1.out (hanc 1 (by decide))
          have f2 := F2.out (hanc 2 (by decide))
          have f3 := F3.out (hanc 3 (by decide))
          have f4 := F4.out (hanc 4 (by decide))
          have g4 := f4
          subst g4
          refine wpOp_doG 5 (by rfl) (by rfl) ?_
          go_wp2_with fail
          refine (HYs.out wx).mono ?_
          rintro e9 wn ⟨rfl, hb⟩
          show I (putL L 5) _ _
          exact (HI.out (putL L 5) _ _).2 ⟨_, _, _, _, _, _, _, _, rfl, below_next HS.out hb, E0.out.later hb, fun h => (by first | exact F0.out ((putL_ne (i := 5) (by decide)).symm.trans h) | rfl), fun h => (by first | exact F1.out ((putL_ne (i := 5) (by decide)).symm.trans h) | rfl), fun h => (by first | exact F2.out ((putL_ne (i := 5) (by decide)).symm.trans h) | rfl), fun h => (by first | exact F3.out ((putL_ne (i := 5) (by decide)).symm.trans h) | rfl), fun h => (by first | exact F4.out ((putL_ne (i := 5) (by decide)).symm.trans h) | rfl), fun _ => rfl, fun h => absurd (hcl 6 ((putL_ne (i := 5) (by decide)).symm.trans h) 5 (by decide)) (by rw [hLi]; decide), fun h => absurd (hcl 7 ((putL_ne (i := 5) (by decide)).symm.trans h) 5 (by decide)) (by rw [hLi]; decide)⟩
        · have f0 := F0.out (hanc 0 (by decide))
          have f1 := F1.out (hanc 1 (by decide))
          have f2 := F2.out (hanc 2 (by decide))
          have f3 := F3.out (hanc 3 (by decide))
          have f4 := F4.out (hanc 4 (by decide))
          have f5 := F5.out (hanc 5 (by decide))
          have g5 := f5
          subst g5
          refine wpOp_doG 6 (by rfl) (by rfl) ?_
          go_wp2_with fail
          have HV9 := own_one wx w.heap.size HS.out.size y
          have hb := below_box wx (.cells (encV y).toArray 25)
          change OwnV (wx.alloc (.cells #[.int .i64 y.1, .int .i64 y.2.1, .string y.2.2] 25)) _ _ _ at HV9
          change Below _ wx (wx.alloc (.cells #[.int .i64 y.1, .int .i64 y.2.1, .string y.2.2] 25)) at hb
          show I (putL L 6) _ _
          exact (HI.out (putL L 6) _ _).2 ⟨_, _, _, _, _, _, _, _, rfl, below_next HS.out hb, E0.out.later hb, fun h => (by first | exact F0.out ((putL_ne (i := 6) (by decide)).symm.trans h) | rfl), fun h => (by first | exact F1.out ((putL_ne (i := 6) (by decide)).symm.trans h) | rfl), fun h => (by first | exact F2.out ((putL_ne (i := 6) (by decide)).symm.trans h) | rfl), fun h => (by first | exact F3.out ((putL_ne (i := 6) (by decide)).symm.trans h) | rfl), fun h => (by first | exact F4.out ((putL_ne (i := 6) (by decide)).symm.trans h) | rfl), fun h => (by first | exact F5.out ((putL_ne (i := 6) (by decide)).symm.trans h) | rfl), fun _ => HV9, fun h => absurd (hcl 7 ((putL_ne (i := 6) (by decide)).symm.trans h) 6 (by decide)) (by rw [hLi]; decide)⟩
        · have f0 := F0.out (hanc 0 (by decide))
          have f1 := F1.out (hanc 1 (by decide))
          have f2 := F2.out (hanc 2 (by decide))
          have f3 := F3.out (hanc 3 (by decide))
          have f4 := F4.out (hanc 4 (by decide))
          have f5 := F5.out (hanc 5 (by decide))
          have f6 := F6.out (hanc 6 (by decide))
          refine YieldsIf.wpOp (S := fun _ => True) (v := t33) (by rfl) (.inl ⟨rfl, fun w _ => rfl⟩) trivial ?_
          simp only [Act.put, List.setIfInBounds_toArray, List.set_cons_zero, List.set_cons_succ]
          have hb : Below wx.heap.size wx wx := Below.refl _ _
          show I (putL L 7) _ _
          exact (HI.out (putL L 7) _ _).2 ⟨_, _, _, _, _, _, _, _, rfl, below_next HS.out hb, E0.out.later hb, fun h => (by first | exact F0.out ((putL_ne (i := 7) (by decide)).symm.trans h) | rfl), fun h => (by first | exact F1.out ((putL_ne (i := 7) (by decide)).symm.trans h) | rfl), fun h => (by first | exact F2.out ((putL_ne (i := 7) (by decide)).symm.trans h) | rfl), fun h => (by first | exact F3.out ((putL_ne (i := 7) (by decide)).symm.trans h) | rfl), fun h => (by first | exact F4.out ((putL_ne (i := 7) (by decide)).symm.trans h) | rfl), fun h => (by first | exact F5.out ((putL_ne (i := 7) (by decide)).symm.trans h) | rfl), fun h => (fun q => q.later hb) (F6.out ((putL_ne (i := 7) (by decide)).symm.trans h)), fun _ => f6⟩
      · intro L act wx hall hIa
        obtain ⟨t27, t28, t29, t30, t31, t32, t33, t6, rfl, HS, E0, F0, F1, F2, F3, F4, F5, F6, F7⟩ := (HI.out _ _ _).1 hIa
        have f0 := F0.out (hall 0 (by decide))
        have f1 := F1.out (hall 1 (by decide))
        have f2 := F2.out (hall 2 (by decide))
        have f3 := F3.out (hall 3 (by decide))
        have f4 := F4.out (hall 4 (by decide))
        have f5 := F5.out (hall 5 (by decide))
        have f6 := F6.out (hall 6 (by decide))
        have f7 := F7.out (hall 7 (by decide))
        clear hIa HI F0 F1 F2 F3 F4 F5 F6 F7
        show K9 _ _
        apply hK9
        clear hK9 K9
        have HF : Hid (OwnV wx w.heap.size t6 [y]) := f7
        have HB9 : Hid (Below w.heap.size w wx) := HS.out
        clear HS E0 HT HW HYs f0 f1 f2 f3 f4 f5 f6 f7
        go_wp2_with fail
        go_ret
        exact ⟨_, rfl, by rw [HO.out]; exact HF.out.vsl, HB9.out⟩
  · subst h8
    rw [keptH_8 (by decide)]
    generalize keptN (ys.map (·.1)) = x at *
    have HSm : Hid (∀ w', Below w.heap.size w w' → Calls Tryd.prog 21 #[v] w' fun e w'' => e = .returned (.int .i64 x) ∧ Below w'.heap.size w' w'') := hS
    clear hW hS T
    simp only [ddC]
    rcases h with h | h
    · have h : yo = 2 := h
      subst h
      have HO : Hid (outHx (noV, x) ⟨(y1, y2, y3), 2, ya⟩ = [(1, x, noB)]) := rfl
      go_enter Tryd.func16, Tryd.ntmps16
      go_wp2_with fail
      refine (HSm.out _ HT.out.2.2).mono ?_
      rintro e w2 ⟨rfl, hb2⟩
      have HB2 : Hid (Below w.heap.size w w2) := below_next HT.out.2.2 hb2
      clear hb2 HT HSm
      go_wp2
      go_ret
      exact ⟨_, rfl, by rw [HO.out]; exact (own_one w2 w2.heap.size (Nat.le_refl _) (1, x, noB)).vsl, below_more HB2.out _⟩
    · have h : yo = 4 := h
      subst h
      have HO : Hid (outHx (noV, x) ⟨(y1, y2, y3), 4, ya⟩ = []) := rfl
      go_enter Tryd.func16, Tryd.ntmps16
      go_wp2
      go_ret
      exact ⟨_, rfl, by rw [HO.out]; exact vsl_nil0 _, HT.out.2.2⟩
end Go.Proofs.YtpboleifllcehaaDoor
