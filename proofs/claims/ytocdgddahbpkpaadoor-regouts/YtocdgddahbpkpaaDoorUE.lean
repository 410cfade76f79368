/- The contract of a step. Conditions: sizes; the table of signs lies in memory. -/
import Derived.Test.YtocdgddahbpkpaaDoorUD
namespace Go.Proofs.YtocdgddahbpkpaaDoor
open Go.RowKit Go.PlainAid Ln Go.Sort
set_option linter.unusedVariables false
set_option linter.unusedSimpArgs false

theorem way_any (m : Int) (p : Nat) (x : Val) (d : Dd) (va : Value) (w : World) (hm : ownM m = true) (hd : mayD m d = true) (hb : Cl w p x) (hv : VSl w va d.a) :
    Calls Tryd.prog (wayM m d.o) #[.pointer (some ⟨p, 0, none⟩), va] w fun e w' => ∃ vo, e = .returned vo ∧ OwnV w' w.heap.size vo (outD x d) ∧ Cl w' p (nxV m x d) ∧ Oth p p w w' := by
  unfold wayM
  rcases may_cases hm hd with ⟨h, hl⟩ | ⟨h, h2, hl⟩ | ⟨h, hl, hn⟩
  · rw [if_pos h, outD_2 h, nxV_o (by omega) (by omega)]
    exact read_any p x va w hb
  · rw [if_neg (by omega), if_pos h, outD_3 h, nxV_3 h]
    exact swap_any p x va d.a w hb hv (by omega)
  · rw [if_neg (by omega), if_neg (by omega), outD_o (by omega) (by omega)]
    by_cases h9 : m = 9
    · rw [if_pos h9, nx_raise h h9 hn]
      refine (raise_any p x va d.a w hb hv (by omega)).mono ?_
      rintro e w' ⟨rfl, h1, h2⟩
      exact ⟨_, rfl, OwnV.nil _ _, h1, h2⟩
    · rw [if_neg h9, nxV_1 h h9]
      refine (write_any p x va d.a w hb hv (by omega)).mono ?_
      rintro e w' ⟨rfl, h1, h2⟩
      exact ⟨_, rfl, OwnV.nil _ _, h1, h2⟩
theorem st_cells {w : World} {q : Nat} {m : Int} {v : Val} {l : Value} {t : TypeId} (h : Blk w q (stC m v l) t) : w.cell? ⟨q, 0, none⟩ = some (.int .i64 m) ∧ w.cell? ⟨q, 1, none⟩ = some (.int .i64 v.1) ∧ w.cell? ⟨q, 2, none⟩ = some (.int .i64 v.2.1) ∧ w.cell? ⟨q, 3, none⟩ = some (.string v.2.2) ∧ w.cell? ⟨q, 4, none⟩ = some (.int .i64 0) ∧ w.cell? ⟨q, 5, none⟩ = some l :=
  ⟨h.cell 0 _ rfl, h.cell 1 _ rfl, h.cell 2 _ rfl, h.cell 3 _ rfl, h.cell 4 _ rfl, h.cell 5 _ rfl⟩
theorem v_cells {w : World} {q : Nat} {x : Val} {t : TypeId} (h : Blk w q (encV x) t) : w.cell? ⟨q, 0, none⟩ = some (.int .i64 x.1) ∧ w.cell? ⟨q, 1, none⟩ = some (.int .i64 x.2.1) ∧ w.cell? ⟨q, 2, none⟩ = some (.string x.2.2) :=
  ⟨h.cell 0 _ rfl, h.cell 1 _ rfl, h.cell 2 _ rfl⟩
theorem below_box3 (w : World) (a b c : Obj) : Below w.heap.size w (((w.alloc a).alloc b).alloc c) := below_more (below_more (below_more (Below.refl _ _) _) _) _
theorem three_laid (w : World) (a b c : List Value) (s t u : TypeId) :
    Blk (((w.alloc (.cells a.toArray s)).alloc (.cells b.toArray t)).alloc (.cells c.toArray u)) w.heap.size a s ∧ Blk (((w.alloc (.cells a.toArray s)).alloc (.cells b.toArray t)).alloc (.cells c.toArray u)) (w.heap.size + 1) b t ∧
      Blk (((w.alloc (.cells a.toArray s)).alloc (.cells b.toArray t)).alloc (.cells c.toArray u)) (w.heap.size + 1 + 1) c u ∧ Below w.heap.size w (((w.alloc (.cells a.toArray s)).alloc (.cells b.toArray t)).alloc (.cells c.toArray u)) := by
  refine ⟨((Blk.new w a s).alloc _).alloc _, ?_, ?_, below_box3 _ _ _ _⟩
  · have := (Blk.new (w.alloc (.cells a.toArray s)) b t).alloc (.cells c.toArray u)
    simpa using this
  · have := Blk.new ((w.alloc (.cells a.toArray s)).alloc (.cells b.toArray t)) c u
    simpa using this
set_option maxHeartbeats 4000000 in
theorem step_no (m : Int) (v c : Val) (l : Value) (o : Int) (va : Value) (xs : List Val) (w : World) (ht : Tb w) (hv : VSl w va xs) (hs : SzV xs) (hc : c.2.2.size ≤ 4611686018427387904) (h : mayM m ⟨c, o, xs⟩ = false) :
    Calls Tryd.prog 12 #[.agg (stC m v l).toArray, .agg #[.int .i64 c.1, .int .i64 c.2.1, .string c.2.2], .int .i64 o, va] w fun e w' => e = .returned (.tuple #[.agg (stC 0 noV nilS).toArray, nilS, .bool false]) ∧ Below w.heap.size w w' := by
  have hM := fun w' (hb : Below w.heap.size w w') => rmay_any m c o va xs w' (ht.later hb) (hv.later hb) hs hc
  rw [h] at hM
  have HM : Hid (∀ w', Below w.heap.size w w' → Calls Tryd.prog 22 #[.int .i64 m, .agg #[.int .i64 c.1, .int .i64 c.2.1, .string c.2.2], .int .i64 o, va] w' fun e w1 => e = .returned (.bool false) ∧ Below w'.heap.size w' w1) := hM
  clear hM hv hs ht hc h
  have T := three_laid w (stC m v l) (encV c) (stC 0 noV nilS) 28 25 28
  have HT : Hid _ := T
  simp only [stC]
  go_enter Tryd.func12, Tryd.ntmps12
  go_wp2_with fail
  refine (HM.out _ HT.out.2.2.2).mono ?_
  rintro e w4 ⟨rfl, hb4⟩
  have R4 := HT.out.2.2.1.later hb4
  have HB4 : Hid (Below w.heap.size w w4) := below_next HT.out.2.2.2 hb4
  have HQ : Hid (w.heap.size ≤ w.heap.size + 1 + 1) := (by omega : w.heap.size ≤ w.heap.size + 1 + 1)
  clear HT T hb4 HM
  go_wp2_with (first
    | ((with_reducible refine wp_storeB 28 (.tmp 8) (.tmp 21) (w.heap.size + 1 + 1) 0 (stC 0 noV nilS) (stC 0 noV nilS) 28 ?_ ?_ (stC_one _ _ rfl) ?_ ?_ ?_ R4 ?_); (exact infoSt); (exact (show 0 + 6 ≤ 6 by decide)); (exact ⟨rfl, rfl⟩); (exact rfl); (exact rfl); (intro w5 D1 o5); (replace D1 : Blk w5 (w.heap.size + 1 + 1) (stC 0 noV nilS) 28 := D1); (have HD : Hid (Blk w5 (w.heap.size + 1 + 1) (stC 0 noV nilS) 28) := D1); (have HB5 : Hid (Below w.heap.size w w5) := below_oth HB4.out o5 HQ.out HQ.out HB4.out.size); (clear D1 o5 HB4)))
  refine ret_blk3 rfl (w.heap.size + 1 + 1) (stC 0 noV nilS) 28 _ nilS (.bool false) Tryd.underlying28 rfl infoSt rfl HD.out rfl rfl rfl ?_
  exact ⟨rfl, HB5.out⟩
set_option maxHeartbeats 4000000 in
theorem step_yes (m : Int) (v c : Val) (l : Value) (o : Int) (va : Value) (xs : List Val) (w : World) (ht : Tb w) (hv : VSl w va xs) (hs : SzV xs) (hc : c.2.2.size ≤ 4611686018427387904) (hm : ownM m = true) (hd : mayD m ⟨c, o, xs⟩ = true) :
    Calls Tryd.prog 12 #[.agg (stC m v l).toArray, .agg #[.int .i64 c.1, .int .i64 c.2.1, .string c.2.2], .int .i64 o, va] w fun e w' => ∃ vo, e = .returned (.tuple #[.agg (stC m (nxV m v ⟨c, o, xs⟩) nilS).toArray, vo, .bool true]) ∧ OwnV w' w.heap.size vo (outD v ⟨c, o, xs⟩) ∧ Below w.heap.size w w' := by
  have hM := fun w' (hb : Below w.heap.size w w') => rmay_any m c o va xs w' (ht.later hb) (hv.later hb) hs hc
  have h : mayM m ⟨c, o, xs⟩ = true := by unfold mayM; rw [hm, hd]; rfl
  rw [h] at hM
  have HM : Hid (∀ w', Below w.heap.size w w' → Calls Tryd.prog 22 #[.int .i64 m, .agg #[.int .i64 c.1, .int .i64 c.2.1, .string c.2.2], .int .i64 o, va] w' fun e w1 => e = .returned (.bool true) ∧ Below w'.heap.size w' w1) := hM
  have HC := fun p w => choose_any p m o w
  have HWay : Hid (∀ p w', Below w.heap.size w w' → Cl w' p v → Calls Tryd.prog (wayM m o) #[.pointer (some ⟨p, 0, none⟩), va] w' fun e w'' => ∃ vo, e = .returned vo ∧ OwnV w'' w'.heap.size vo (outD v ⟨c, o, xs⟩) ∧ Cl w'' p (nxV m v ⟨c, o, xs⟩) ∧ Oth p p w' w'') :=
    fun p w' hb hp => way_any m p v ⟨c, o, xs⟩ va w' hm hd hp (hv.later hb)
  obtain ⟨x, hx⟩ : ∃ x, nxV m v ⟨c, o, xs⟩ = x := ⟨_, rfl⟩
  obtain ⟨ys, hys⟩ : ∃ ys, outD v ⟨c, o, xs⟩ = ys := ⟨_, rfl⟩
  rw [hx, hys] at HWay ⊢
  clear hM hv hs ht hc h hx hys hm hd
  have hn : wayM m o = 32 ∨ wayM m o = 33 ∨ wayM m o = 34 ∨ wayM m o = 35 := by
    unfold wayM
    by_cases h2 : o = 2
    · rw [if_pos h2]; exact .inl rfl
    · rw [if_neg h2]
      by_cases h3 : o = 3
      · rw [if_pos h3]; exact .inr (.inl rfl)
      · rw [if_neg h3]
        by_cases h9 : m = 9
        · rw [if_pos h9]; exact .inr (.inr (.inl rfl))
        · rw [if_neg h9]; exact .inr (.inr (.inr rfl))
  have HN : Hid (wayM m o = 32 ∨ wayM m o = 33 ∨ wayM m o = 34 ∨ wayM m o = 35) := hn
  clear hn
  generalize wayM m o = n at *
  have T := three_laid w (stC m v l) (encV c) (stC 0 noV nilS) 28 25 28
  have HT : Hid _ := T
  simp only [stC]
  go_enter Tryd.func12, Tryd.ntmps12
  go_wp2_with fail
  refine (HM.out _ HT.out.2.2.2).mono ?_
  rintro e w4 ⟨rfl, hb4⟩
  have HR4 : Hid (Blk w4 (w.heap.size + 1 + 1) (stC 0 noV nilS) 28) := HT.out.2.2.1.later hb4
  have HS4 : Hid (Blk w4 w.heap.size (stC m v l) 28) := HT.out.1.later hb4
  have HB4 : Hid (Below w.heap.size w w4) := below_next HT.out.2.2.2 hb4
  have HQ : Hid (w.heap.size ≤ w.heap.size + 1 + 1) := (by omega : w.heap.size ≤ w.heap.size + 1 + 1)
  obtain ⟨s0, s1, s2, s3, _, _⟩ := st_cells HS4.out
  have hl4 : w.heap.size < w4.heap.size := HS4.out.lt
  clear HT T hb4 HM
  go_wp2_with fail
  have C5 : Cl (w4.alloc (.cells #[.int .i64 v.1, .int .i64 v.2.1, .string v.2.2] 54)) w4.heap.size v := Blk.new w4 (encV v) _
  have hb5 := below_box w4 (.cells #[.int .i64 v.1, .int .i64 v.2.1, .string v.2.2] 54)
  generalize w4.alloc (.cells #[.int .i64 v.1, .int .i64 v.2.1, .string v.2.2] 54) = w5 at C5 hb5 ⊢
  clear s0 s1 s2 s3
  refine (HC _ _).mono ?_
  rintro e w6 ⟨rfl, hb6⟩
  have hb46 : Below w4.heap.size w4 w6 := below_next hb5 hb6
  have HC6 : Hid (Cl w6 w4.heap.size v) := Blk.later C5 hb6
  have HS6 : Hid (Blk w6 w.heap.size (stC m v l) 28) := HS4.out.later hb46
  have HR6 : Hid (Blk w6 (w.heap.size + 1 + 1) (stC 0 noV nilS) 28) := HR4.out.later hb46
  have HB6 : Hid (Below w.heap.size w w6) := below_next HB4.out hb46
  have HN4 : Hid (w.heap.size + 1 + 1 < w4.heap.size) := HR4.out.lt
  obtain ⟨q, hq⟩ : ∃ q, w4.heap.size = q := ⟨_, rfl⟩
  rw [hq] at HC6 HN4 hl4 ⊢
  clear hq HC C5 hb5 hb6 hb46 HS4 HR4
  rcases HN.out with rfl | rfl | rfl | rfl
  all_goals
    clear HN
    go_wp2_with fail
    refine (HWay.out q w6 HB6.out HC6.out).mono ?_
    rintro e w7 ⟨vo, rfl, ho, hc7, ho7⟩
    have HS7 : Hid (Blk w7 w.heap.size (stC m v l) 28) := HS6.out.oth ho7 (by omega) (by omega)
    have HR7 : Hid (Blk w7 (w.heap.size + 1 + 1) (stC 0 noV nilS) 28) := HR6.out.oth ho7 (by have := HN4.out; omega) (by have := HN4.out; omega)
    have HB7 : Hid (Below w.heap.size w w7) := below_oth HB6.out ho7 (by omega) (by omega) HB6.out.size
    have HO7 : Hid (OwnV w7 w.heap.size vo ys) := ho.base HB6.out.size
    obtain ⟨s0, _, _, _, _, _⟩ := st_cells HS7.out
    obtain ⟨c0, c1, c2⟩ := hc7.cells
    clear HWay HC6 HS6 HR6 HB6 HB4 ho hc7 ho7 HN4
    have R7 := HR7.out
    go_wp2_with (first
      | ((with_reducible refine wp_storeB 28 (.tmp 8) (.tmp 36) (w.heap.size + 1 + 1) 0 (stC m x nilS) (stC 0 noV nilS) 28 ?_ ?_ (stC_one _ _ rfl) ?_ ?_ ?_ R7 ?_); (exact infoSt); (exact (show 0 + 6 ≤ 6 by decide)); (exact ⟨rfl, rfl⟩); (exact rfl); (exact rfl); (intro w8 D1 o8); (replace D1 : Blk w8 (w.heap.size + 1 + 1) (stC m x nilS) 28 := D1); (have HD : Hid (Blk w8 (w.heap.size + 1 + 1) (stC m x nilS) 28) := D1); (have HB8 : Hid (Below w.heap.size w w8) := below_oth HB7.out o8 HQ.out HQ.out HB7.out.size); (have HO8 : Hid (OwnV w8 w.heap.size vo ys) := HO7.out.oth o8 R7 (by decide)); (clear D1 o8)))
    refine ret_blk3 rfl (w.heap.size + 1 + 1) (stC m x nilS) 28 _ vo (.bool true) Tryd.underlying28 rfl infoSt rfl HD.out rfl rfl rfl ?_
    exact ⟨vo, rfl, HO8.out, HB8.out⟩
end Go.Proofs.YtocdgddahbpkpaaDoor
