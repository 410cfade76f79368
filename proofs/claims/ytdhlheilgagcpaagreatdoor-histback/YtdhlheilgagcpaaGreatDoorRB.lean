/- The contracts of what tells whether an event is right for its type, and of Right. Conditions: the table of signs and the event's lists lie in memory; the texts are at most 2^62 bytes, the values at most a million. -/
import Derived.Test.YtdhlheilgagcpaaGreatDoorRA
namespace Go.Proofs.YtdhlheilgagcpaaGreatDoor
open Go.RowKit Go.PlainAid Ln
set_option linter.unusedVariables false
set_option linter.unusedSimpArgs false

/-- an event's texts and lists are of a size that the contracts take -/
def SzE (x : Ev) : Prop := x.c.2.2.size ≤ 4611686018427387904 ∧ x.k.2.2.size ≤ 4611686018427387904 ∧ (∀ i, i < x.a.length → (nv x.a i).2.2.size ≤ 4611686018427387904) ∧ (∀ i, i < x.r.length → (nv x.r i).2.2.size ≤ 4611686018427387904) ∧ x.a.length ≤ 1000000 ∧ x.r.length ≤ 1000000
theorem typ_1 {x : Ev} (h : x.y = 1) : typB x = (nV x.k && (fi x.m x.o && fitsL (fr x.m x.o).inn x.a) && decide (x.r.length = 0)) := by unfold typB; rw [if_pos h]
theorem typ_2 {x : Ev} (h : x.y = 2) : typB x = (nonB x && x.r.all rV) := by unfold typB; rw [if_neg (by omega), if_pos h]
theorem typ_3 {x : Ev} (h : x.y = 3 ∨ x.y = 4) : typB x = (nonB x && decide (x.r.length = 0)) := by unfold typB; rw [if_neg (by omega), if_neg (by omega), if_pos h]
theorem typ_0 {x : Ev} (h1 : ¬ x.y = 1) (h2 : ¬ x.y = 2) (h3 : ¬ x.y = 3) (h4 : ¬ x.y = 4) : typB x = false := by unfold typB; rw [if_neg h1, if_neg h2, if_neg (fun h => h.elim h3 h4)]
theorem nat_dec (n : Nat) : decide (n = 0) = decide ((n : Int) = 0) := by simp
set_option maxRecDepth 100000 in
set_option maxHeartbeats 4000000 in
theorem type_any (x : Ev) (va vr : Value) (w : World) (ht : Tb w) (h1 : VSl w va x.a) (h2 : VSl w vr x.r) (hz : SzE x) :
    Calls Tryz.prog 58 #[.agg (evC x va vr).toArray] w fun e w' => e = .returned (.bool (typB x)) ∧ Below w.heap.size w w' := by
  have hN := fun w => none_any x va vr w (by obtain ⟨a, c, h, _⟩ := h1; exact ⟨a, c, h⟩)
  obtain ⟨ar, cr, hvr⟩ : ∃ a c, vr = .slice a x.r.length c := by obtain ⟨a, c, h, _⟩ := h2; exact ⟨a, c, h⟩
  have e1 := @typ_1 x
  have e2 := @typ_2 x
  have e3 := @typ_3 x
  have e4 := @typ_0 x
  have HT : Hid (Tb w) := ht
  have H1 : Hid (VSl w va x.a) := h1
  have H2 : Hid (VSl w vr x.r) := h2
  have HZ : Hid (SzE x) := hz
  generalize typB x = tb at *
  generalize nonB x = nb at *
  clear ht h1 h2 hz
  obtain ⟨t, ⟨c1, c2, c3⟩, y, m, ⟨k1, k2, k3⟩, o, la, lr, nd, nt1⟩ := x
  obtain ⟨w1, hw1⟩ : ∃ w1, w.alloc (.cells (evC ⟨t, (c1, c2, c3), y, m, (k1, k2, k3), o, la, lr, nd, nt1⟩ va vr).toArray 37) = w1 := ⟨_, rfl⟩
  have B1 := Blk.new w (evC ⟨t, (c1, c2, c3), y, m, (k1, k2, k3), o, la, lr, nd, nt1⟩ va vr) 37
  rw [hw1] at B1
  have b1 : Below w.heap.size w w1 := by rw [← hw1]; exact below_more (Below.refl _ _) _
  have ea : w.alloc (.cells #[.int .i64 t, .int .i64 c1, .int .i64 c2, .string c3, .int .i64 y, .int .i64 m, .int .i64 k1, .int .i64 k2, .string k3, .int .i64 o, va, vr, .bool nd, .string nt1] 37) = w1 := hw1
  obtain ⟨p, hp⟩ : ∃ p, w.heap.size = p := ⟨_, rfl⟩
  rw [hp] at B1
  have HB : Hid (Blk w1 p (evC ⟨t, (c1, c2, c3), y, m, (k1, k2, k3), o, la, lr, nd, nt1⟩ va vr) 37) := B1
  have Hb : Hid (Below w.heap.size w w1) := b1
  obtain ⟨a0, a1, a2, a3, a4, a5, a6, a7, a8, a9, a10, a11, a12, a13⟩ := ev_cells B1
  clear hw1 B1 b1
  dsimp only at a0 a1 a2 a3 a4 a5 a6 a7 a8 a9 a10 a11 a12 a13 e1 e2 e3 e4 hvr ⊢
  simp only [evC]
  simp only [evC] at hN
  have hT := fun w => takes_any 1 k1 k2 k3 w HZ.out.2.1
  rw [takesB_n (by decide)] at hT
  have e5 : nV (k1, k2, k3) = nameB k1 k2 k3 := rfl
  rw [e5] at e1
  generalize nameB k1 k2 k3 = n1 at *
  have hF := fun w' (hb : Below w.heap.size w w') => fits_any m o va la w' (HT.out.later hb) (H1.out.later hb) HZ.out.2.2.1 HZ.out.2.2.2.2.1
  generalize (fi m o && fitsL (fr m o).inn la) = n2 at *
  have hA := fun w' (hb : Below w.heap.size w w') => allR_any vr lr w' (H2.out.later hb) HZ.out.2.2.2.1
  generalize lr.all rV = n3 at *
  have HF : Hid (∀ w', Below w.heap.size w w' → _) := hF
  have HA : Hid (∀ w', Below w.heap.size w w' → _) := hA
  clear hF hA e5
  generalize hn : lr.length = n at *
  have Hvr : Hid (vr = .slice ar n cr) := hvr
  clear hvr hn
  by_cases y1 : y = 1
  · rw [e1 y1]
    clear e1 e2 e3 e4 hN
    subst y1
    cases n1
    · clear HF HA
      go_enter Tryz.func58, Tryz.ntmps58
      go_wp2_with fail
      refine (hT _).mono ?_
      rintro e w2 ⟨rfl, b2⟩
      go_wp2_with fail
      go_ret
      exact ⟨rfl, by first | exact below_next Hb.out b2 | (rw [← hp]; exact below_next Hb.out b2)⟩
    cases n2
    · go_enter Tryz.func58, Tryz.ntmps58
      go_wp2_with fail
      refine (hT _).mono ?_
      rintro e w2 ⟨rfl, b2⟩
      obtain ⟨a0, a1, a2, a3, a4, a5, a6, a7, a8, a9, a10, a11, a12, a13⟩ := ev_cells (HB.out.later b2)
      simp only at a0 a1 a2 a3 a4 a5 a6 a7 a8 a9 a10 a11 a12 a13
      go_wp2_with fail
      refine (HF.out _ (below_next Hb.out b2)).mono ?_
      rintro e w3 ⟨rfl, b3⟩
      go_wp2_with fail
      go_ret
      exact ⟨rfl, by first | exact below_next (below_next Hb.out b2) b3 | (rw [← hp]; exact below_next (below_next Hb.out b2) b3)⟩
    · have hvr := Hvr.out
      subst hvr
      clear Hvr
      go_enter Tryz.func58, Tryz.ntmps58
      go_wp2_with fail
      refine (hT _).mono ?_
      rintro e w2 ⟨rfl, b2⟩
      obtain ⟨a0, a1, a2, a3, a4, a5, a6, a7, a8, a9, a10, a11, a12, a13⟩ := ev_cells (HB.out.later b2)
      simp only at a0 a1 a2 a3 a4 a5 a6 a7 a8 a9 a10 a11 a12 a13
      go_wp2_with fail
      refine (HF.out _ (below_next Hb.out b2)).mono ?_
      rintro e w3 ⟨rfl, b3⟩
      obtain ⟨a0, a1, a2, a3, a4, a5, a6, a7, a8, a9, a10, a11, a12, a13⟩ := ev_cells ((HB.out.later b2).later b3)
      simp only at a0 a1 a2 a3 a4 a5 a6 a7 a8 a9 a10 a11 a12 a13
      go_wp2_with fail
      go_ret
      exact ⟨ret_b (by simp; first | done | (rw [Bool.eq_iff_iff]; simp)), by first | exact below_next (below_next Hb.out b2) b3 | (rw [← hp]; exact below_next (below_next Hb.out b2) b3)⟩
  have y1' : (y == 1) = false := by simp [y1]
  by_cases y2 : y = 2
  · rw [e2 y2]
    clear e1 e2 e3 e4 y1 y1' HF hT
    subst y2
    cases nb
    · go_enter Tryz.func58, Tryz.ntmps58
      go_wp2_with fail
      refine (hN _).mono ?_
      rintro e w2 ⟨rfl, b2⟩
      go_wp2_with fail
      go_ret
      exact ⟨rfl, by first | exact below_next Hb.out b2 | (rw [← hp]; exact below_next Hb.out b2)⟩
    · go_enter Tryz.func58, Tryz.ntmps58
      go_wp2_with fail
      refine (hN _).mono ?_
      rintro e w2 ⟨rfl, b2⟩
      obtain ⟨a0, a1, a2, a3, a4, a5, a6, a7, a8, a9, a10, a11, a12, a13⟩ := ev_cells (HB.out.later b2)
      simp only at a0 a1 a2 a3 a4 a5 a6 a7 a8 a9 a10 a11 a12 a13
      go_wp2_with fail
      refine (HA.out _ (below_next Hb.out b2)).mono ?_
      rintro e w3 ⟨rfl, b3⟩
      go_wp2_with fail
      go_ret
      exact ⟨ret_b (by simp; first | done | (rw [Bool.eq_iff_iff]; simp)), by first | exact below_next (below_next Hb.out b2) b3 | (rw [← hp]; exact below_next (below_next Hb.out b2) b3)⟩
  have y2' : (y == 2) = false := by simp [y2]
  by_cases y3 : y = 3 ∨ y = 4
  · rw [e3 y3]
    clear e1 e2 e3 e4 y1 y2 y1' y2' HF HA hT
    have hvr := Hvr.out
    subst hvr
    clear Hvr
    cases nb
    · rcases y3 with rfl | rfl
      all_goals
        go_enter Tryz.func58, Tryz.ntmps58
        go_wp2_with fail
        refine (hN _).mono ?_
        rintro e w2 ⟨rfl, b2⟩
        go_wp2_with fail
        go_ret
        exact ⟨rfl, by first | exact below_next Hb.out b2 | (rw [← hp]; exact below_next Hb.out b2)⟩
    · rcases y3 with rfl | rfl
      all_goals
        go_enter Tryz.func58, Tryz.ntmps58
        go_wp2_with fail
        refine (hN _).mono ?_
        rintro e w2 ⟨rfl, b2⟩
        obtain ⟨a0, a1, a2, a3, a4, a5, a6, a7, a8, a9, a10, a11, a12, a13⟩ := ev_cells (HB.out.later b2)
        simp only at a0 a1 a2 a3 a4 a5 a6 a7 a8 a9 a10 a11 a12 a13
        go_wp2_with fail
        go_ret
        exact ⟨ret_b (by simp; first | done | (rw [Bool.eq_iff_iff]; simp)), by first | exact below_next Hb.out b2 | (rw [← hp]; exact below_next Hb.out b2)⟩
  · have y3' : (y == 3) = false := by simp; omega
    have y4' : (y == 4) = false := by simp; omega
    rw [e4 y1 y2 (fun h => y3 (.inl h)) (fun h => y3 (.inr h))]
    clear e1 e2 e3 e4 y1 y2 y3 HF HA hT hN
    go_enter Tryz.func58, Tryz.ntmps58
    go_wp2_with fail
    go_ret
    exact ⟨rfl, by first | exact Hb.out | (rw [← hp]; exact Hb.out)⟩
set_option maxRecDepth 100000 in
set_option maxHeartbeats 4000000 in
theorem eright_any (x : Ev) (va vr : Value) (w : World) (ht : Tb w) (h1 : VSl w va x.a) (h2 : VSl w vr x.r) (hz : SzE x) :
    Calls Tryz.prog 27 #[.agg (evC x va vr).toArray] w fun e w' => e = .returned (.bool (rightE x)) ∧ Below w.heap.size w w' := by
  have hY := fun w' (hb : Below w.heap.size w w') => type_any x va vr w' (ht.later hb) (h1.later hb) (h2.later hb) hz
  have hN := fun w' => note_right x va vr w'
  have HZ : Hid (SzE x) := hz
  unfold rightE
  generalize typB x = tb at *
  generalize noteB x.nd x.n = nb at *
  clear ht h1 h2 hz
  obtain ⟨t, ⟨c1, c2, c3⟩, y, m, ⟨k1, k2, k3⟩, o, la, lr, nd, nt1⟩ := x
  obtain ⟨w1, hw1⟩ : ∃ w1, w.alloc (.cells (evC ⟨t, (c1, c2, c3), y, m, (k1, k2, k3), o, la, lr, nd, nt1⟩ va vr).toArray 37) = w1 := ⟨_, rfl⟩
  have B1 := Blk.new w (evC ⟨t, (c1, c2, c3), y, m, (k1, k2, k3), o, la, lr, nd, nt1⟩ va vr) 37
  rw [hw1] at B1
  have b1 : Below w.heap.size w w1 := by rw [← hw1]; exact below_more (Below.refl _ _) _
  have ea : w.alloc (.cells #[.int .i64 t, .int .i64 c1, .int .i64 c2, .string c3, .int .i64 y, .int .i64 m, .int .i64 k1, .int .i64 k2, .string k3, .int .i64 o, va, vr, .bool nd, .string nt1] 37) = w1 := hw1
  obtain ⟨p, hp⟩ : ∃ p, w.heap.size = p := ⟨_, rfl⟩
  rw [hp] at B1
  have HB : Hid (Blk w1 p (evC ⟨t, (c1, c2, c3), y, m, (k1, k2, k3), o, la, lr, nd, nt1⟩ va vr) 37) := B1
  have Hb : Hid (Below w.heap.size w w1) := b1
  obtain ⟨a0, a1, a2, a3, a4, a5, a6, a7, a8, a9, a10, a11, a12, a13⟩ := ev_cells B1
  clear hw1 B1 b1
  dsimp only at a0 a1 a2 a3 a4 a5 a6 a7 a8 a9 a10 a11 a12 a13 ⊢
  simp only [evC]
  simp only [evC] at hY hN
  have hT := fun w => takes_any 0 c1 c2 c3 w HZ.out.1
  rw [takesB_n (by decide)] at hT
  have e5 : nV (c1, c2, c3) = nameB c1 c2 c3 := rfl
  rw [e5]
  generalize nameB c1 c2 c3 = n1 at *
  have HY : Hid (∀ w', Below w.heap.size w w' → _) := hY
  clear hY e5
  by_cases ht0 : 0 ≤ t
  · rw [decide_eq_true ht0]
    cases n1
    · clear hN HY
      go_enter Tryz.func27, Tryz.ntmps27
      go_wp2_with fail
      refine (hT _).mono ?_
      rintro e w2 ⟨rfl, b2⟩
      go_wp2_with fail
      go_ret
      exact ⟨rfl, by first | exact below_next Hb.out b2 | (rw [← hp]; exact below_next Hb.out b2)⟩
    cases nb
    · clear HY
      go_enter Tryz.func27, Tryz.ntmps27
      go_wp2_with fail
      refine (hT _).mono ?_
      rintro e w2 ⟨rfl, b2⟩
      obtain ⟨a0, a1, a2, a3, a4, a5, a6, a7, a8, a9, a10, a11, a12, a13⟩ := ev_cells (HB.out.later b2)
      simp only at a0 a1 a2 a3 a4 a5 a6 a7 a8 a9 a10 a11 a12 a13
      go_wp2_with fail
      refine (hN _).mono ?_
      rintro e w3 ⟨rfl, b3⟩
      go_wp2_with fail
      go_ret
      exact ⟨rfl, by first | exact below_next (below_next Hb.out b2) b3 | (rw [← hp]; exact below_next (below_next Hb.out b2) b3)⟩
    · go_enter Tryz.func27, Tryz.ntmps27
      go_wp2_with fail
      refine (hT _).mono ?_
      rintro e w2 ⟨rfl, b2⟩
      obtain ⟨a0, a1, a2, a3, a4, a5, a6, a7, a8, a9, a10, a11, a12, a13⟩ := ev_cells (HB.out.later b2)
      simp only at a0 a1 a2 a3 a4 a5 a6 a7 a8 a9 a10 a11 a12 a13
      go_wp2_with fail
      refine (hN _).mono ?_
      rintro e w3 ⟨rfl, b3⟩
      obtain ⟨a0, a1, a2, a3, a4, a5, a6, a7, a8, a9, a10, a11, a12, a13⟩ := ev_cells ((HB.out.later b2).later b3)
      simp only at a0 a1 a2 a3 a4 a5 a6 a7 a8 a9 a10 a11 a12 a13
      have bel := below_next (below_next Hb.out b2) b3
      have HBel : Hid (Below w.heap.size w w3) := bel
      clear bel b2 b3
      go_wp2_with fail
      refine (HY.out _ HBel.out).mono ?_
      rintro e w4 ⟨rfl, b4⟩
      go_wp2_with fail
      go_ret
      exact ⟨ret_b (by simp; first | done | (rw [Bool.eq_iff_iff]; simp)), by first | exact below_next HBel.out b4 | (rw [← hp]; exact below_next HBel.out b4)⟩
  · rw [decide_eq_false ht0]
    clear hN HY hT
    go_enter Tryz.func27, Tryz.ntmps27
    go_wp2_with fail
    go_ret
    exact ⟨rfl, by first | exact Hb.out | (rw [← hp]; exact Hb.out)⟩
end Go.Proofs.YtdhlheilgagcpaaGreatDoor
