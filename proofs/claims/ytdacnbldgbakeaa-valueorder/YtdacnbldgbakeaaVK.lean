/- The walk of ValueOrder. No conditions. -/
import Derived.Test.YtdacnbldgbakeaaVJ
import Derived.Test.YtdacnbldgbakeaaVE
import Derived.Shelf.SlSortCmp.QuietGrown
namespace Go.Proofs.Ytdacnbldgbakeaa
open Go.RowKit Go.PlainAid Go.Sort
set_option linter.unusedVariables false

theorem below_grew {w w' : World} (h : ∃ q os, w' = grow (w.drewN q) os) : Below w.heap.size w w' := by
  obtain ⟨q, os, rfl⟩ := h
  refine ⟨rfl, rfl, rfl, ?_, fun k hk => ?_⟩
  · show w.heap.size ≤ (w.heap ++ os).size
    rw [Array.size_append]; omega
  · show (w.heap ++ os)[k]? = w.heap[k]?
    rw [Array.getElem?_append_left hk]
theorem below_q (w : World) (n : Nat) (os : Array Obj) : Below w.heap.size w (grow (w.drewN n) os) := below_grew ⟨n, os, rfl⟩
/-- three values laid in memory -/
theorem box3 (w : World) (k1 n1 k2 n2 k3 n3 : Int) (s1 s2 s3 : ByteArray) (T : TypeId) :
    VBox (((w.alloc (.cells #[.int .i64 k1, .int .i64 n1, .string s1] T)).alloc (.cells #[.int .i64 k2, .int .i64 n2, .string s2] T)).alloc (.cells #[.int .i64 k3, .int .i64 n3, .string s3] T)) w.heap.size k1 n1 s1 ∧
    VBox (((w.alloc (.cells #[.int .i64 k1, .int .i64 n1, .string s1] T)).alloc (.cells #[.int .i64 k2, .int .i64 n2, .string s2] T)).alloc (.cells #[.int .i64 k3, .int .i64 n3, .string s3] T)) (w.heap.size + 1) k2 n2 s2 ∧
    VBox (((w.alloc (.cells #[.int .i64 k1, .int .i64 n1, .string s1] T)).alloc (.cells #[.int .i64 k2, .int .i64 n2, .string s2] T)).alloc (.cells #[.int .i64 k3, .int .i64 n3, .string s3] T)) (w.heap.size + 1 + 1) k3 n3 s3 := by
  have a := VBox.new w k1 n1 s1 T
  have b := VBox.new (w.alloc (.cells #[.int .i64 k1, .int .i64 n1, .string s1] T)) k2 n2 s2 T
  have c := VBox.new ((w.alloc (.cells #[.int .i64 k1, .int .i64 n1, .string s1] T)).alloc (.cells #[.int .i64 k2, .int .i64 n2, .string s2] T)) k3 n3 s3 T
  have a2 := (a.later (below_more (Below.refl _ _) (.cells #[.int .i64 k2, .int .i64 n2, .string s2] T))).later (below_more (Below.refl _ _) (.cells #[.int .i64 k3, .int .i64 n3, .string s3] T))
  have b2 := b.later (below_more (Below.refl _ _) (.cells #[.int .i64 k3, .int .i64 n3, .string s3] T))
  rw [show (w.alloc (.cells #[.int .i64 k1, .int .i64 n1, .string s1] T)).heap.size = w.heap.size + 1 from by simp] at b2
  rw [show ((w.alloc (.cells #[.int .i64 k1, .int .i64 n1, .string s1] T)).alloc (.cells #[.int .i64 k2, .int .i64 n2, .string s2] T)).heap.size = w.heap.size + 1 + 1 from by simp] at c
  exact ⟨a2, b2, c⟩
/-- a row of three -/
theorem row3 (w : World) (k1 n1 k2 n2 k3 n3 : Int) (s1 s2 s3 : ByteArray) (T : TypeId) :
    VSl (w.alloc (.cells #[.int .i64 k1, .int .i64 n1, .string s1, .int .i64 k2, .int .i64 n2, .string s2, .int .i64 k3, .int .i64 n3, .string s3] T)) (.slice (some ⟨w.heap.size, 0, none⟩) 3 3) [(k1, n1, s1), (k2, n2, s2), (k3, n3, s3)] := by
  refine ⟨_, 3, rfl, by simp, by simp, .inr ⟨w.heap.size, 0, rfl, by simp, fun i hi => ?_⟩⟩
  have hi3 : i < 3 := by simpa using hi
  match i, hi3 with
  | 0, _ => exact ⟨by simp [nv], by simp [nv], by simp [nv]⟩
  | 1, _ => exact ⟨by simp [nv], by simp [nv], by simp [nv]⟩
  | 2, _ => exact ⟨by simp [nv], by simp [nv], by simp [nv]⟩

set_option maxHeartbeats 4000000 in
theorem law_order (k1 n1 k2 n2 k3 n3 : Int) (s1 s2 s3 : ByteArray) (w : World) :
    Calls Try.prog 4 #[.agg #[.int .i64 k1, .int .i64 n1, .string s1], .agg #[.int .i64 k2, .int .i64 n2, .string s2], .agg #[.int .i64 k3, .int .i64 n3, .string s3]] w fun e w' => e = .returned (.bool true) ∧ Below w.heap.size w w' := by
  go_enter Try.func4, Try.ntmps4
  go_wp2_with fail
  obtain ⟨B1, B2, B3⟩ := box3 w k1 n1 k2 n2 k3 n3 s1 s2 s3 25
  have hb0 : Below w.heap.size w (((w.alloc (.cells #[.int .i64 k1, .int .i64 n1, .string s1] 25)).alloc (.cells #[.int .i64 k2, .int .i64 n2, .string s2] 25)).alloc (.cells #[.int .i64 k3, .int .i64 n3, .string s3] 25)) := below_more (below_more (below_more (Below.refl _ _) _) _) _
  generalize ((w.alloc (.cells #[.int .i64 k1, .int .i64 n1, .string s1] 25)).alloc (.cells #[.int .i64 k2, .int .i64 n2, .string s2] 25)).alloc (.cells #[.int .i64 k3, .int .i64 n3, .string s3] 25) = w0 at B1 B2 B3 hb0 ⊢
  obtain ⟨r, hr⟩ : ∃ r, r = w.heap.size + 1 + 1 := ⟨_, rfl⟩
  rw [← hr] at B3 ⊢
  obtain ⟨q, hq⟩ : ∃ q, q = w.heap.size + 1 := ⟨_, rfl⟩
  rw [← hq] at B2 ⊢
  obtain ⟨p, hp⟩ : ∃ p, p = w.heap.size := ⟨_, rfl⟩
  rw [← hp] at B1 ⊢
  clear hp hq hr
  refine (wakes_any w0).mono ?_
  rintro e w1 ⟨rfl, hb1⟩
  replace B1 := B1.later hb1
  replace B2 := B2.later hb1
  replace B3 := B3.later hb1
  replace hb1 := below_next hb0 hb1
  clear hb0
  have H1 : Hid (VBox w1 p k1 n1 s1) := B1
  have H2 : Hid (VBox w1 q k2 n2 s2) := B2
  have H3 : Hid (VBox w1 r k3 n3 s3) := B3
  obtain ⟨_, a0, a1, a2, _⟩ := B1
  obtain ⟨_, b0, b1, b2, _⟩ := B2
  obtain ⟨_, c0, c1, c2, _⟩ := B3
  go_wp2_with fail
  clear a0 a1 a2 b0 b1 b2 c0 c1 c2
  have hv := row3 w1 k1 n1 k2 n2 k3 n3 s1 s2 s3 25
  have hb2 := below_more (Below.refl w1.heap.size w1) (.cells #[.int .i64 k1, .int .i64 n1, .string s1, .int .i64 k2, .int .i64 n2, .string s2, .int .i64 k3, .int .i64 n3, .string s3] 25)
  generalize w1.alloc (.cells #[.int .i64 k1, .int .i64 n1, .string s1, .int .i64 k2, .int .i64 n2, .string s2, .int .i64 k3, .int .i64 n3, .string s3] 25) = w2 at hv hb2 ⊢
  refine (great_any _ _ w2 hv).mono ?_
  rintro e w3 ⟨bb, rfl, hf, hb3⟩
  clear hf hv
  have h31 := below_next hb2 hb3
  have h3w := below_next hb1 h31
  cases bb with
  | true =>
    go_wp2
    go_ret
    exact ⟨rfl, h3w⟩
  | false =>
    have B1 := H1.out.later h31
    have B2 := H2.out.later h31
    have B3 := H3.out.later h31
    clear H1 H2 H3 hb1 hb2 hb3 h31
    have H1 : Hid (VBox w3 p k1 n1 s1) := B1
    have H2 : Hid (VBox w3 q k2 n2 s2) := B2
    have H3 : Hid (VBox w3 r k3 n3 s3) := B3
    obtain ⟨lp, a0, a1, a2, _⟩ := B1
    obtain ⟨lq, b0, b1, b2, _⟩ := B2
    obtain ⟨lr, c0, c1, c2, _⟩ := B3
    have a0' := cell_grown (a := ⟨p, 0, none⟩) lp a0
    have a1' := cell_grown (a := ⟨p, 1, none⟩) lp a1
    have a2' := cell_grown (a := ⟨p, 2, none⟩) lp a2
    have b0' := cell_grown (a := ⟨q, 0, none⟩) lq b0
    have b1' := cell_grown (a := ⟨q, 1, none⟩) lq b1
    have b2' := cell_grown (a := ⟨q, 2, none⟩) lq b2
    have c0' := cell_grown (a := ⟨r, 0, none⟩) lr c0
    have c1' := cell_grown (a := ⟨r, 1, none⟩) lr c1
    have c2' := cell_grown (a := ⟨r, 2, none⟩) lr c2
    clear a0 a1 a2 b0 b1 b2 c0 c1 c2
    have mixed : Try.prog.follows .mixedOrders = true := by kernel_rfl
    have x12 : ∀ w : World, Calls Try.prog 10 #[.agg #[.int .i64 k1, .int .i64 n1, .string s1], .agg #[.int .i64 k2, .int .i64 n2, .string s2]] w fun e w' => e = .returned (.int .i64 (cv (k1, n1, s1) (k2, n2, s2))) ∧ ∃ q os', w' = grow (w.drewN q) os' := fun w => compare_any k1 n1 k2 n2 s1 s2 w
    have x23 : ∀ w : World, Calls Try.prog 10 #[.agg #[.int .i64 k2, .int .i64 n2, .string s2], .agg #[.int .i64 k3, .int .i64 n3, .string s3]] w fun e w' => e = .returned (.int .i64 (cv (k2, n2, s2) (k3, n3, s3))) ∧ ∃ q os', w' = grow (w.drewN q) os' := fun w => compare_any k2 n2 k3 n3 s2 s3 w
    have x13 : ∀ w : World, Calls Try.prog 10 #[.agg #[.int .i64 k1, .int .i64 n1, .string s1], .agg #[.int .i64 k3, .int .i64 n3, .string s3]] w fun e w' => e = .returned (.int .i64 (cv (k1, n1, s1) (k3, n3, s3))) ∧ ∃ q os', w' = grow (w.drewN q) os' := fun w => compare_any k1 n1 k3 n3 s1 s3 w
    have x21 : ∀ w : World, Calls Try.prog 10 #[.agg #[.int .i64 k2, .int .i64 n2, .string s2], .agg #[.int .i64 k1, .int .i64 n1, .string s1]] w fun e w' => e = .returned (.int .i64 (cv (k2, n2, s2) (k1, n1, s1))) ∧ ∃ q os', w' = grow (w.drewN q) os' := fun w => compare_any k2 n2 k1 n1 s2 s1 w
    have y12 := fun w => less_any k1 n1 k2 n2 s1 s2 w
    have y21 := fun w => less_any k2 n2 k1 n1 s2 s1 w
    rw [ltV_cv] at y12 y21
    have HN : Hid (cv (k2, n2, s2) (k1, n1, s1) = -(cv (k1, n1, s1) (k2, n2, s2))) := good_cv.2.1 _ _
    have HT : Hid (cv (k1, n1, s1) (k2, n2, s2) ≤ 0 → cv (k2, n2, s2) (k3, n3, s3) ≤ 0 → cv (k1, n1, s1) (k3, n3, s3) ≤ 0) := good_cv.2.2.2 _ _ _
    have HO : Hid (cv (k1, n1, s1) (k2, n2, s2) = -1 ∨ cv (k1, n1, s1) (k2, n2, s2) = 0 ∨ cv (k1, n1, s1) (k2, n2, s2) = 1) := good_cv.1 _ _
    have HZ : Hid (eqvB k1 n1 s1 k2 n2 s2 = true ↔ cv (k1, n1, s1) (k2, n2, s2) = 0) := by show _ ↔ _; rw [eqvB_iff, good_cv.2.2.1]
    generalize cv (k1, n1, s1) (k2, n2, s2) = x at *
    generalize cv (k2, n2, s2) (k3, n3, s3) = y at *
    generalize cv (k1, n1, s1) (k3, n3, s3) = z at *
    generalize cv (k2, n2, s2) (k1, n1, s1) = xb at *
    go_wp2_with fail
    go_quiet_grown (first | (go_at_call 10; first | with_reducible exact Calls.grown_of (x12 _) | with_reducible exact Calls.grown_of (x23 _) | with_reducible exact Calls.grown_of (x13 _)))
    have hbq := below_q w3 nq osq
    have B1 := H1.out.later hbq
    have B2 := H2.out.later hbq
    have B3 := H3.out.later hbq
    replace h3w := below_next h3w hbq
    clear a0' a1' a2' b0' b1' b2' c0' c1' c2' hbq H1 H2 H3 x12 x23 x13 lp lq lr
    generalize grow (w3.drewN nq) osq = u at *
    have hq := eqV k1 n1 k2 n2 s1 s2
    have hg := eqgV
    have hxb := HN.out
    subst hxb
    clear HN
    obtain ⟨eb, heb⟩ : ∃ eb, eb = eqvB k1 n1 s1 k2 n2 s2 := ⟨_, rfl⟩
    rw [← heb] at hq HZ
    have HEB : Hid (eb = decide (x = 0)) := by show _ = _; rw [Bool.eq_iff_iff, HZ.out, decide_eq_true_iff]
    clear heb HZ
    have hEB := HEB.out
    subst hEB
    clear HEB
    have H1 : Hid (VBox u p k1 n1 s1) := B1
    have H2 : Hid (VBox u q k2 n2 s2) := B2
    obtain ⟨_, a0, a1, a2, _⟩ := B1
    obtain ⟨_, b0, b1, b2, _⟩ := B2
    clear B3
    rcases HO.out with hx | hx | hx
    all_goals
      subst hx
      clear HO
      go_wp2_with fail
      refine (y12 _).mono ?_
      rintro e u1 ⟨rfl, hg1⟩
      have hb1 := below_grew hg1
      have B1 := H1.out.later hb1
      have B2 := H2.out.later hb1
      clear hg1 H1 H2 a0 a1 a2 b0 b1 b2
      have H1 : Hid (VBox u1 p k1 n1 s1) := B1
      have H2 : Hid (VBox u1 q k2 n2 s2) := B2
      have h4w := below_next h3w hb1
      obtain ⟨_, a0, a1, a2, _⟩ := B1
      obtain ⟨_, b0, b1, b2, _⟩ := B2
      go_wp2_with fail
      refine (y21 _).mono ?_
      rintro e u2 ⟨rfl, hg2⟩
      have hb2 := below_grew hg2
      have B1 := H1.out.later hb2
      have B2 := H2.out.later hb2
      clear hg2 H1 H2 a0 a1 a2 b0 b1 b2
      have H1 : Hid (VBox u2 p k1 n1 s1) := B1
      have H2 : Hid (VBox u2 q k2 n2 s2) := B2
      have h5w := below_next h4w hb2
      obtain ⟨_, a0, a1, a2, _⟩ := B1
      obtain ⟨_, b0, b1, b2, _⟩ := B2
      go_wp2_with fail
      refine (x21 _).mono ?_
      rintro e u3 ⟨rfl, hg3⟩
      have hb3 := below_grew hg3
      have B1 := H1.out.later hb3
      have B2 := H2.out.later hb3
      clear hg3 H1 H2 a0 a1 a2 b0 b1 b2
      have h6w := below_next h5w hb3
      obtain ⟨_, a0, a1, a2, _⟩ := B1
      obtain ⟨_, b0, b1, b2, _⟩ := B2
      by_cases hy : 0 < y
    · go_wp2
      go_ret
      exact ⟨rfl, h6w⟩
    · have hz := HT.out (by omega) (by omega)
      go_wp2
      go_ret
      exact ⟨ret_b (by simp), h6w⟩
    · go_wp2
      go_ret
      exact ⟨rfl, h6w⟩
    · have hz := HT.out (by omega) (by omega)
      go_wp2
      go_ret
      exact ⟨ret_b (by simp), h6w⟩
    · go_wp2
      go_ret
      exact ⟨rfl, h6w⟩
    · go_wp2
      go_ret
      exact ⟨rfl, h6w⟩
end Go.Proofs.Ytdacnbldgbakeaa
