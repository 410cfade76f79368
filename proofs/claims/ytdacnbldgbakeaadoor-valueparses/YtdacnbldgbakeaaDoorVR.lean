/- The walks of ValuePrints and ValueParses. Conditions: numbers of 64 bits; the library's table of powers of ten. -/
import Derived.Test.YtdacnbldgbakeaaDoorVQ
import Derived.Test.YtdacnbldgbakeaaDoorVE
import Derived.Test.YtdacnbldgbakeaaDoorVG
namespace Go.Proofs.YtdacnbldgbakeaaDoor
open Go.RowKit Go.PlainAid Go.Sort
set_option linter.unusedVariables false

/-- a row of one -/
theorem row1 (w : World) (k n : Int) (s : ByteArray) (T : TypeId) : VSl (w.alloc (.cells #[.int .i64 k, .int .i64 n, .string s] T)) (.slice (some ⟨w.heap.size, 0, none⟩) 1 1) [(k, n, s)] := by
  refine ⟨_, 1, rfl, by simp, by simp, .inr ⟨w.heap.size, 0, rfl, by simp, fun i hi => ?_⟩⟩
  have hi1 : i = 0 := by simpa using hi
  subst hi1
  exact ⟨by simp [nv], by simp [nv], by simp [nv]⟩

set_option maxHeartbeats 2000000 in
theorem law_prints (k n : Int) (s : ByteArray) (w : World) (hn : -9223372036854775808 ≤ n ∧ n ≤ 9223372036854775807) (hp : Pt w) :
    Calls Tryd.prog 3 #[.agg #[.int .i64 k, .int .i64 n, .string s]] w fun e w' => e = .returned (.bool true) ∧ Below w.heap.size w w' := by
  have HP : Hid (Pt w) := hp
  clear hp
  go_enter Tryd.func3, Tryd.ntmps3
  go_wp2_with fail
  have B1 := VBox.new w k n s 23
  have hb0 := below_box w (.cells #[.int .i64 k, .int .i64 n, .string s] 23)
  generalize w.alloc (.cells #[.int .i64 k, .int .i64 n, .string s] 23) = w0 at B1 hb0 ⊢
  obtain ⟨p, hpp⟩ : ∃ p, p = w.heap.size := ⟨_, rfl⟩
  rw [← hpp] at B1 ⊢
  clear hpp
  refine (wakes_any w0).mono ?_
  rintro e w1 ⟨rfl, hb1⟩
  replace B1 := B1.later hb1
  replace hb1 := below_next hb0 hb1
  clear hb0
  have H1 : Hid (VBox w1 p k n s) := B1
  obtain ⟨_, a0, a1, a2, _⟩ := B1
  go_wp2_with fail
  clear a0 a1 a2
  have hv := row1 w1 k n s 23
  have hb2 := below_box w1 (.cells #[.int .i64 k, .int .i64 n, .string s] 23)
  generalize w1.alloc (.cells #[.int .i64 k, .int .i64 n, .string s] 23) = w2 at hv hb2 ⊢
  refine (great_any _ _ w2 hv).mono ?_
  rintro e w3 ⟨bb, rfl, hf, hb3⟩
  clear hv
  have h31 := below_next hb2 hb3
  have h3w := below_next hb1 h31
  cases bb with
  | true =>
    go_wp2
    go_ret
    exact ⟨rfl, h3w⟩
  | false =>
    have hs : s.size ≤ 200 := (hf rfl).2 0 (by simp)
    have B1 := H1.out.later h31
    clear H1 hb1 hb2 hb3 h31 hf
    have H1 : Hid (VBox w3 p k n s) := B1
    obtain ⟨_, a0, a1, a2, _⟩ := B1
    go_wp2_with fail
    refine (vprint_any k n s w3 (by omega) hn (HP.out.later h3w)).mono ?_
    rintro e w4 ⟨rfl, hb4⟩
    have B1 := H1.out.later hb4
    have h4w := below_next h3w hb4
    clear H1 a0 a1 a2 hb4 h3w
    have H1 : Hid (VBox w4 p k n s) := B1
    obtain ⟨_, a0, a1, a2, _⟩ := B1
    have a0' := fun d os => cell_regrown a0 d os
    have a1' := fun d os => cell_regrown a1 d os
    have a2' := fun d os => cell_regrown a2 d os
    clear a0 a1 a2
    have mixed : Tryd.prog.follows .mixedOrders = true := by kernel_rfl
    have x1 := fun w => right_any k n s w (by omega)
    have x2 := fun w => rright_any k n s w (by omega)
    have x3 := fun w => vrprint_any k n s w (by omega) hn
    have hT := fun w => vparse_any (prt k n s) w (by have := prt_size k n s hn; omega)
    have HE : Hid (rightB k n s = true → parR (prt k n s) = (k, n, s, 0)) := fun h => par_prt (of_decide_eq_true h) hn
    generalize prt k n s = t at *
    generalize rightB k n s = b at *
    have hbb : (b == b) = true := by simp
    have htt : (t.toList == t.toList) = true := by simp
    go_wp2_with fail
    refine wp_region_quiet_below (by assumption) (by kernel_rfl) ?_
    repeat (quiet_step (first | (go_at_call 8; with_reducible exact Calls.regrown_of (x1 _)) | (go_at_call 9; with_reducible exact Calls.regrown_of (x2 _)) | (go_at_call 10; with_reducible exact Calls.regrown_of (x3 _))))
    refine wpQuiet_nil ?_
    intro _ hw'
    obtain ⟨⟨dq, osq⟩, hw''⟩ := hw'
    subst hw''
    have hbq := below_regrown w4 dq osq
    have B1 := H1.out.later hbq
    have h5w := below_next h4w hbq
    clear a0' a1' a2' hbq H1 x1 x3 h4w
    generalize grow (redrawn w4 dq) osq = u at *
    have H1 : Hid (VBox u p k n s) := B1
    clear B1
    cases b with
    | true =>
      rw [HE.out rfl] at hT
      unfold ansV at hT
      clear HE
      have hq := eqV k n k n s s
      rw [eqvB_self] at hq
      have hg := eqgV
      go_wp2_with fail
      refine (hT _).mono ?_
      rintro e u1 ⟨rfl, hb1⟩
      have B1 := H1.out.later hb1
      have h6w := below_next h5w hb1
      clear H1 hb1
      have B2 := VBox.new u1 k n s 23
      have hb2 := below_box u1 (.cells #[.int .i64 k, .int .i64 n, .string s] 23)
      replace B1 := B1.later hb2
      have h7w := below_next h6w hb2
      clear hb2 h6w
      have H1 : Hid (VBox (u1.alloc (.cells #[.int .i64 k, .int .i64 n, .string s] 23)) p k n s) := B1
      have H2 : Hid (VBox (u1.alloc (.cells #[.int .i64 k, .int .i64 n, .string s] 23)) u1.heap.size k n s) := B2
      obtain ⟨_, a0, a1, a2, _⟩ := B1
      clear B2
      go_wp2_with fail
      refine (x2 _).mono ?_
      rintro e u2 ⟨rfl, hb3⟩
      have B1 := H1.out.later hb3
      have B2 := H2.out.later hb3
      have h8w := below_next h7w hb3
      clear H1 H2 hb3 h7w a0 a1 a2
      obtain ⟨_, a0, a1, a2, _⟩ := B1
      obtain ⟨_, b0, b1, b2, _⟩ := B2
      go_wp2
      go_ret
      exact ⟨rfl, h8w⟩
    | false =>
      obtain ⟨k', n', s', c, hR⟩ : ∃ k' n' s' c, parR t = (k', n', s', c) := ⟨_, _, _, _, rfl⟩
      rw [hR] at hT
      unfold ansV at hT
      clear HE hR
      go_wp2_with fail
      refine (hT _).mono ?_
      rintro e u1 ⟨rfl, hb1⟩
      have B1 := H1.out.later hb1
      have h6w := below_next h5w hb1
      clear H1 hb1
      have B2 := VBox.new u1 k' n' s' 23
      have hb2 := below_box u1 (.cells #[.int .i64 k', .int .i64 n', .string s'] 23)
      replace B1 := B1.later hb2
      have h7w := below_next h6w hb2
      clear hb2 h6w
      have H1 : Hid (VBox (u1.alloc (.cells #[.int .i64 k', .int .i64 n', .string s'] 23)) p k n s) := B1
      have H2 : Hid (VBox (u1.alloc (.cells #[.int .i64 k', .int .i64 n', .string s'] 23)) u1.heap.size k' n' s') := B2
      obtain ⟨_, a0, a1, a2, _⟩ := B1
      clear B2
      go_wp2_with fail
      refine (x2 _).mono ?_
      rintro e u2 ⟨rfl, hb3⟩
      have B1 := H1.out.later hb3
      have B2 := H2.out.later hb3
      have h8w := below_next h7w hb3
      clear H1 H2 hb3 h7w a0 a1 a2
      obtain ⟨_, a0, a1, a2, _⟩ := B1
      obtain ⟨_, b0, b1, b2, _⟩ := B2
      go_wp2
      go_ret
      exact ⟨rfl, h8w⟩

set_option maxHeartbeats 2000000 in
theorem law_parses (s : ByteArray) (w : World) (hp : Pt w) :
    Calls Tryd.prog 4 #[.string s] w fun e w' => e = .returned (.bool true) ∧ Below w.heap.size w w' := by
  have HP : Hid (Pt w) := hp
  clear hp
  by_cases hs : 200 < s.size
  · have hs' : (200 : Int) < (s.size : Int) := by omega
    go_enter Tryd.func4, Tryd.ntmps4
    go_wp2_with fail
    refine (wakes_any _).mono ?_
    rintro e w1 ⟨rfl, hb1⟩
    go_wp2
    go_ret
    exact ⟨rfl, hb1⟩
  · have hs' : ¬ (200 : Int) < (s.size : Int) := by omega
    have h1 := vparse_any s
    have h2 := vrparse_any s
    obtain ⟨k, n, t, c, hR⟩ : ∃ k n t c, parR s = (k, n, t, c) := ⟨_, _, _, _, rfl⟩
    rw [hR] at h1 h2
    unfold ansV at h1 h2
    have hq := eqV k n k n t t
    rw [eqvB_self] at hq
    have hg := eqgV
    go_enter Tryd.func4, Tryd.ntmps4
    go_wp2_with fail
    refine (wakes_any _).mono ?_
    rintro e w1 ⟨rfl, hb1⟩
    go_wp2_with fail
    refine (h1 _ (by omega)).mono ?_
    rintro e w2 ⟨rfl, hb2⟩
    have B1 := VBox.new w2 k n t 23
    have hb3 := below_box w2 (.cells #[.int .i64 k, .int .i64 n, .string t] 23)
    have h3w := below_next (below_next hb1 hb2) hb3
    clear hb1 hb2 hb3
    go_wp2_with fail
    obtain ⟨p, hpp⟩ : ∃ p, p = w2.heap.size := ⟨_, rfl⟩
    rw [← hpp] at B1 ⊢
    clear hpp
    generalize w2.alloc (.cells #[.int .i64 k, .int .i64 n, .string t] 23) = w3 at B1 h3w ⊢
    refine (h2 _ (by omega)).mono ?_
    rintro e w4 ⟨rfl, hb4⟩
    replace B1 := B1.later hb4
    have B2 := VBox.new w4 k n t 23
    have hb5 := below_box w4 (.cells #[.int .i64 k, .int .i64 n, .string t] 23)
    replace B1 := B1.later hb5
    have h5w := below_next (below_next h3w hb4) hb5
    clear hb4 hb5 h3w
    have H1 : Hid (VBox (w4.alloc (.cells #[.int .i64 k, .int .i64 n, .string t] 23)) p k n t) := B1
    obtain ⟨_, a0, a1, a2, _⟩ := B1
    obtain ⟨_, b0, b1, b2, _⟩ := B2
    by_cases hc : c = 0
    · subst hc
      obtain ⟨hr, ht, hn, hts⟩ := prt_par hR
      have x1 := fun w => right_any k n t w (by omega)
      have x2 := fun w hp => vprint_any k n t w (by omega) hn hp
      rw [rightB_t hr] at x1
      rw [ht] at x2
      clear hR hr ht
      go_wp2_with fail
      refine (x1 _).mono ?_
      rintro e w5 ⟨rfl, hb5⟩
      have B1 := H1.out.later hb5
      have h6w := below_next h5w hb5
      clear H1 hb5 h5w a0 a1 a2 b0 b1 b2
      obtain ⟨_, a0, a1, a2, _⟩ := B1
      go_wp2_with fail
      refine (x2 _ (HP.out.later h6w)).mono ?_
      rintro e w6 ⟨rfl, hb6⟩
      have h7w := below_next h6w hb6
      go_wp2
      go_ret
      exact ⟨rfl, h7w⟩
    · have hc' : (c == 0) = false := by simp [hc]
      clear hR hc
      go_wp2
      go_ret
      exact ⟨rfl, h5w⟩
end Go.Proofs.YtdacnbldgbakeaaDoor
