/- Which values a domain takes; the contracts of Takes, of the document's Takes and Name. Conditions: the text is at most 2^62 bytes. -/
import Derived.Test.YtpboleifllcehaaDoorBW
namespace Go.Proofs.YtpboleifllcehaaDoor
open Go.RowKit Go.PlainAid Go.Sort
set_option linter.unusedVariables false

/-- the kinds that a domain takes -/
def kindB (d k : Int) : Bool := if 0 ≤ d ∧ d ≤ 4 then (k == 1 || k == 2) else if d = 5 then k == 1 else if d = 6 then k == 3 else false
/-- does a domain take a value? -/
def takesB (d k n : Int) (s : ByteArray) : Bool := rightB k n s && kindB d k
def nameB (k n : Int) (s : ByteArray) : Bool := rightB k n s && (k == 1 || k == 2)
theorem kindB_n {d : Int} (h : 0 ≤ d ∧ d ≤ 4) (k : Int) : kindB d k = (k == 1 || k == 2) := by unfold kindB; rw [if_pos h]
theorem kindB_else {d : Int} (h : ¬ (0 ≤ d ∧ d ≤ 4)) (h5 : ¬ d = 5) (h6 : ¬ d = 6) (k : Int) : kindB d k = false := by unfold kindB; rw [if_neg h, if_neg h5, if_neg h6]
theorem takesB_n {d : Int} (h : 0 ≤ d ∧ d ≤ 4) (k n : Int) (s : ByteArray) : takesB d k n s = nameB k n s := by unfold takesB nameB; rw [kindB_n h]

set_option maxHeartbeats 4000000 in
theorem takes_any (d k n : Int) (s : ByteArray) (w : World) (hz : s.size ≤ 4611686018427387904) :
    Calls Tryd.prog 30 #[.int .i64 d, .agg #[.int .i64 k, .int .i64 n, .string s]] w fun e w' => e = .returned (.bool (takesB d k n s)) ∧ Below w.heap.size w w' := by
  have hR := fun w => right_any k n s w hz
  unfold takesB
  generalize rightB k n s = r at *
  have HB : Hid (VBox (w.alloc (.cells #[.int .i64 k, .int .i64 n, .string s] 25)) w.heap.size k n s) := VBox.new w k n s 25
  cases r
  · go_enter Tryd.func30, Tryd.ntmps30
    go_wp2_with (go_at_call 36; refine (hR _).mono ?_; rintro e w1 ⟨rfl, hb1⟩; obtain ⟨hp1, c0, c1, c2, _⟩ := HB.out.later hb1)
    go_ret
    exact ⟨rfl, below_next (below_box _ _) hb1⟩
  rw [Bool.true_and]
  by_cases hd : 0 ≤ d ∧ d ≤ 4
  · rw [kindB_n hd]
    have hd' : d = 0 ∨ d = 1 ∨ d = 2 ∨ d = 3 ∨ d = 4 := by omega
    clear hd
    by_cases h1 : k = 1
    · subst h1
      rcases hd' with rfl | rfl | rfl | rfl | rfl
      all_goals
        go_enter Tryd.func30, Tryd.ntmps30
        go_wp2_with (go_at_call 36; refine (hR _).mono ?_; rintro e w1 ⟨rfl, hb1⟩; obtain ⟨hp1, c0, c1, c2, _⟩ := HB.out.later hb1)
        go_ret
        exact ⟨rfl, below_next (below_box _ _) hb1⟩
    have h1' : (k == 1) = false := by simp [h1]
    clear h1
    rw [h1']
    by_cases h2 : k = 2
    · subst h2
      rcases hd' with rfl | rfl | rfl | rfl | rfl
      all_goals
        go_enter Tryd.func30, Tryd.ntmps30
        go_wp2_with (go_at_call 36; refine (hR _).mono ?_; rintro e w1 ⟨rfl, hb1⟩; obtain ⟨hp1, c0, c1, c2, _⟩ := HB.out.later hb1)
        go_ret
        exact ⟨rfl, below_next (below_box _ _) hb1⟩
    have h2' : (k == 2) = false := by simp [h2]
    clear h2
    rw [h2']
    rcases hd' with rfl | rfl | rfl | rfl | rfl
    all_goals
      go_enter Tryd.func30, Tryd.ntmps30
      go_wp2_with (go_at_call 36; refine (hR _).mono ?_; rintro e w1 ⟨rfl, hb1⟩; obtain ⟨hp1, c0, c1, c2, _⟩ := HB.out.later hb1)
      go_ret
      exact ⟨rfl, below_next (below_box _ _) hb1⟩
  by_cases h5 : d = 5
  · subst h5
    rw [show kindB 5 k = (k == 1) from rfl]
    clear hd
    go_enter Tryd.func30, Tryd.ntmps30
    go_wp2_with (go_at_call 36; refine (hR _).mono ?_; rintro e w1 ⟨rfl, hb1⟩; obtain ⟨hp1, c0, c1, c2, _⟩ := HB.out.later hb1)
    go_ret
    exact ⟨rfl, below_next (below_box _ _) hb1⟩
  by_cases h6 : d = 6
  · subst h6
    rw [show kindB 6 k = (k == 3) from rfl]
    clear hd h5
    go_enter Tryd.func30, Tryd.ntmps30
    go_wp2_with (go_at_call 36; refine (hR _).mono ?_; rintro e w1 ⟨rfl, hb1⟩; obtain ⟨hp1, c0, c1, c2, _⟩ := HB.out.later hb1)
    go_ret
    exact ⟨rfl, below_next (below_box _ _) hb1⟩
  rw [kindB_else hd h5 h6]
  have d0 : (d == 0) = false := by simp; omega
  have d1 : (d == 1) = false := by simp; omega
  have d2 : (d == 2) = false := by simp; omega
  have d3 : (d == 3) = false := by simp; omega
  have d4 : (d == 4) = false := by simp; omega
  have d5 : (d == 5) = false := by simp; omega
  have d6 : (d == 6) = false := by simp; omega
  clear hd h5 h6
  go_enter Tryd.func30, Tryd.ntmps30
  go_wp2_with (go_at_call 36; refine (hR _).mono ?_; rintro e w1 ⟨rfl, hb1⟩; obtain ⟨hp1, c0, c1, c2, _⟩ := HB.out.later hb1)
  go_ret
  exact ⟨rfl, below_next (below_box _ _) hb1⟩

set_option maxHeartbeats 4000000 in
theorem name_any (k n : Int) (s : ByteArray) (w : World) (hz : s.size ≤ 4611686018427387904) :
    Calls Tryd.prog 24 #[.agg #[.int .i64 k, .int .i64 n, .string s]] w fun e w' => e = .returned (.bool (nameB k n s)) ∧ Below w.heap.size w w' := by
  have hR := fun w => rright_any k n s w hz
  unfold nameB
  generalize rightB k n s = r at *
  have HB : Hid (VBox (w.alloc (.cells #[.int .i64 k, .int .i64 n, .string s] 25)) w.heap.size k n s) := VBox.new w k n s 25
  cases r
  · go_enter Tryd.func24, Tryd.ntmps24
    go_wp2_with (go_at_call 33; refine (hR _).mono ?_; rintro e w1 ⟨rfl, hb1⟩; obtain ⟨hp1, c0, c1, c2, _⟩ := HB.out.later hb1)
    go_ret
    exact ⟨rfl, below_next (below_box _ _) hb1⟩
  rw [Bool.true_and]
  by_cases h1 : k = 1
  · subst h1
    go_enter Tryd.func24, Tryd.ntmps24
    go_wp2_with (go_at_call 33; refine (hR _).mono ?_; rintro e w1 ⟨rfl, hb1⟩; obtain ⟨hp1, c0, c1, c2, _⟩ := HB.out.later hb1)
    go_ret
    exact ⟨rfl, below_next (below_box _ _) hb1⟩
  have h1' : (k == 1) = false := by simp [h1]
  clear h1
  rw [h1']
  go_enter Tryd.func24, Tryd.ntmps24
  go_wp2_with (go_at_call 33; refine (hR _).mono ?_; rintro e w1 ⟨rfl, hb1⟩; obtain ⟨hp1, c0, c1, c2, _⟩ := HB.out.later hb1)
  go_ret
  exact ⟨rfl, below_next (below_box _ _) hb1⟩

set_option maxHeartbeats 4000000 in
theorem rtakes_any (d k n : Int) (s : ByteArray) (w : World) (hz : s.size ≤ 4611686018427387904) :
    Calls Tryd.prog 35 #[.int .i64 d, .agg #[.int .i64 k, .int .i64 n, .string s]] w fun e w' => e = .returned (.bool (takesB d k n s)) ∧ Below w.heap.size w w' := by
  have hR := fun w => rright_any k n s w hz
  have hN := fun w => name_any k n s w hz
  have HB : Hid (VBox (w.alloc (.cells #[.int .i64 k, .int .i64 n, .string s] 25)) w.heap.size k n s) := VBox.new w k n s 25
  by_cases hd : 0 ≤ d ∧ d ≤ 4
  · rw [takesB_n hd]
    generalize nameB k n s = r at *
    have hd' : d = 0 ∨ d = 1 ∨ d = 2 ∨ d = 3 ∨ d = 4 := by omega
    clear hd hR
    rcases hd' with rfl | rfl | rfl | rfl | rfl
    all_goals
      go_enter Tryd.func35, Tryd.ntmps35
      go_wp2_with (go_at_call 24; refine (hN _).mono ?_; rintro e w1 ⟨rfl, hb1⟩)
      go_ret
      exact ⟨rfl, below_next (below_box _ _) hb1⟩
  clear hN
  unfold takesB
  generalize rightB k n s = r at *
  by_cases h5 : d = 5
  · subst h5
    rw [show kindB 5 k = (k == 1) from rfl]
    clear hd
    cases r
    · go_enter Tryd.func35, Tryd.ntmps35
      go_wp2_with (go_at_call 33; refine (hR _).mono ?_; rintro e w1 ⟨rfl, hb1⟩; obtain ⟨hp1, c0, c1, c2, _⟩ := HB.out.later hb1)
      go_ret
      exact ⟨rfl, below_next (below_box _ _) hb1⟩
    by_cases h1 : k = 1
    · subst h1
      go_enter Tryd.func35, Tryd.ntmps35
      go_wp2_with (go_at_call 33; refine (hR _).mono ?_; rintro e w1 ⟨rfl, hb1⟩; obtain ⟨hp1, c0, c1, c2, _⟩ := HB.out.later hb1)
      go_ret
      exact ⟨rfl, below_next (below_box _ _) hb1⟩
    have h1' : (k == 1) = false := by simp [h1]
    clear h1
    rw [h1']
    go_enter Tryd.func35, Tryd.ntmps35
    go_wp2_with (go_at_call 33; refine (hR _).mono ?_; rintro e w1 ⟨rfl, hb1⟩; obtain ⟨hp1, c0, c1, c2, _⟩ := HB.out.later hb1)
    go_ret
    exact ⟨rfl, below_next (below_box _ _) hb1⟩
  by_cases h6 : d = 6
  · subst h6
    rw [show kindB 6 k = (k == 3) from rfl]
    clear hd h5
    cases r
    · go_enter Tryd.func35, Tryd.ntmps35
      go_wp2_with (go_at_call 33; refine (hR _).mono ?_; rintro e w1 ⟨rfl, hb1⟩; obtain ⟨hp1, c0, c1, c2, _⟩ := HB.out.later hb1)
      go_ret
      exact ⟨rfl, below_next (below_box _ _) hb1⟩
    go_enter Tryd.func35, Tryd.ntmps35
    go_wp2_with (go_at_call 33; refine (hR _).mono ?_; rintro e w1 ⟨rfl, hb1⟩; obtain ⟨hp1, c0, c1, c2, _⟩ := HB.out.later hb1)
    go_ret
    exact ⟨rfl, below_next (below_box _ _) hb1⟩
  rw [kindB_else hd h5 h6, Bool.and_false]
  have d5 : (d == 5) = false := by simp; omega
  have d6 : (d == 6) = false := by simp; omega
  clear h5 h6 hR
  by_cases h0 : 0 ≤ d
  · have h4 : ¬ d ≤ 4 := fun h => hd ⟨h0, h⟩
    clear hd
    go_enter Tryd.func35, Tryd.ntmps35
    go_wp2
    go_ret
    exact ⟨rfl, below_box _ _⟩
  · clear hd
    go_enter Tryd.func35, Tryd.ntmps35
    go_wp2
    go_ret
    exact ⟨rfl, below_box _ _⟩
end Go.Proofs.YtpboleifllcehaaDoor
