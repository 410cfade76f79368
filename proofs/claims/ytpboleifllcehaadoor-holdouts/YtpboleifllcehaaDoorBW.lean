/- When a value is right; the contracts of Right, the program's and the document's. Conditions: the text is at most 2^62 bytes. The contract of the document's Right. Conditions: the text is at most 2^62 bytes. -/
import Derived.Test.YtpboleifllcehaaDoorBV
import Derived.Lib.QuietBelow
namespace Go.Proofs.YtpboleifllcehaaDoor
open Go.RowKit Go.PlainAid Go.Sort
set_option linter.unusedVariables false

/-- a value is as its kind asks -/
abbrev rightP (k n : Int) (s : ByteArray) : Prop := (k = 0 ∧ n = 0 ∧ s.size = 0) ∨ (k = 1 ∧ s.size = 0) ∨ (k = 2 ∧ n = 0 ∧ wordP s) ∨ (k = 3 ∧ (n = 0 ∨ n = 1) ∧ s.size = 0)
def rightB (k n : Int) (s : ByteArray) : Bool := decide (rightP k n s)
theorem rightB_t {k n : Int} {s : ByteArray} (h : rightP k n s) : rightB k n s = true := decide_eq_true h
theorem rightB_f {k n : Int} {s : ByteArray} (h : ¬ rightP k n s) : rightB k n s = false := decide_eq_false h
theorem empty_iff (s : ByteArray) : s.toList = noB.toList ↔ s.size = 0 := by
  rw [show noB.toList = [] from toList_nil.2 rfl]; exact toList_nil
theorem eqvB_no (k n k' n' : Int) (s : ByteArray) : eqvB k n s k' n' noB = decide (k = k' ∧ n = n' ∧ s.size = 0) := by
  unfold eqvB
  rw [Bool.eq_iff_iff, Bool.and_eq_true, Bool.and_eq_true, beq_iff_eq, beq_iff_eq, beq_iff_eq, empty_iff, decide_eq_true_iff]
theorem eqvB_w (k n k' n' : Int) (s : ByteArray) : eqvB k n s k' n' s = decide (k = k' ∧ n = n') := by
  unfold eqvB
  rw [Bool.eq_iff_iff, Bool.and_eq_true, Bool.and_eq_true, beq_iff_eq, beq_iff_eq, beq_iff_eq, decide_eq_true_iff]
  simp

theorem right_none (n : Int) (s : ByteArray) : eqvB 0 n s 0 0 noB = rightB 0 n s := by
  rw [eqvB_no]; unfold rightB; rw [decide_eq_decide]; constructor
  · rintro ⟨_, h⟩; exact .inl ⟨rfl, h⟩
  · rintro (h | h | h | h)
    · exact h
    all_goals (exact absurd h.1 (by decide))
theorem right_num (n : Int) (s : ByteArray) : eqvB 1 n s 1 n noB = rightB 1 n s := by
  rw [eqvB_no]; unfold rightB; rw [decide_eq_decide]; constructor
  · rintro ⟨_, _, h⟩; exact .inr (.inl ⟨rfl, h⟩)
  · rintro (h | h | h | h)
    · exact absurd h.1 (by decide)
    · exact ⟨rfl, rfl, h.2⟩
    all_goals (exact absurd h.1 (by decide))
theorem right_word (n : Int) (s : ByteArray) : (eqvB 2 n s 2 0 s && wordB s) = rightB 2 n s := by
  rw [eqvB_w]; unfold rightB wordB; rw [Bool.eq_iff_iff, Bool.and_eq_true, decide_eq_true_iff, decide_eq_true_iff, decide_eq_true_iff]; constructor
  · rintro ⟨⟨_, h⟩, k⟩; exact .inr (.inr (.inl ⟨rfl, h, k⟩))
  · rintro (h | h | h | h)
    · exact absurd h.1 (by decide)
    · exact absurd h.1 (by decide)
    · exact ⟨⟨rfl, h.2.1⟩, h.2.2⟩
    · exact absurd h.1 (by decide)
theorem right_bool (n : Int) (s : ByteArray) : (eqvB 3 n s 3 0 noB || eqvB 3 n s 3 1 noB) = rightB 3 n s := by
  rw [eqvB_no, eqvB_no]; unfold rightB; rw [Bool.eq_iff_iff, Bool.or_eq_true, decide_eq_true_iff, decide_eq_true_iff, decide_eq_true_iff]; constructor
  · rintro (⟨_, h, k⟩ | ⟨_, h, k⟩)
    · exact .inr (.inr (.inr ⟨rfl, .inl h, k⟩))
    · exact .inr (.inr (.inr ⟨rfl, .inr h, k⟩))
  · rintro (h | h | h | ⟨_, h | h, k⟩)
    · exact absurd h.1 (by decide)
    · exact absurd h.1 (by decide)
    · exact absurd h.1 (by decide)
    · exact .inl ⟨rfl, h, k⟩
    · exact .inr ⟨rfl, h, k⟩
theorem right_else {k n : Int} {s : ByteArray} (h0 : ¬ k = 0) (h1 : ¬ k = 1) (h2 : ¬ k = 2) (h3 : ¬ k = 3) : rightB k n s = false :=
  rightB_f (fun h => by rcases h with h | h | h | h; exact h0 h.1; exact h1 h.1; exact h2 h.1; exact h3 h.1)

theorem below_box (w : World) (o : Obj) : Below w.heap.size w (w.alloc o) := below_more (Below.refl _ _) o
theorem box1 (w : World) (k n : Int) (s : ByteArray) (T : TypeId) (d : Nat) (os : Array Obj) :
    (grow (redrawn (w.alloc (.cells #[.int .i64 k, .int .i64 n, .string s] T)) d) os).cell? ⟨w.heap.size, 0, none⟩ = some (.int .i64 k) ∧
    (grow (redrawn (w.alloc (.cells #[.int .i64 k, .int .i64 n, .string s] T)) d) os).cell? ⟨w.heap.size, 1, none⟩ = some (.int .i64 n) ∧
    (grow (redrawn (w.alloc (.cells #[.int .i64 k, .int .i64 n, .string s] T)) d) os).cell? ⟨w.heap.size, 2, none⟩ = some (.string s) :=
  ⟨cell_regrown (by simp) d os, cell_regrown (by simp) d os, cell_regrown (by simp) d os⟩

set_option maxHeartbeats 1600000 in
theorem right_any (k n : Int) (s : ByteArray) (w : World) (hz : s.size ≤ 4611686018427387904) :
    Calls Tryd.prog 36 #[.agg #[.int .i64 k, .int .i64 n, .string s]] w fun e w' => e = .returned (.bool (rightB k n s)) ∧ Below w.heap.size w w' := by
  have hg := eqgV
  have mixed : Tryd.prog.follows .mixedOrders = true := by kernel_rfl
  by_cases h0 : k = 0
  · subst h0
    have hq := fun w => eqV 0 n 0 0 s ⟨#[]⟩ w
    rw [show eqvB 0 n s 0 0 ⟨#[]⟩ = rightB 0 n s from right_none n s] at hq
    generalize rightB 0 n s = r at *
    go_enter Tryd.func36, Tryd.ntmps36
    go_wp2
    go_ret
    exact ⟨rfl, below_box _ _⟩
  by_cases h1 : k = 1
  · subst h1
    have hq := fun w => eqV 1 n 1 n s noB w
    rw [right_num] at hq
    generalize rightB 1 n s = r at *
    have hN := fun w => ofNumber_any n w
    go_enter Tryd.func36, Tryd.ntmps36
    go_wp2_with fail
    have c0 := fun d os => (box1 w 1 n s 25 d os).1
    have c1 := fun d os => (box1 w 1 n s 25 d os).2.1
    have c2 := fun d os => (box1 w 1 n s 25 d os).2.2
    have hb0 := below_box w (.cells #[.int .i64 1, .int .i64 n, .string s] 25)
    generalize w.alloc (.cells #[.int .i64 1, .int .i64 n, .string s] 25) = w0 at *
    refine wp_region_quiet_below (by assumption) (by kernel_rfl) ?_
    repeat (quiet_step (first | (go_at_call 40; with_reducible exact Calls.regrown_of (hN _))))
    refine wpQuiet_nil ?_
    intro _ hw'
    obtain ⟨⟨dq, osq⟩, hw''⟩ := hw'
    subst hw''
    go_wp2
    go_ret
    exact ⟨rfl, below_next hb0 (below_regrown _ _ _)⟩
  by_cases h2 : k = 2
  · subst h2
    have hq := fun w => eqV 2 n 2 0 s s w
    have hW : ∀ w, Calls Tryd.prog 42 #[.string s] w fun e w' => e = .returned (.bool (wordB s)) ∧ Below w.heap.size w w' := fun w => (isWord_any s w hz).mono fun e w' ⟨h, k⟩ => ⟨h, by rw [k]; exact Below.refl _ _⟩
    have hN := fun w => ofWord_any s w
    rw [← right_word]
    generalize wordB s = r at *
    generalize eqvB 2 n s 2 0 s = q at *
    cases q
    all_goals
      go_enter Tryd.func36, Tryd.ntmps36
      go_wp2_with fail
      have c0 := fun d os => (box1 w 2 n s 25 d os).1
      have c1 := fun d os => (box1 w 2 n s 25 d os).2.1
      have c2 := fun d os => (box1 w 2 n s 25 d os).2.2
      have hb0 := below_box w (.cells #[.int .i64 2, .int .i64 n, .string s] 25)
      generalize w.alloc (.cells #[.int .i64 2, .int .i64 n, .string s] 25) = w0 at *
      refine wp_region_quiet_below (by assumption) (by kernel_rfl) ?_
      repeat (quiet_step (first | (go_at_call 41; with_reducible exact Calls.regrown_of (hN _)) | (go_at_call 42; with_reducible exact Calls.regrown_of (hW _))))
      refine wpQuiet_nil ?_
      intro _ hw'
      obtain ⟨⟨dq, osq⟩, hw''⟩ := hw'
      subst hw''
      go_wp2
      go_ret
      exact ⟨rfl, below_next hb0 (below_regrown _ _ _)⟩
  by_cases h3 : k = 3
  · subst h3
    have hq0 := fun w => eqV 3 n 3 0 s noB w
    have hq1 := fun w => eqV 3 n 3 1 s noB w
    have hN0 := fun w => ofBool_any 0 w
    have hN1 := fun w => ofBool_any 1 w
    rw [← right_bool]
    generalize eqvB 3 n s 3 0 noB = q at *
    generalize eqvB 3 n s 3 1 noB = r at *
    cases q
    all_goals
      go_enter Tryd.func36, Tryd.ntmps36
      go_wp2_with fail
      have c0 := fun d os => (box1 w 3 n s 25 d os).1
      have c1 := fun d os => (box1 w 3 n s 25 d os).2.1
      have c2 := fun d os => (box1 w 3 n s 25 d os).2.2
      have hb0 := below_box w (.cells #[.int .i64 3, .int .i64 n, .string s] 25)
      generalize w.alloc (.cells #[.int .i64 3, .int .i64 n, .string s] 25) = w0 at *
      refine wp_region_quiet_below (by assumption) (by kernel_rfl) ?_
      repeat (quiet_step (first | (go_at_call 43; first | with_reducible exact Calls.regrown_of (hN0 _) | with_reducible exact Calls.regrown_of (hN1 _))))
      refine wpQuiet_nil ?_
      intro _ hw'
      obtain ⟨⟨dq, osq⟩, hw''⟩ := hw'
      subst hw''
      go_wp2
      go_ret
      exact ⟨rfl, below_next hb0 (below_regrown _ _ _)⟩
  rw [right_else h0 h1 h2 h3]
  have h0' : (k == 0) = false := by simp [h0]
  have h1' : (k == 1) = false := by simp [h1]
  have h2' : (k == 2) = false := by simp [h2]
  have h3' : (k == 3) = false := by simp [h3]
  clear h0 h1 h2 h3
  go_enter Tryd.func36, Tryd.ntmps36
  go_wp2
  go_ret
  exact ⟨rfl, below_box _ _⟩
end Go.Proofs.YtpboleifllcehaaDoor
namespace Go.Proofs.YtpboleifllcehaaDoor
open Go.RowKit Go.PlainAid Go.Sort
set_option linter.unusedVariables false

theorem isEmpty_t {s : ByteArray} (h : s.size = 0) : s.toList.isEmpty = true := List.isEmpty_iff.2 (toList_nil.2 h)
theorem isEmpty_f {s : ByteArray} (h : ¬ s.size = 0) : s.toList.isEmpty = false := by
  cases e : s.toList.isEmpty
  · rfl
  · exact absurd (toList_nil.1 (List.isEmpty_iff.1 e)) h

set_option maxHeartbeats 1600000 in
theorem rright_any (k n : Int) (s : ByteArray) (w : World) (hz : s.size ≤ 4611686018427387904) :
    Calls Tryd.prog 33 #[.agg #[.int .i64 k, .int .i64 n, .string s]] w fun e w' => e = .returned (.bool (rightB k n s)) ∧ Below w.heap.size w w' := by
  by_cases h0 : k = 0
  · subst h0
    by_cases hn : n = 0
    · by_cases hs : s.size = 0
      · rw [rightB_t (.inl ⟨rfl, hn, hs⟩)]
        have hi := isEmpty_t hs
        subst hn
        clear hs
        go_enter Tryd.func33, Tryd.ntmps33
        go_wp2
        go_ret
        exact ⟨ret_b (by simp_all), below_box _ _⟩
      · rw [rightB_f (fun h => by rcases h with h | h | h | h; exact hs h.2.2; all_goals exact absurd h.1 (by decide))]
        have hi := isEmpty_f hs
        subst hn
        clear hs
        go_enter Tryd.func33, Tryd.ntmps33
        go_wp2
        go_ret
        exact ⟨ret_b (by simp_all), below_box _ _⟩
    · rw [rightB_f (fun h => by rcases h with h | h | h | h; exact hn h.2.1; all_goals exact absurd h.1 (by decide))]
      have hn' : (n == 0) = false := by simp [hn]
      go_enter Tryd.func33, Tryd.ntmps33
      go_wp2
      go_ret
      exact ⟨rfl, below_box _ _⟩
  by_cases h1 : k = 1
  · subst h1
    by_cases hs : s.size = 0
    · rw [rightB_t (.inr (.inl ⟨rfl, hs⟩))]
      have hi := isEmpty_t hs
      clear hs
      go_enter Tryd.func33, Tryd.ntmps33
      go_wp2
      go_ret
      exact ⟨ret_b (by simp_all), below_box _ _⟩
    · rw [rightB_f (fun h => by rcases h with h | h | h | h; exact absurd h.1 (by decide); exact hs h.2; all_goals exact absurd h.1 (by decide))]
      have hi := isEmpty_f hs
      clear hs
      go_enter Tryd.func33, Tryd.ntmps33
      go_wp2
      go_ret
      exact ⟨ret_b (by simp_all), below_box _ _⟩
  by_cases h2 : k = 2
  · subst h2
    have hW := risWord_any s
    by_cases hn : n = 0
    · subst hn
      have e : rightB 2 0 s = wordB s := by
        rw [← right_word, eqvB_w]; simp
      rw [e]
      generalize wordB s = b at *
      go_enter Tryd.func33, Tryd.ntmps33
      go_wp2_with (go_at_call 37; refine (hW _ hz).mono ?_; rintro e w1 ⟨rfl, rfl⟩)
      go_ret
      exact ⟨rfl, below_box _ _⟩
    · rw [rightB_f (fun h => by rcases h with h | h | h | h; exact absurd h.1 (by decide); exact absurd h.1 (by decide); exact hn h.2.1; exact absurd h.1 (by decide))]
      have hn' : (n == 0) = false := by simp [hn]
      go_enter Tryd.func33, Tryd.ntmps33
      go_wp2
      go_ret
      exact ⟨rfl, below_box _ _⟩
  by_cases h3 : k = 3
  · subst h3
    by_cases hn : n = 0 ∨ n = 1
    · by_cases hs : s.size = 0
      · rw [rightB_t (.inr (.inr (.inr ⟨rfl, hn, hs⟩)))]
        have hi := isEmpty_t hs
        clear hs
        rcases hn with hn | hn
        all_goals
          subst hn
          go_enter Tryd.func33, Tryd.ntmps33
          go_wp2
          go_ret
          exact ⟨ret_b (by simp_all), below_box _ _⟩
      · rw [rightB_f (fun h => by rcases h with h | h | h | h; exact absurd h.1 (by decide); exact absurd h.1 (by decide); exact absurd h.1 (by decide); exact hs h.2.2)]
        have hi := isEmpty_f hs
        clear hs
        rcases hn with hn | hn
        all_goals
          subst hn
          go_enter Tryd.func33, Tryd.ntmps33
          go_wp2
          go_ret
          exact ⟨ret_b (by simp_all), below_box _ _⟩
    · rw [rightB_f (fun h => by rcases h with h | h | h | h; exact absurd h.1 (by decide); exact absurd h.1 (by decide); exact absurd h.1 (by decide); exact hn h.2.1)]
      have hn0 : (n == 0) = false := by simp; exact fun h => hn (.inl h)
      have hn1 : (n == 1) = false := by simp; exact fun h => hn (.inr h)
      clear hn
      go_enter Tryd.func33, Tryd.ntmps33
      go_wp2
      go_ret
      exact ⟨rfl, below_box _ _⟩
  rw [right_else h0 h1 h2 h3]
  have h0' : (k == 0) = false := by simp [h0]
  have h1' : (k == 1) = false := by simp [h1]
  have h2' : (k == 2) = false := by simp [h2]
  have h3' : (k == 3) = false := by simp [h3]
  clear h0 h1 h2 h3
  go_enter Tryd.func33, Tryd.ntmps33
  go_wp2
  go_ret
  exact ⟨rfl, below_box _ _⟩
end Go.Proofs.YtpboleifllcehaaDoor
