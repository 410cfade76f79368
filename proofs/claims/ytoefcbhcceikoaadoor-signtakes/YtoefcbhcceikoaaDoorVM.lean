/- The contract of the document's Right. Conditions: the text is at most 2^62 bytes. -/
import Derived.Test.YtoefcbhcceikoaaDoorVL
namespace Go.Proofs.YtoefcbhcceikoaaDoor
open Go.RowKit Go.PlainAid Go.Sort
set_option linter.unusedVariables false

theorem isEmpty_t {s : ByteArray} (h : s.size = 0) : s.toList.isEmpty = true := List.isEmpty_iff.2 (toList_nil.2 h)
theorem isEmpty_f {s : ByteArray} (h : ¬ s.size = 0) : s.toList.isEmpty = false := by
  cases e : s.toList.isEmpty
  · rfl
  · exact absurd (toList_nil.1 (List.isEmpty_iff.1 e)) h

set_option maxHeartbeats 1600000 in
theorem rright_any (k n : Int) (s : ByteArray) (w : World) (hz : s.size ≤ 4611686018427387904) :
    Calls Tryd.prog 28 #[.agg #[.int .i64 k, .int .i64 n, .string s]] w fun e w' => e = .returned (.bool (rightB k n s)) ∧ Below w.heap.size w w' := by
  by_cases h0 : k = 0
  · subst h0
    by_cases hn : n = 0
    · by_cases hs : s.size = 0
      · rw [rightB_t (.inl ⟨rfl, hn, hs⟩)]
        have hi := isEmpty_t hs
        subst hn
        clear hs
        go_enter Tryd.func28, Tryd.ntmps28
        go_wp2
        go_ret
        exact ⟨ret_b (by simp_all), below_box _ _⟩
      · rw [rightB_f (fun h => by rcases h with h | h | h | h; exact hs h.2.2; all_goals exact absurd h.1 (by decide))]
        have hi := isEmpty_f hs
        subst hn
        clear hs
        go_enter Tryd.func28, Tryd.ntmps28
        go_wp2
        go_ret
        exact ⟨ret_b (by simp_all), below_box _ _⟩
    · rw [rightB_f (fun h => by rcases h with h | h | h | h; exact hn h.2.1; all_goals exact absurd h.1 (by decide))]
      have hn' : (n == 0) = false := by simp [hn]
      go_enter Tryd.func28, Tryd.ntmps28
      go_wp2
      go_ret
      exact ⟨rfl, below_box _ _⟩
  by_cases h1 : k = 1
  · subst h1
    by_cases hs : s.size = 0
    · rw [rightB_t (.inr (.inl ⟨rfl, hs⟩))]
      have hi := isEmpty_t hs
      clear hs
      go_enter Tryd.func28, Tryd.ntmps28
      go_wp2
      go_ret
      exact ⟨ret_b (by simp_all), below_box _ _⟩
    · rw [rightB_f (fun h => by rcases h with h | h | h | h; exact absurd h.1 (by decide); exact hs h.2; all_goals exact absurd h.1 (by decide))]
      have hi := isEmpty_f hs
      clear hs
      go_enter Tryd.func28, Tryd.ntmps28
      go_wp2
      go_ret
      exact ⟨ret_b (by simp_all), below_box _ _⟩
  by_cases h2 : k = 2
  · subst h2
    have hW := risWord_any s
    by_cases hn : n = 0
    · subst hn
      have e : rightB 2 0 s = wordB s := by
        rw [← right_word, eqvB_w]; simp
      rw [e]
      generalize wordB s = b at *
      go_enter Tryd.func28, Tryd.ntmps28
      go_wp2_with (go_at_call 36; refine (hW _ hz).mono ?_; rintro e w1 ⟨rfl, rfl⟩)
      go_ret
      exact ⟨rfl, below_box _ _⟩
    · rw [rightB_f (fun h => by rcases h with h | h | h | h; exact absurd h.1 (by decide); exact absurd h.1 (by decide); exact hn h.2.1; exact absurd h.1 (by decide))]
      have hn' : (n == 0) = false := by simp [hn]
      go_enter Tryd.func28, Tryd.ntmps28
      go_wp2
      go_ret
      exact ⟨rfl, below_box _ _⟩
  by_cases h3 : k = 3
  · subst h3
    by_cases hn : n = 0 ∨ n = 1
    · by_cases hs : s.size = 0
      · rw [rightB_t (.inr (.inr (.inr ⟨rfl, hn, hs⟩)))]
        have hi := isEmpty_t hs
        clear hs
        rcases hn with hn | hn
        all_goals
          subst hn
          go_enter Tryd.func28, Tryd.ntmps28
          go_wp2
          go_ret
          exact ⟨ret_b (by simp_all), below_box _ _⟩
      · rw [rightB_f (fun h => by rcases h with h | h | h | h; exact absurd h.1 (by decide); exact absurd h.1 (by decide); exact absurd h.1 (by decide); exact hs h.2.2)]
        have hi := isEmpty_f hs
        clear hs
        rcases hn with hn | hn
        all_goals
          subst hn
          go_enter Tryd.func28, Tryd.ntmps28
          go_wp2
          go_ret
          exact ⟨ret_b (by simp_all), below_box _ _⟩
    · rw [rightB_f (fun h => by rcases h with h | h | h | h; exact absurd h.1 (by decide); exact absurd h.1 (by decide); exact absurd h.1 (by decide); exact hn h.2.1)]
      have hn0 : (n == 0) = false := by simp; exact fun h => hn (.inl h)
      have hn1 : (n == 1) = false := by simp; exact fun h => hn (.inr h)
      clear hn
      go_enter Tryd.func28, Tryd.ntmps28
      go_wp2
      go_ret
      exact ⟨rfl, below_box _ _⟩
  rw [right_else h0 h1 h2 h3]
  have h0' : (k == 0) = false := by simp [h0]
  have h1' : (k == 1) = false := by simp [h1]
  have h2' : (k == 2) = false := by simp [h2]
  have h3' : (k == 3) = false := by simp [h3]
  clear h0 h1 h2 h3
  go_enter Tryd.func28, Tryd.ntmps28
  go_wp2
  go_ret
  exact ⟨rfl, below_box _ _⟩
end Go.Proofs.YtoefcbhcceikoaaDoor
