/- What a word is; the contracts of what tells whether a byte is a letter or a digit, and of IsWord, the program's and the document's. Conditions: the text is at most 2^62 bytes. -/
import Derived.Test.YtoefcbhcceikoaaDoorNA
namespace Go.Proofs.YtoefcbhcceikoaaDoor
open Go.RowKit Go.PlainAid
set_option linter.unusedVariables false

/-- c is a letter -/
abbrev letP (c : Int) : Prop := 97 ≤ c ∧ c ≤ 122
/-- c is a digit -/
abbrev digP (c : Int) : Prop := 48 ≤ c ∧ c ≤ 57
def letB (c : Int) : Bool := decide (letP c)
def digB (c : Int) : Bool := decide (digP c)
/-- c may stand in a word -/
abbrev chrP (c : Int) : Prop := letP c ∨ digP c ∨ c = 95
/-- s is a word -/
abbrev wordP (s : ByteArray) : Prop := 0 < s.size ∧ s.size ≤ 40 ∧ letP (bt s 0) ∧ ∀ i, i < s.size → chrP (bt s i)
def wordB (s : ByteArray) : Bool := decide (wordP s)
theorem letB_t {c : Int} (h : letP c) : letB c = true := decide_eq_true h
theorem letB_f {c : Int} (h : ¬ letP c) : letB c = false := decide_eq_false h
theorem digB_t {c : Int} (h : digP c) : digB c = true := decide_eq_true h
theorem digB_f {c : Int} (h : ¬ digP c) : digB c = false := decide_eq_false h
theorem wordB_t {s : ByteArray} (h : wordP s) : wordB s = true := decide_eq_true h
theorem wordB_f {s : ByteArray} (h : ¬ wordP s) : wordB s = false := decide_eq_false h
theorem ret_b {a b : Bool} (h : a = b) : Ending.returned (.bool a) = .returned (.bool b) := by rw [h]

theorem isLetter_any (c : Int) (w : World) : Calls Tryd.prog 37 #[.int .u8 c] w fun e w' => e = .returned (.bool (letB c)) ∧ w' = w := by
  by_cases h1 : 97 ≤ c
  · by_cases h2 : c ≤ 122
    · rw [letB_t ⟨h1, h2⟩]
      go_enter Tryd.func37, Tryd.ntmps37
      go_wp2
      go_ret
      exact ⟨ret_b (by simp), rfl⟩
    · rw [letB_f (fun h => h2 h.2)]
      go_enter Tryd.func37, Tryd.ntmps37
      go_wp2
      go_ret
      exact ⟨ret_b (by simp), rfl⟩
  · rw [letB_f (fun h => h1 h.1)]
    go_enter Tryd.func37, Tryd.ntmps37
    go_wp2
    go_ret
    exact ⟨rfl, rfl⟩
theorem isDigit_any (c : Int) (w : World) : Calls Tryd.prog 38 #[.int .u8 c] w fun e w' => e = .returned (.bool (digB c)) ∧ w' = w := by
  by_cases h1 : 48 ≤ c
  · by_cases h2 : c ≤ 57
    · rw [digB_t ⟨h1, h2⟩]
      go_enter Tryd.func38, Tryd.ntmps38
      go_wp2
      go_ret
      exact ⟨ret_b (by simp), rfl⟩
    · rw [digB_f (fun h => h2 h.2)]
      go_enter Tryd.func38, Tryd.ntmps38
      go_wp2
      go_ret
      exact ⟨ret_b (by simp), rfl⟩
  · rw [digB_f (fun h => h1 h.1)]
    go_enter Tryd.func38, Tryd.ntmps38
    go_wp2
    go_ret
    exact ⟨rfl, rfl⟩

set_option maxHeartbeats 1600000 in
theorem isWord_any (s : ByteArray) (w : World) (hz : s.size ≤ 4611686018427387904) :
    Calls Tryd.prog 34 #[.string s] w fun e w' => e = .returned (.bool (wordB s)) ∧ w' = w := by
  have hbt := get_bt s
  by_cases h0 : s.size = 0
  · rw [wordB_f (fun h => by have := h.1; omega)]
    have hn : s.toList = [] := toList_nil.2 h0
    go_enter Tryd.func34, Tryd.ntmps34
    go_wp2
    go_ret
    exact ⟨rfl, rfl⟩
  have hn : ¬ s.toList = [] := fun h => h0 (toList_nil.1 h)
  have hi : s.toList.isEmpty = false := by cases h : s.toList.isEmpty; rfl; exact absurd (List.isEmpty_iff.1 h) hn
  by_cases h1 : 40 < s.size
  · rw [wordB_f (fun h => by have := h.2.1; omega)]
    have h1' : (40 : Int) < (s.size : Int) := by omega
    go_enter Tryd.func34, Tryd.ntmps34
    go_wp2
    go_ret
    exact ⟨rfl, rfl⟩
  have h1' : ¬ (40 : Int) < (s.size : Int) := by omega
  have h0' : (0 : Int) < (s.size : Int) := by omega
  have hL := isLetter_any (bt s 0)
  by_cases h2 : letP (bt s 0)
  · rw [letB_t h2] at hL
    have HL : Hid (letP (bt s 0)) := h2
    clear h2
    go_enter Tryd.func34, Tryd.ntmps34
    go_wp2_with (go_at_call 37; refine (hL _).mono ?_; rintro e w1 ⟨rfl, rfl⟩)
    go_loop [19] (fun i => ∃ k : Nat, k ≤ s.size ∧ i = .int .i64 (k : Int) ∧ ∀ i, i < k → chrP (bt s i)) (fun i => s.size - (intOf i).toNat)
    case atStart => exact ⟨0, by omega, rfl, fun i h => by omega⟩
    case round =>
      obtain ⟨k, hk, rfl, hall⟩ := hrel
      have HA : Hid (∀ i, i < k → chrP (bt s i)) := hall
      clear hall
      by_cases hlt : k < s.size
      · have hlt' : (k : Int) < (s.size : Int) := by omega
        have hA := isLetter_any (bt s k)
        have hB := isDigit_any (bt s k)
        by_cases hc : chrP (bt s k)
        · have HC : Hid (chrP (bt s k)) := hc
          by_cases a : letP (bt s k)
          · rw [letB_t a] at hA
            clear hc a hL
            go_wp2_with (go_at_call 37; refine (hA _).mono ?_; rintro e w1 ⟨rfl, rfl⟩)
            go_round
            case rel =>
              refine ⟨k + 1, by omega, by go_num, fun i hi => ?_⟩
              by_cases e : i = k
              · subst e; exact HC.out
              · exact HA.out i (by omega)
            case measure => simp [intOf]; omega
          · rw [letB_f a] at hA
            by_cases b : digP (bt s k)
            · rw [digB_t b] at hB
              clear hc a b hL
              go_wp2_with (first | (go_at_call 37; refine (hA _).mono ?_; rintro e w1 ⟨rfl, rfl⟩) | (go_at_call 38; refine (hB _).mono ?_; rintro e w1 ⟨rfl, rfl⟩))
              go_round
              case rel =>
                refine ⟨k + 1, by omega, by go_num, fun i hi => ?_⟩
                by_cases e : i = k
                · subst e; exact HC.out
                · exact HA.out i (by omega)
              case measure => simp [intOf]; omega
            · rw [digB_f b] at hB
              have hu : (bt s k == 95) = true := by rcases hc with h | h | h; exact absurd h a; exact absurd h b; simp [h]
              clear hc a b hL
              go_wp2_with (first | (go_at_call 37; refine (hA _).mono ?_; rintro e w1 ⟨rfl, rfl⟩) | (go_at_call 38; refine (hB _).mono ?_; rintro e w1 ⟨rfl, rfl⟩))
              go_round
              case rel =>
                refine ⟨k + 1, by omega, by go_num, fun i hi => ?_⟩
                by_cases e : i = k
                · subst e; exact HC.out
                · exact HA.out i (by omega)
              case measure => simp [intOf]; omega
        · have HC : Hid (¬ chrP (bt s k)) := hc
          rw [letB_f (fun h => hc (.inl h))] at hA
          rw [digB_f (fun h => hc (.inr (.inl h)))] at hB
          have hu : ¬ bt s k = 95 := fun h => hc (.inr (.inr h))
          have hu' : (bt s k == 95) = false := by simp [hu]
          clear hc hL hu
          go_wp2_with (first | (go_at_call 37; refine (hA _).mono ?_; rintro e w1 ⟨rfl, rfl⟩) | (go_at_call 38; refine (hB _).mono ?_; rintro e w1 ⟨rfl, rfl⟩))
          go_ret
          exact ⟨ret_b (wordB_f (fun h => HC.out (h.2.2.2 k hlt))).symm, rfl⟩
      · go_wp2
        go_ret
        have e : k = s.size := by omega
        subst e
        exact ⟨ret_b (wordB_t ⟨by omega, by omega, HL.out, HA.out⟩).symm, rfl⟩
  · rw [wordB_f (fun h => h2 h.2.2.1)]
    rw [letB_f h2] at hL
    clear h2
    go_enter Tryd.func34, Tryd.ntmps34
    go_wp2_with (go_at_call 37; refine (hL _).mono ?_; rintro e w1 ⟨rfl, rfl⟩)
    go_ret
    exact ⟨rfl, rfl⟩
end Go.Proofs.YtoefcbhcceikoaaDoor
