/- The contracts of the document's own: whether a byte may stand in a word, and whether a text is one. Conditions: the text is at most 2^62 bytes. -/
import Derived.Test.YtoefcbhcceikoaaDoorVA
namespace Go.Proofs.YtoefcbhcceikoaaDoor
open Go.RowKit Go.PlainAid
set_option linter.unusedVariables false

/-- c may stand in a word, at its beginning or behind it -/
abbrev letFP (c : Int) (f : Bool) : Prop := letP c ∨ (f = false ∧ (c = 95 ∨ digP c))
def letF (c : Int) (f : Bool) : Bool := decide (letFP c f)
theorem letF_t {c : Int} {f : Bool} (h : letFP c f) : letF c f = true := decide_eq_true h
theorem letF_f {c : Int} {f : Bool} (h : ¬ letFP c f) : letF c f = false := decide_eq_false h

set_option maxHeartbeats 1600000 in
theorem rletter_any (c : Int) (f : Bool) (w : World) :
    Calls Tryd.prog 39 #[.int .u8 c, .bool f] w fun e w' => e = .returned (.bool (letF c f)) ∧ w' = w := by
  go_enter Tryd.func39, Tryd.ntmps39
  go_wp2
  go_loop [5] (fun x => ∃ k : Nat, k ≤ 26 ∧ x = .int .u8 (97 + (k : Int)) ∧ ∀ j : Nat, j < k → c ≠ 97 + (j : Int)) (fun x => 123 - (intOf x).toNat)
  case atStart => exact ⟨0, by omega, rfl, fun i h => by omega⟩
  case round =>
    obtain ⟨k, hk, rfl, hall⟩ := hrel
    have HA : Hid (∀ j : Nat, j < k → c ≠ 97 + (j : Int)) := hall
    clear hall
    obtain ⟨x, hx⟩ : ∃ x : Int, x = 97 + (k : Int) := ⟨_, rfl⟩
    have HX : Hid (x = 97 + (k : Int)) := hx
    have hx0 : 97 ≤ x := by omega
    have hx1 : x ≤ 123 := by omega
    rw [← hx]
    clear hx
    by_cases hlt : x ≤ 122
    · by_cases he : c = x
      · have he' : (c == x) = true := by simp [he]
        have HE : Hid (c = x) := he
        clear he
        go_wp2
        go_ret
        exact ⟨ret_b (letF_t (.inl (by have := HE.out; have := HX.out; constructor <;> omega))).symm, rfl⟩
      · have he' : (c == x) = false := by simp [he]
        have HE : Hid (¬ c = x) := he
        clear he
        go_wp2
        go_round
        case rel =>
          refine ⟨k + 1, by have := HX.out; omega, by have := HX.out; go_num, fun j hj => ?_⟩
          have := HX.out
          by_cases e : j = k
          · subst e; intro h; exact HE.out (by omega)
          · exact HA.out j (by omega)
        case measure => simp [intOf]; omega
    · have HL : Hid (¬ letP c) := fun h => HA.out (c - 97).toNat (by have := HX.out; have := h.1; have := h.2; omega) (by have := h.1; omega)
      cases f with
      | true =>
        have HE : Hid (letF c true = false) := letF_f (fun h => by rcases h with h | h; exact HL.out h; cases h.1)
        go_wp2
        go_ret
        exact ⟨ret_b (by rw [HE.out]), rfl⟩
      | false =>
        by_cases hu : c = 95
        · have HE : Hid (letF c false = true) := letF_t (.inr ⟨rfl, .inl hu⟩)
          have hu' : (c == 95) = true := by simp [hu]
          clear hu HA HX HL
          go_wp2
          go_ret
          exact ⟨ret_b (by rw [HE.out]), rfl⟩
        · have hu' : (c == 95) = false := by simp [hu]
          by_cases h1 : 48 ≤ c
          · by_cases h2 : c ≤ 57
            · have HE : Hid (letF c false = true) := letF_t (.inr ⟨rfl, .inr ⟨h1, h2⟩⟩)
              clear hu HA HX HL
              go_wp2
              go_ret
              exact ⟨ret_b (by rw [HE.out]), rfl⟩
            · have HE : Hid (letF c false = false) := letF_f (fun h => by rcases h with h | ⟨_, h | h⟩; exact HL.out h; exact hu h; exact h2 h.2)
              clear hu HA HX HL
              go_wp2
              go_ret
              exact ⟨ret_b (by rw [HE.out]), rfl⟩
          · have HE : Hid (letF c false = false) := letF_f (fun h => by rcases h with h | ⟨_, h | h⟩; exact HL.out h; exact hu h; exact h1 h.1)
            clear hu HA HX HL
            go_wp2
            go_ret
            exact ⟨ret_b (by rw [HE.out]), rfl⟩

set_option maxHeartbeats 1600000 in
theorem risWord_any (s : ByteArray) (w : World) (hz : s.size ≤ 4611686018427387904) :
    Calls Tryd.prog 36 #[.string s] w fun e w' => e = .returned (.bool (wordB s)) ∧ w' = w := by
  have hbt := get_bt s
  go_enter Tryd.func36, Tryd.ntmps36
  go_wp2
  go_loop [3] (fun i => ∃ k : Nat, k ≤ s.size ∧ i = .int .i64 (k : Int) ∧ ∀ i, i < k → letFP (bt s i) (i == 0)) (fun i => s.size - (intOf i).toNat)
  case atStart => exact ⟨0, by omega, rfl, fun i h => by omega⟩
  case round =>
    obtain ⟨k, hk, rfl, hall⟩ := hrel
    have HA : Hid (∀ i, i < k → letFP (bt s i) (i == 0)) := hall
    clear hall
    by_cases hlt : k < s.size
    · have hlt' : (k : Int) < (s.size : Int) := by omega
      have hR := rletter_any (bt s k) ((k : Int) == 0)
      have HB : Hid (((k : Int) == 0) = (k == 0)) := by show _ = _; rw [Bool.eq_iff_iff]; simp
      by_cases hc : letFP (bt s k) (k == 0)
      · have HC : Hid (letFP (bt s k) (k == 0)) := hc
        rw [letF_t (by rw [HB.out]; exact hc)] at hR
        clear hc
        go_wp2_with (go_at_call 39; refine (hR _).mono ?_; rintro e w1 ⟨rfl, rfl⟩)
        go_round
        case rel =>
          refine ⟨k + 1, by omega, by go_num, fun i hi => ?_⟩
          by_cases e : i = k
          · subst e; exact HC.out
          · exact HA.out i (by omega)
        case measure => simp [intOf]; omega
      · have HC : Hid (¬ letFP (bt s k) (k == 0)) := hc
        rw [letF_f (by rw [HB.out]; exact hc)] at hR
        clear hc
        go_wp2_with (go_at_call 39; refine (hR _).mono ?_; rintro e w1 ⟨rfl, rfl⟩)
        go_ret
        refine ⟨ret_b (wordB_f (fun h => HC.out ?_)).symm, rfl⟩
        by_cases e : k = 0
        · subst e; exact .inl h.2.2.1
        · rcases h.2.2.2 k hlt with a | a | a
          · exact .inl a
          · exact .inr ⟨by simp [e], .inr a⟩
          · exact .inr ⟨by simp [e], .inl a⟩
    · have e : k = s.size := by omega
      subst e
      by_cases h0 : s.size = 0
      · have HE : Hid (wordB s = false) := wordB_f (fun h => by have := h.1; omega)
        have h0' : ¬ (1 : Int) ≤ (s.size : Int) := by omega
        go_wp2
        go_ret
        exact ⟨ret_b (by rw [HE.out]), rfl⟩
      · have h0' : (1 : Int) ≤ (s.size : Int) := by omega
        by_cases h1 : s.size ≤ 40
        · have h1' : (s.size : Int) ≤ 40 := by omega
          have hw : wordP s := by
            refine ⟨by omega, h1, ?_, fun i hi => ?_⟩
            · rcases HA.out 0 (by omega) with a | a
              · exact a
              · cases a.1
            · rcases HA.out i hi with a | ⟨_, a | a⟩
              · exact .inl a
              · exact .inr (.inr a)
              · exact .inr (.inl a)
          have HE : Hid (wordB s = true) := wordB_t hw
          clear hw
          go_wp2
          go_ret
          exact ⟨ret_b (by rw [HE.out]), rfl⟩
        · have h1' : ¬ (s.size : Int) ≤ 40 := by omega
          have HE : Hid (wordB s = false) := wordB_f (fun h => h1 h.2.1)
          go_wp2
          go_ret
          exact ⟨ret_b (by rw [HE.out]), rfl⟩
end Go.Proofs.YtoefcbhcceikoaaDoor
