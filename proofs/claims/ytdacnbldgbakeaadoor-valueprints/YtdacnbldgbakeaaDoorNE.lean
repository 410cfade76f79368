/- The contracts of the document's own: whether a text is digits, whether a number is at most another one by its digits. Conditions: the text is at most 2^62 bytes. -/
import Derived.Test.YtdacnbldgbakeaaDoorNC
namespace Go.Proofs.YtdacnbldgbakeaaDoor
open Go.RowKit Go.PlainAid
set_option linter.unusedVariables false

/-- whether s is one digit or more, without needless noughts -/
def okB (s : ByteArray) : Bool := decide (okD s)
theorem okB_true {s : ByteArray} (h : okD s) : okB s = true := decide_eq_true h
theorem okB_false {s : ByteArray} (h : ¬ okD s) : okB s = false := decide_eq_false h

theorem ret_bool {a b : Bool} (h : a = b) : Ending.returned (.bool a) = .returned (.bool b) := by rw [h]

set_option maxHeartbeats 1600000 in
theorem digits_any (s : ByteArray) (w : World) (hz : s.size ≤ 4611686018427387904) :
    Calls Tryd.prog 28 #[.string s] w fun e w' => e = .returned (.bool (okB s)) ∧ w' = w := by
  have hbt := get_bt s
  go_enter Tryd.func28, Tryd.ntmps28
  go_wp2
  go_loop [3] (fun i => ∃ k : Nat, k ≤ s.size ∧ i = .int .i64 (k : Int) ∧ allD s k) (fun i => s.size - (intOf i).toNat)
  case atStart => exact ⟨0, by omega, rfl, fun i h => by omega⟩
  case round =>
    obtain ⟨k, hk, rfl, hall⟩ := hrel
    have HA : Hid (allD s k) := hall
    clear hall
    by_cases hlt : k < s.size
    · have hlt' : (k : Int) < (s.size : Int) := by omega
      by_cases hd : 48 ≤ bt s k
      · by_cases hd2 : bt s k ≤ 57
        · go_wp2
          go_round
          case rel =>
            refine ⟨k + 1, by omega, by go_num, fun i hi => ?_⟩
            by_cases e : i = k
            · subst e; exact ⟨hd, hd2⟩
            · exact HA.out i (by omega)
          case measure => simp [intOf]; omega
        · go_wp2
          go_ret
          exact ⟨ret_bool (okB_false (fun h => by have := (h.2.1 k hlt).2; omega)).symm, rfl⟩
      · go_wp2
        go_ret
        exact ⟨ret_bool (okB_false (fun h => by have := (h.2.1 k hlt).1; omega)).symm, rfl⟩
    · have e : k = s.size := by omega
      subst e
      by_cases h0 : s.size = 0
      · have h0' : ¬ (0 : Int) < (s.size : Int) := by omega
        go_wp2
        go_ret
        exact ⟨ret_bool (okB_false (fun h => by have := h.1; omega)).symm, rfl⟩
      · have h0' : (0 : Int) < (s.size : Int) := by omega
        by_cases h1 : s.size = 1
        · have h1' : ((s.size : Int) == 1) = true := by simp; omega
          have HH : Hid (s.size = 1) := h1
          clear h1
          go_wp2
          go_ret
          exact ⟨ret_bool (okB_true ⟨by omega, HA.out, fun h => by have := HH.out; omega⟩).symm, rfl⟩
        · have h1' : ((s.size : Int) == 1) = false := by simp; omega
          have HH : Hid (¬ s.size = 1) := h1
          clear h1
          by_cases hb : bt s 0 = 48
          · have hb' : (bt s 0 == 48) = true := by simp [hb]
            have HB : Hid (bt s 0 = 48) := hb
            clear hb
            go_wp2
            go_ret
            exact ⟨ret_bool (by rw [okB_false (fun h => h.2.2 (by have := HH.out; omega) HB.out)]; first | rfl | (show (!(bt s 0 == 48)) = _; rw [hb']; rfl)), rfl⟩
          · have hb' : (bt s 0 == 48) = false := by simp [hb]
            have HB : Hid (¬ bt s 0 = 48) := hb
            clear hb
            go_wp2
            go_ret
            exact ⟨ret_bool (by rw [okB_true ⟨by omega, HA.out, fun _ => HB.out⟩]; first | rfl | (show (!(bt s 0 == 48)) = _; rw [hb']; rfl)), rfl⟩

/-- a is at most b, by the digits -/
def leastB (a b : ByteArray) : Bool := decide (a.size < b.size) || (decide (a.size = b.size) && (Op.bytesLess a.toList b.toList || a.toList == b.toList))

set_option maxHeartbeats 1600000 in
theorem least_any (a b : ByteArray) (w : World) :
    Calls Tryd.prog 29 #[.string a, .string b] w fun e w' => e = .returned (.bool (leastB a b)) ∧ w' = w := by
  go_enter Tryd.func29, Tryd.ntmps29
  go_wp2
  all_goals go_ret
  all_goals refine ⟨ret_bool ?_, rfl⟩
  all_goals (unfold leastB)
  · rename_i h1 h2
    rw [show decide (a.size < b.size) = false from decide_eq_false (by omega), show decide (a.size = b.size) = true from decide_eq_true (by omega)]; rfl
  · rename_i h1 h2
    rw [show decide (a.size = b.size) = false from decide_eq_false (by omega)]; simp
  · rename_i h1
    rw [show decide (a.size < b.size) = true from decide_eq_true (by omega)]; rfl
end Go.Proofs.YtdacnbldgbakeaaDoor
