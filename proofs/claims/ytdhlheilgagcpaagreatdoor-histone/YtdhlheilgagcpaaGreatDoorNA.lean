/- What a number's text is: digits without needless noughts, and what they are worth; and the contract of what gives up unless a text is that. No conditions. -/
import Derived.Test.YtdhlheilgagcpaaGreatDoorRows
import Derived.WalkKit
import Derived.WalkSpells
import Derived.WalkLawsBesides
import Derived.Handy
import Derived.PlainAid
namespace Go.Proofs.YtdhlheilgagcpaaGreatDoor
open Go.RowKit Go.PlainAid
set_option linter.unusedVariables false

/-- one call behind another -/
theorem below_next {w a b : World} (h : Below w.heap.size w a) (k : Below a.heap.size a b) : Below w.heap.size w b := h.trans (k.mono h.size)
/-- a new block -/
theorem below_more {w a : World} (h : Below w.heap.size w a) (o : Obj) : Below w.heap.size w (a.alloc o) := h.alloc h.size o
theorem below_two {w : World} (o p : Obj) : Below w.heap.size w ((w.alloc o).alloc p) := below_more (below_more (Below.refl _ _) o) p

/-- the first n bytes of s are digits -/
abbrev allD (s : ByteArray) (n : Nat) : Prop := ∀ i, i < n → 48 ≤ bt s i ∧ bt s i ≤ 57
/-- s is one digit or more, without needless noughts -/
abbrev okD (s : ByteArray) : Prop := 0 < s.size ∧ allD s s.size ∧ (1 < s.size → bt s 0 ≠ 48)
/-- what the first k digits of s are worth -/
def valN (s : ByteArray) : Nat → Nat
  | 0 => 0
  | k + 1 => 10 * valN s k + (bt s k - 48).toNat
/-- a panic with an error of the program's own -/
def gaveUp (c : Int) : Ending := .panicked [{ v := .iface 24 (.int .i64 c), recovered := false }]

theorem empty_of_size {s : ByteArray} (h : s.size = 0) : s = ⟨#[]⟩ := by
  cases s with
  | mk d => simp [ByteArray.size] at h; subst h; rfl

theorem toList_nil {s : ByteArray} : s.toList = [] ↔ s.size = 0 := by
  rw [ByteArray.toList_eq]; cases s with
  | mk d => simp [ByteArray.size]

/-- how what gives up unless s is digits ends -/
def mustE (s : ByteArray) : Ending := if okD s then .returned (.tuple #[]) else gaveUp 2
theorem mustE_bad {s : ByteArray} (h : ¬ okD s) : gaveUp 2 = mustE s := (if_neg h).symm
theorem mustE_good {s : ByteArray} (h : okD s) : Ending.returned (.tuple #[]) = mustE s := (if_pos h).symm

set_option maxHeartbeats 1600000 in
theorem must_any (s : ByteArray) (w : World) (hz : s.size ≤ 4611686018427387904) : Calls Tryz.prog 121 #[.string s] w fun e w' => e = mustE s ∧ w' = w := by
  have hbt := get_bt s
  by_cases h0 : s.size = 0
  · have e : mustE s = gaveUp 2 := if_neg (fun h => by have := h.1; omega)
    rw [e]
    have hn : s.toList = [] := toList_nil.2 h0
    clear e
    go_enter Tryz.func121, Tryz.ntmps121
    go_wp2
    exact ⟨rfl, rfl, rfl⟩
  have hn : ¬ s.toList = [] := fun h => h0 (toList_nil.1 h)
  by_cases h1 : 1 < s.size ∧ bt s 0 = 48
  · have e : mustE s = gaveUp 2 := if_neg (fun h => h.2.2 h1.1 h1.2)
    rw [e]
    obtain ⟨h1, h2⟩ := h1
    have h1' : (1 : Int) < (s.size : Int) := by omega
    clear e
    go_enter Tryz.func121, Tryz.ntmps121
    go_wp2
    exact ⟨rfl, rfl, rfl⟩
  have hi : s.toList.isEmpty = false := by cases h : s.toList.isEmpty; rfl; exact absurd (List.isEmpty_iff.1 h) hn
  have HH : Hid (¬ (1 < s.size ∧ bt s 0 = 48)) := h1
  have HZ : Hid (0 < s.size) := by show 0 < s.size; omega
  have hlead : (decide (1 < (s.size : Int)) && (bt s 0 == 48)) = false := by
    cases h : (decide (1 < (s.size : Int)) && (bt s 0 == 48))
    · rfl
    · simp at h; exact absurd ⟨by omega, h.2⟩ h1
  by_cases hs : 1 < s.size
  case' pos =>
    have hs' : (1 : Int) < (s.size : Int) := by omega
    have hx : (bt s 0 == 48) = false := by simpa [hs'] using hlead
  case' neg =>
    have hs' : ¬ (1 : Int) < (s.size : Int) := by omega
  all_goals
    clear h1 hlead hn h0
    go_enter Tryz.func121, Tryz.ntmps121
    go_wp2
    go_loop [18] (fun i => ∃ k : Nat, k ≤ s.size ∧ i = .int .i64 (k : Int) ∧ allD s k) (fun i => s.size - (intOf i).toNat)
    case atStart => exact ⟨0, by omega, rfl, fun i h => by omega⟩
    case round =>
      obtain ⟨k, hk, rfl, hall⟩ := hrel
      have HA : Hid (allD s k) := hall
      clear hall
      by_cases hlt : k < s.size
      · have hlt' : (k : Int) < (s.size : Int) := by omega
        by_cases hd : 48 ≤ bt s k
        · by_cases hd2 : bt s k ≤ 57
          · go_wp2
            go_round
            case rel =>
              refine ⟨k + 1, by omega, by go_num, fun i hi => ?_⟩
              by_cases e : i = k
              · subst e; exact ⟨hd, hd2⟩
              · exact HA.out i (by omega)
            case measure => simp [intOf]; omega
          · go_wp2
            exact ⟨rfl, mustE_bad (fun h => by have := (h.2.1 k hlt).2; omega), rfl⟩
        · go_wp2
          exact ⟨rfl, mustE_bad (fun h => by have := (h.2.1 k hlt).1; omega), rfl⟩
      · go_wp2
        go_end0
        have e : k = s.size := by omega
        subst e
        exact ⟨mustE_good ⟨HZ.out, HA.out, fun a b => HH.out ⟨a, b⟩⟩, rfl⟩
end Go.Proofs.YtdhlheilgagcpaaGreatDoor
