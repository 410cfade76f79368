/- What a number's text is: digits without needless noughts, and what they are worth; and the contract of what gives up unless a text is that. No conditions. -/
import Derived.Test.YtgdegbmakbfaaaaDoorRows
import Derived.WalkKit
import Derived.WalkSpells
import Derived.WalkLawsBesides
import Derived.Handy
import Derived.PlainAid
namespace Go.Proofs.YtgdegbmakbfaaaaDoor
open Go.RowKit Go.PlainAid
set_option linter.unusedVariables false

/-- one call behind another -/
theorem below_next {w a b : World} (h : Below w.heap.size w a) (k : Below a.heap.size a b) : Below w.heap.size w b := h.trans (k.mono h.size)
/-- a new block -/
theorem below_more {w a : World} (h : Below w.heap.size w a) (o : Obj) : Below w.heap.size w (a.alloc o) := h.alloc h.size o
theorem below_two {w : World} (o p : Obj) : Below w.heap.size w ((w.alloc o).alloc p) := below_more (below_more (Below.refl _ _) o) p

/-- the first n bytes of s are digits -/
abbrev allD (s : ByteArray) (n : Nat) : Prop := ∀ i, i < n → 48 ≤ bt s i ∧ bt s i ≤ 57
/-- s is one digit or more, without needless noughts -/
abbrev okD (s : ByteArray) : Prop := 0 < s.size ∧ allD s s.size ∧ (1 < s.size → bt s 0 ≠ 48)
/-- what the first k digits of s are worth -/
def valN (s : ByteArray) : Nat → Nat
  | 0 => 0
  | k + 1 => 10 * valN s k + (bt s k - 48).toNat
/-- a panic with an error of the program's own -/
def gaveUp (c : Int) : Ending := .panicked [{ v := .iface 25 (.int .i64 c), recovered := false }]

theorem empty_of_size {s : ByteArray} (h : s.size = 0) : s = ⟨#[]⟩ := by
  cases s with
  | mk d => simp [ByteArray.size] at h; subst h; rfl

theorem toList_nil {s : ByteArray} : s.toList = [] ↔ s.size = 0 := by
  rw [ByteArray.toList_eq]; cases s with
  | mk d => simp [ByteArray.size]

/-- how what gives up unless s is digits ends -/
def mustE (s : ByteArray) : Ending := if okD s then .returned (.tuple #[]) else gaveUp 2
theorem mustE_bad {s : ByteArray} (h : ¬ okD s) : gaveUp 2 = mustE s := (if_neg h).symm
theorem mustE_good {s : ByteArray} (h : okD s) : Ending.returned (.tuple #[]) = mustE s := (if_pos h).symm

end Go.Proofs.YtgdegbmakbfaaaaDoor
