/- What a number's text is: digits without needless noughts, and what they are worth; and the contract of what gives up unless a text is that. No conditions. -/
import Derived.Test.YtpboleifllcehaaDoorRows
import Derived.WalkKit
import Derived.WalkSpells
import Derived.WalkLawsBesides
import Derived.Handy
import Derived.PlainAid
namespace Go.Proofs.YtpboleifllcehaaDoor
open Go.RowKit Go.PlainAid
set_option linter.unusedVariables false

/-- one call behind another -/
theorem below_next {w a b : World} (h : Below w.heap.size w a) (k : Below a.heap.size a b) : Below w.heap.size w b := h.trans (k.mono h.size)
/-- a new block -/
theorem below_more {w a : World} (h : Below w.heap.size w a) (o : Obj) : Below w.heap.size w (a.alloc o) := h.alloc h.size o
theorem below_two {w : World} (o p : Obj) : Below w.heap.size w ((w.alloc o).alloc p) := below_more (below_more (Below.refl _ _) o) p

/-- the first n bytes of s are digits -/
abbrev allD (s : ByteArray) (n : Nat) : Prop := ∀ i, i < n → 48 ≤ bt s i ∧ bt s i ≤ 57
/-- s is one digit or more, without needless noughts -/
abbrev okD (s : ByteArray) : Prop := 0 < s.size ∧ allD s s.size ∧ (1 < s.size → bt s 0 ≠ 48)
/-- what the first k digits of s are worth -/
def valN (s : ByteArray) : Nat → Nat
  | 0 => 0
  | k + 1 => 10 * valN s k + (bt s k - 48).toNat
theorem empty_of_size {s : ByteArray} (h : s.size = 0) : s = ⟨#[]⟩ := by
  cases s with
  | mk d => simp [ByteArray.size] at h; subst h; rfl

theorem toList_nil {s : ByteArray} : s.toList = [] ↔ s.size = 0 := by
  rw [ByteArray.toList_eq]; cases s with
  | mk d => simp [ByteArray.size]

end Go.Proofs.YtpboleifllcehaaDoor
