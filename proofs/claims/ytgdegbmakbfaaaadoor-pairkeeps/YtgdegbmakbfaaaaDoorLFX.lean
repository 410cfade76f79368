/- Index and Contains at one byte. No conditions. -/
import Derived.Test.YtgdegbmakbfaaaaDoorLX
import Derived.Test.YtgdegbmakbfaaaaDoorLA
import Derived.Test.YtgdegbmakbfaaaaDoorLS
namespace Go.Proofs.YtgdegbmakbfaaaaDoor
namespace Ln
open Go.RowKit Go.PlainAid
set_option linter.unusedVariables false

theorem byte_index (c : UInt8) : ∀ s : List UInt8, Lib.indexByte s c = Lib.index s [c]
  | [] => by simp [Lib.indexByte, Lib.index]
  | b :: l => by
    rw [Lib.indexByte, Lib.index, byte_index c l]
    have : ([c] : List UInt8).isPrefixOf (b :: l) = (b == c) := by
      simp only [List.isPrefixOf, Bool.and_true]
      by_cases h : b = c
      · subst h; rfl
      · rw [beq_eq_false_iff_ne.2 h, beq_eq_false_iff_ne.2 (Ne.symm h)]
    rw [this]
theorem index_any (s : ByteArray) (c : UInt8) (w : World) : Calls Tryd.prog 64 #[.string s, .string ⟨#[c]⟩] w fun e w' => e = .returned (.int .i64 (Lib.index (tx s) [c])) ∧ w' = w := by
  have h := Any.stringslite_Index_one indexLays s c w
  rw [byte_index] at h
  exact h
theorem contains_any (s : ByteArray) (c : UInt8) (w : World) : Calls Tryd.prog 48 #[.string s, .string ⟨#[c]⟩] w fun e w' => e = .returned (.bool (decide (c ∈ tx s))) ∧ w' = w := by
  have h := Any.strings_Contains_one contLays s c w
  rw [byte_index] at h
  have e := contains_mem c (tx s)
  unfold Lib.contains at e
  rw [e] at h
  exact h
end Ln
end Go.Proofs.YtgdegbmakbfaaaaDoor
