/- Texts as lists of bytes. No conditions. -/
import Derived.Test.YtpboleifllcehaaDoorRows
import Derived.WalkKit
import Derived.WalkSpells
import Derived.WalkLawsBesides
import Derived.Handy
import Derived.PlainAid
import Derived.Lib.SplitLaws
namespace Go.Proofs.YtpboleifllcehaaDoor
namespace Ln
open Go.RowKit Go.PlainAid
set_option linter.unusedVariables false

/-- one call behind another -/
theorem below_next {w a b : World} (h : Below w.heap.size w a) (k : Below a.heap.size a b) : Below w.heap.size w b := h.trans (k.mono h.size)
/-- a new block -/
theorem below_more {w a : World} (h : Below w.heap.size w a) (o : Obj) : Below w.heap.size w (a.alloc o) := h.alloc h.size o
theorem ret_b {a b : Bool} (h : a = b) : Ending.returned (.bool a) = .returned (.bool b) := by rw [h]

/-- a text's bytes -/
def bs (l : List UInt8) : ByteArray := ⟨l.toArray⟩
/-- a text as a list -/
abbrev tx (s : ByteArray) : List UInt8 := s.data.toList
theorem bs_tx (s : ByteArray) : bs (tx s) = s := Lib.mk_data s
theorem tx_bs (l : List UInt8) : tx (bs l) = l := rfl
theorem tx_len (s : ByteArray) : (tx s).length = s.size := (Lib.size_eq s).symm
theorem bs_size (l : List UInt8) : (bs l).size = l.length := rfl
theorem bs_toList (l : List UInt8) : (bs l).toList = l := by rw [ByteArray.toList_eq]; rfl
theorem tx_toList (s : ByteArray) : s.toList = tx s := ByteArray.toList_eq s
theorem bs_inj {a b : List UInt8} (h : bs a = bs b) : a = b := congrArg tx h
theorem bs_nil : bs [] = ⟨#[]⟩ := rfl
theorem tx_inj {a b : ByteArray} (h : tx a = tx b) : a = b := by rw [← bs_tx a, ← bs_tx b, h]
theorem extract_tx (s : ByteArray) (a b : Nat) : s.extract a b = bs (((tx s).drop a).take (b - a)) := Lib.extract_eq s a b
theorem bt_tx (s : ByteArray) (k : Nat) (b : UInt8) (h : (tx s)[k]? = some b) : bt s k = (b.toNat : Int) := by
  obtain ⟨hk, e⟩ := List.getElem?_eq_some_iff.1 h
  have hk' : k < s.size := by rw [← tx_len]; exact hk
  unfold bt
  rw [dif_pos hk', ← e]
  rfl
theorem byte_at (s : ByteArray) (k : Nat) (h : k < s.size) : ∃ b, (tx s)[k]? = some b ∧ bt s k = (b.toNat : Int) ∧ (tx s).take (k + 1) = (tx s).take k ++ [b] ∧ (tx s).drop k = b :: (tx s).drop (k + 1) := by
  have h' : k < (tx s).length := by rw [tx_len]; exact h
  refine ⟨(tx s)[k], List.getElem?_eq_getElem h', bt_tx s k _ (List.getElem?_eq_getElem h'), ?_, ?_⟩
  · rw [List.take_add_one, List.getElem?_eq_getElem h']; rfl
  · exact List.drop_eq_getElem_cons h'
theorem byte_eq (b c : UInt8) : ((b.toNat : Int) = (c.toNat : Int)) ↔ b = c :=
  ⟨fun h => UInt8.toNat_inj.1 (by omega), fun h => by rw [h]⟩
end Ln
end Go.Proofs.YtpboleifllcehaaDoor
