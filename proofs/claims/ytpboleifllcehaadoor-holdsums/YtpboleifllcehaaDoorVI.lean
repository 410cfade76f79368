/- The contracts of Compare and of the document's Less. No conditions. -/
import Derived.Test.YtpboleifllcehaaDoorVH
import Derived.Deep.RegionHeld3
import Derived.Sort.Grow
namespace Go.Proofs.YtpboleifllcehaaDoor
open Go.RowKit Go.PlainAid Go.Sort
set_option linter.unusedVariables false

/-- how two values compare -/
def cv (x y : Val) : Int := or3 (Lib.compareInt x.1 y.1) (Lib.compareInt x.2.1 y.2.1) (Lib.compareBytes x.2.2.data.toList y.2.2.data.toList)
def RGrow (w : World) (r : Value) (e : Ending) (w' : World) : Prop := e = .returned r ∧ ∃ q os, w' = grow (w.drewN q) os

theorem cells3 (u : World) (g : Nat) (hg : g = u.heap.size) (x y z : Value) (T : TypeId) : (u.alloc (.cells #[x, y, z] T)).cell? ⟨g, 0, none⟩ = some x ∧ (u.alloc (.cells #[x, y, z] T)).cell? ⟨g, 1, none⟩ = some y ∧ (u.alloc (.cells #[x, y, z] T)).cell? ⟨g, 2, none⟩ = some z := by
  subst hg; exact ⟨by simp, by simp, by simp⟩

theorem grew2 (w : World) (a b : Obj) : ∃ q os, (w.alloc a).alloc b = grow (w.drewN q) os := ⟨0, #[a, b], by rw [alloc_eq_grow, alloc_eq_grow, grow_grow]; rfl⟩
theorem grew3 (w : World) (a b c : Obj) : ∃ q os, (((w.alloc a).alloc b).alloc c).drew = grow (w.drewN q) os := ⟨1, #[a, b, c], by rw [alloc_eq_grow, alloc_eq_grow, alloc_eq_grow, grow_grow, grow_grow]; rfl⟩

/-- is a value ahead of another? -/
def ltV (x y : Val) : Bool := if x.1 = y.1 then (if x.2.1 = y.2.1 then Op.bytesLess x.2.2.toList y.2.2.toList else decide (x.2.1 < y.2.1)) else decide (x.1 < y.1)

end Go.Proofs.YtpboleifllcehaaDoor
