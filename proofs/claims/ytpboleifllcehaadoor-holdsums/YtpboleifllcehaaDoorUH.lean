/- The contracts of the document's State and Out. Conditions: those of kept. -/
import Derived.Test.YtpboleifllcehaaDoorUG
import Derived.OrdersHeld
namespace Go.Proofs.YtpboleifllcehaaDoor
open Go.RowKit Go.PlainAid Ln Go.Sort
set_option linter.unusedVariables false
set_option linter.unusedSimpArgs false

/-- what lay stays -/
def Stay (w wx : World) : Prop := Below w.heap.size w wx
theorem Stay.later {w wx wy : World} (h : Stay w wx) (hb : Below wx.heap.size wx wy) : Stay w wy := below_next h hb
theorem Stay.drew (w : World) : Stay w { w with drawn := w.drawn + 1 } := ⟨rfl, rfl, rfl, Nat.le_refl _, fun _ _ => rfl⟩
end Go.Proofs.YtpboleifllcehaaDoor
