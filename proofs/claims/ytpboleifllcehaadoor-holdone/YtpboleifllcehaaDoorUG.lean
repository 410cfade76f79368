/- The contract of the document's kept: what is kept behind all that was done. Conditions: what is written has what it wants; sizes. -/
import Derived.Test.YtpboleifllcehaaDoorUF
import Derived.BigQuiet
namespace Go.Proofs.YtpboleifllcehaaDoor
open Go.RowKit Go.PlainAid Ln Go.Sort
set_option linter.unusedVariables false
set_option linter.unusedSimpArgs false

/-- what is done has what it wants -/
def OkD (d : Dd) : Prop := (d.o = 1 → 0 < d.a.length) ∧ (d.o = 3 → 1 < d.a.length)
theorem kept_next (m : Int) (ys : List YD) (k : Nat) (h : k < ys.length) : keptE m ((ys.map (·.1)).take (k + 1)) = nxV m (keptE m ((ys.map (·.1)).take k)) (yd ys k).1 := by
  rw [List.take_add_one, map_yd ys k h]
  exact keptE_snoc _ _ _
theorem blk_set3 {w : World} {p : Nat} {x : Val} {t : TypeId} (h : Blk w p (encV x) t) (y : Val) : Blk (((w.setCell ⟨p, 0, none⟩ (.int .i64 y.1)).setCell ⟨p, 1, none⟩ (.int .i64 y.2.1)).setCell ⟨p, 2, none⟩ (.string y.2.2)) p (encV y) t :=
  ((Blk.set h 0 (.int .i64 y.1)).set 1 (.int .i64 y.2.1)).set 2 (.string y.2.2)
theorem v_froz {w : World} {q : Nat} {x : Val} {t : TypeId} (h : Blk w q (encV x) t) : w.frozen? ⟨q, 0, none⟩ = false ∧ w.frozen? ⟨q, 1, none⟩ = false ∧ w.frozen? ⟨q, 2, none⟩ = false := ⟨h.froz 0, h.froz 1, h.froz 2⟩
/-- how its loop stands -/
structure Kp (w wr : World) (z : Nat) (x : Val) : Prop where
  r : Blk wr z (encV noV) 25
  o : Blk wr (z + 1) (encV noV) 25
  v : Blk wr (z + 1 + 1) (encV x) 25
  b : Below w.heap.size w wr
theorem Kp.later {w wr wn : World} {z : Nat} {x : Val} (h : Kp w wr z x) (hb : Below wr.heap.size wr wn) : Kp w wn z x := ⟨h.r.later hb, h.o.later hb, h.v.later hb, below_next h.b hb⟩
theorem Kp.set {w wr : World} {z : Nat} {x : Val} (h : Kp w wr z x) (hz : z = w.heap.size) (y : Val) : Kp w (((wr.setCell ⟨z + 1 + 1, 0, none⟩ (.int .i64 y.1)).setCell ⟨z + 1 + 1, 1, none⟩ (.int .i64 y.2.1)).setCell ⟨z + 1 + 1, 2, none⟩ (.string y.2.2)) z y :=
  have o := oth_set3 wr (z + 1 + 1) (.int .i64 y.1) (.int .i64 y.2.1) (.string y.2.2)
  ⟨h.r.oth o (by omega) (by omega), h.o.oth o (by omega) (by omega), blk_set3 h.v y, below_oth h.b o (by omega) (by omega) h.b.size⟩
end Go.Proofs.YtpboleifllcehaaDoor
