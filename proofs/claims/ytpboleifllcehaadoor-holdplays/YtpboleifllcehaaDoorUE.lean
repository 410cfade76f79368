/- The contract of a step. Conditions: sizes; the table of signs lies in memory. -/
import Derived.Test.YtpboleifllcehaaDoorUD
namespace Go.Proofs.YtpboleifllcehaaDoor
open Go.RowKit Go.PlainAid Ln Go.Sort
set_option linter.unusedVariables false
set_option linter.unusedSimpArgs false

theorem st_cells {w : World} {q : Nat} {m : Int} {v : Val} {l : Value} {t : TypeId} (h : Blk w q (stC m v l) t) : w.cell? ⟨q, 0, none⟩ = some (.int .i64 m) ∧ w.cell? ⟨q, 1, none⟩ = some (.int .i64 v.1) ∧ w.cell? ⟨q, 2, none⟩ = some (.int .i64 v.2.1) ∧ w.cell? ⟨q, 3, none⟩ = some (.string v.2.2) ∧ w.cell? ⟨q, 4, none⟩ = some (.int .i64 0) ∧ w.cell? ⟨q, 5, none⟩ = some l :=
  ⟨h.cell 0 _ rfl, h.cell 1 _ rfl, h.cell 2 _ rfl, h.cell 3 _ rfl, h.cell 4 _ rfl, h.cell 5 _ rfl⟩
theorem v_cells {w : World} {q : Nat} {x : Val} {t : TypeId} (h : Blk w q (encV x) t) : w.cell? ⟨q, 0, none⟩ = some (.int .i64 x.1) ∧ w.cell? ⟨q, 1, none⟩ = some (.int .i64 x.2.1) ∧ w.cell? ⟨q, 2, none⟩ = some (.string x.2.2) :=
  ⟨h.cell 0 _ rfl, h.cell 1 _ rfl, h.cell 2 _ rfl⟩
theorem below_box3 (w : World) (a b c : Obj) : Below w.heap.size w (((w.alloc a).alloc b).alloc c) := below_more (below_more (below_more (Below.refl _ _) _) _) _
theorem three_laid (w : World) (a b c : List Value) (s t u : TypeId) :
    Blk (((w.alloc (.cells a.toArray s)).alloc (.cells b.toArray t)).alloc (.cells c.toArray u)) w.heap.size a s ∧ Blk (((w.alloc (.cells a.toArray s)).alloc (.cells b.toArray t)).alloc (.cells c.toArray u)) (w.heap.size + 1) b t ∧
      Blk (((w.alloc (.cells a.toArray s)).alloc (.cells b.toArray t)).alloc (.cells c.toArray u)) (w.heap.size + 1 + 1) c u ∧ Below w.heap.size w (((w.alloc (.cells a.toArray s)).alloc (.cells b.toArray t)).alloc (.cells c.toArray u)) := by
  refine ⟨((Blk.new w a s).alloc _).alloc _, ?_, ?_, below_box3 _ _ _ _⟩
  · have := (Blk.new (w.alloc (.cells a.toArray s)) b t).alloc (.cells c.toArray u)
    simpa using this
  · have := Blk.new ((w.alloc (.cells a.toArray s)).alloc (.cells b.toArray t)) c u
    simpa using this
end Go.Proofs.YtpboleifllcehaaDoor
