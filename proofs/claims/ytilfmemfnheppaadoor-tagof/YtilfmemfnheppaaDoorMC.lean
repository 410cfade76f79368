/- A seal in the making, as it lies in memory. Conditions: the table holds the rounds' numbers; no more than 900,000 bytes are written. -/
import Derived.Test.YtilfmemfnheppaaDoorMB
import Derived.Test.YtilfmemfnheppaaDoorY
namespace Go.Proofs.YtilfmemfnheppaaDoor
open Go.RowKit Hx
set_option linter.unusedVariables false

/-- what lies in a Mac: where its Hash is, 64 bytes -/
def mcells (g : Nat) (ob : List Int) : List Value := .pointer (some ⟨g, 0, none⟩) :: cellsK .u8 ob
def MRow (w : World) (m g : Nat) (ob : List Int) : Prop := (∃ T, w.heap[m]? = some (.cells (mcells g ob).toArray T (0, 0))) ∧ ob.length = 64
section
variable {w w' : World} {m g : Nat} {ob : List Int}
theorem MRow.lt (h : MRow w m g ob) : m < w.heap.size := by
  obtain ⟨⟨T, h⟩, _⟩ := h; exact (Array.getElem?_eq_some_iff.1 h).1
theorem MRow.below {B : Nat} (h : MRow w m g ob) (hb : Below B w w') (hg : m < B) : MRow w' m g ob := by
  obtain ⟨⟨T, h⟩, h1⟩ := h; exact ⟨⟨T, (hb.block m hg).trans h⟩, h1⟩
theorem MRow.later (h : MRow w m g ob) (hb : Below w.heap.size w w') : MRow w' m g ob := h.below hb h.lt
theorem MRow.only {g' : Nat} (h : MRow w m g ob) (hb : Only g' w w') (hg : m ≠ g') : MRow w' m g ob := by
  have := h.lt
  obtain ⟨⟨T, h⟩, h1⟩ := h; exact ⟨⟨T, (hb.block m this hg).trans h⟩, h1⟩
theorem MRow.at (h : MRow w m g ob) (j : Nat) : w.cell? ⟨m, j, none⟩ = (mcells g ob)[j]? := by
  obtain ⟨⟨T, h⟩, _⟩ := h
  rw [cell_of_row w m j _ T _ h]; simp
theorem MRow.ptr (h : MRow w m g ob) : w.cell? ⟨m, 0, none⟩ = some (.pointer (some ⟨g, 0, none⟩)) := by
  rw [h.at 0]; rfl
theorem MRow.sl (h : MRow w m g ob) (hb : By ob) : Sl w (.slice (some ⟨m, 1, none⟩) 64 64) ob := by
  refine ⟨some ⟨m, 1, none⟩, 64, by rw [h.2], hb, by rw [h.2]; omega, by rw [h.2]; omega, fun _ => ⟨m, 1, rfl, h.lt, fun i hi => ?_⟩⟩
  rw [h.at, Nat.add_comm 1 i]
  unfold mcells
  rw [List.getElem?_cons_succ]
  exact cellsK_at _ _ _ hi
end

section
variable {P : Program} {ops : Array Oper} {rest : List Oper} {o : Oper} {a : Act} {w : World} {Q : Exit → Act → World → Prop}
/-- a Mac is built -/
theorem wp_buildM (t : TypeId) (g : Nat) (ob : List Int)
    (hop : o.guard = none ∧ ∃ parts, o.op = .build t parts ∧ P.built t (parts.map fun (i, x) => (i, a.eval x)).toList = some (mcells g ob).toArray)
    (hK : wpList P ops Q rest (a.put o.dst (.agg (mcells g ob).toArray)) w) : wpList P ops Q (o :: rest) a w := by
  obtain ⟨hg, parts, ho, hf⟩ := hop
  refine wpList_build hg t parts ho (by rw [hf]; rfl) ?_
  rw [hf]
  exact hK
/-- a new Mac -/
theorem wp_boxM (ty : TypeId) (x : Operand) (g : Nat) (ob : List Int) (h2 : ob.length = 64) (hx : a.eval x = .agg (mcells g ob).toArray)
    (hop : o.guard = none ∧ o.op = .box ty x)
    (hK : ∀ m w', w.heap.size ≤ m → MRow w' m g ob → Below w.heap.size w w' → wpList P ops Q rest (a.put o.dst (.pointer (some ⟨m, 0, none⟩))) w') : wpList P ops Q (o :: rest) a w := by
  refine wpList_plain hop.1 fun K hK' => ?_
  unfold Oper.wp execOp
  simp only [hop.2, hx, Sem.run_bind, Instr.box, newVar, newRow, Value.cells, run_newObj_alloc, Sem.run_pure, Result.andThen_ok]
  refine hK' _ _ (hK w.heap.size _ (Nat.le_refl _) ⟨⟨ty, heap_alloc_new w _⟩, h2⟩ ?_)
  exact (Below.refl _ _).alloc (Nat.le_refl _) _
end

theorem list_map_nth (l : List Int) (n : Nat) (h : l.length = n) : l = (List.range n).map (fun i => nth l i) := by
  refine List.ext_getElem (by simp [h]) fun i h1 h2 => ?_
  rw [← nth_eq l i h1]; simp
theorem built38 (g : Nat) (ob : List Int) (h : ob.length = 64) : Tryd.prog.built 61 [(0, .pointer (some ⟨g, 0, none⟩)), (1, arr .u8 ob)] = some (mcells g ob).toArray := by
  rw [list_map_nth ob 64 h]
  generalize (fun i => nth ob i) = f
  kernel_rfl
end Go.Proofs.YtilfmemfnheppaaDoor
