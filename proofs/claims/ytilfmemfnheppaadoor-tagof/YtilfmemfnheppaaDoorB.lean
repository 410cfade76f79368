/- Rows of numbers in blocks of memory (arrays): what a walk asks of them, and the laws by which it makes, reads and writes one whole. Conditions: named in each. -/
import Derived.Test.YtilfmemfnheppaaDoorA
namespace Go.Proofs.YtilfmemfnheppaaDoor
open Go.RowKit Hx
set_option linter.unusedVariables false

/-- numbers of one kind as cells -/
def cellsK (k : IntKind) (xs : List Int) : List Value := xs.map (Value.int k)
theorem cellsK_len (k : IntKind) (xs : List Int) : (cellsK k xs).length = xs.length := by simp [cellsK]
theorem cellsK_at (k : IntKind) (xs : List Int) (i : Nat) (h : i < xs.length) : (cellsK k xs)[i]? = some (.int k (nth xs i)) := by
  rw [nth_eq xs i h]; simp [cellsK, h]
theorem cellsK_one (k : IntKind) (xs : List Int) : ∀ u ∈ cellsK k xs, u.oneCell' = true := by
  intro u hu; simp [cellsK] at hu; obtain ⟨x, _, rfl⟩ := hu; rfl
theorem cellsK_all (k : IntKind) (xs : List Int) : (cellsK k xs).toArray.all (·.oneCell') = true := all_oneCell_toArray (cellsK_one k xs)
/-- the value of an array of numbers -/
def arr (k : IntKind) (xs : List Int) : Value := .agg (cellsK k xs).toArray

/-- block g holds just these numbers, and may be written -/
def Row (w : World) (g : Nat) (k : IntKind) (xs : List Int) : Prop := ∃ T, w.heap[g]? = some (.cells (cellsK k xs).toArray T (0, 0))

theorem Row.lt {w : World} {g : Nat} {k : IntKind} {xs : List Int} (h : Row w g k xs) : g < w.heap.size := by
  obtain ⟨T, h⟩ := h; exact (Array.getElem?_eq_some_iff.1 h).1
theorem Row.cell {w : World} {g : Nat} {k : IntKind} {xs : List Int} (h : Row w g k xs) (i : Nat) (hi : i < xs.length) : w.cell? ⟨g, i, none⟩ = some (.int k (nth xs i)) := by
  obtain ⟨T, h⟩ := h
  rw [cell_of_row w g i _ T _ h]
  simpa using cellsK_at k xs i hi
theorem Row.froz {w : World} {g : Nat} {k : IntKind} {xs : List Int} (h : Row w g k xs) (i : Nat) : w.frozen? ⟨g, i, none⟩ = false := by
  obtain ⟨T, h⟩ := h; exact frozen_of_row w g i _ T h
theorem Row.drew {w : World} {g : Nat} {k : IntKind} {xs : List Int} (h : Row w g k xs) : Row w.drew g k xs := h
theorem Row.range {w : World} {g : Nat} {k : IntKind} {xs : List Int} (h : Row w g k xs) : w.rangeAt g 0 (cellsK k xs) := by
  intro j v hv
  obtain ⟨T, h⟩ := h
  rw [cell_of_row w g (0 + j) _ T _ h, Nat.zero_add]
  simpa using hv
theorem Row.there {w : World} {g : Nat} {k : IntKind} {xs : List Int} (h : Row w g k xs) : w.there g 0 xs.length := by
  intro j hj
  rw [Nat.zero_add, h.cell j hj]
  exact ⟨rfl, h.froz j⟩

/-- w' is w but for block g, and for new blocks -/
structure Only (g : Nat) (w w' : World) : Prop where
  os : w'.os = w.os
  tape : w'.tape = w.tape
  output : w'.output = w.output
  size : w.heap.size ≤ w'.heap.size
  block : ∀ j, j < w.heap.size → j ≠ g → w'.heap[j]? = w.heap[j]?

theorem Only.refl (g : Nat) (w : World) : Only g w w := ⟨rfl, rfl, rfl, Nat.le_refl _, fun _ _ _ => rfl⟩
theorem Only.trans {g : Nat} {a b c : World} (h : Only g a b) (k : Only g b c) : Only g a c :=
  ⟨k.os.trans h.os, k.tape.trans h.tape, k.output.trans h.output, Nat.le_trans h.size k.size, fun j hj hn => (k.block j (Nat.lt_of_lt_of_le hj h.size) hn).trans (h.block j hj hn)⟩
theorem Only.of_below {g : Nat} {w w' : World} (h : Below w.heap.size w w') : Only g w w' := ⟨h.os, h.tape, h.output, h.size, fun j hj _ => h.block j hj⟩
theorem Only.below {g B : Nat} {w w' : World} (h : Only g w w') (hB : B ≤ g) (hB2 : B ≤ w.heap.size) : Below B w w' :=
  ⟨h.os, h.tape, h.output, h.size, fun k hk => h.block k (by omega) (by omega)⟩
theorem Only.drew {g : Nat} {w w' : World} (h : Only g w w') : Only g w w'.drew := ⟨h.os, h.tape, h.output, h.size, h.block⟩
theorem Only.undrew {g : Nat} {w w' : World} (h : Only g w.drew w') : Only g w w' := ⟨h.os, h.tape, h.output, h.size, h.block⟩

theorem Row.below {w w' : World} {g B : Nat} {k : IntKind} {xs : List Int} (h : Row w g k xs) (hb : Below B w w') (hg : g < B) : Row w' g k xs := by
  obtain ⟨T, h⟩ := h; exact ⟨T, (hb.block g hg).trans h⟩
theorem Row.later {w w' : World} {g : Nat} {k : IntKind} {xs : List Int} (h : Row w g k xs) (hb : Below w.heap.size w w') : Row w' g k xs := h.below hb h.lt
theorem Row.only {w w' : World} {g g' : Nat} {k : IntKind} {xs : List Int} (h : Row w g k xs) (hb : Only g' w w') (hg : g ≠ g') : Row w' g k xs := by
  have := h.lt
  obtain ⟨T, h⟩ := h; exact ⟨T, (hb.block g this hg).trans h⟩

/-- one number written -/
theorem Row.set {w : World} {g : Nat} {k : IntKind} {xs : List Int} (h : Row w g k xs) (i : Nat) (x : Int) : Row (w.setCell ⟨g, i, none⟩ (.int k x)) g k (xs.set i x) := by
  obtain ⟨T, h⟩ := h
  refine ⟨T, ?_⟩
  rw [setCell_eq_setRow w g i _ T _ _ h, setRow_heap w g _ _ T _ h]
  simp [cellsK]
theorem only_setCell (w : World) (g i : Nat) (v : Value) : Only g w (w.setCell ⟨g, i, none⟩ v) :=
  ⟨rfl, rfl, rfl, by simp [World.setCell], fun j _ hj => heap_setCell_other w ⟨g, i, none⟩ j v hj⟩
theorem only_setRow (w : World) (g : Nat) (cs : Array Value) : Only g w (w.setRow g cs) :=
  ⟨rfl, rfl, rfl, by simp, fun j _ hj => setRow_other w g j cs hj⟩

section
variable {P : Program} {ops : Array Oper} {rest : List Oper} {o : Oper} {a : Act} {w : World} {Q : Exit → Act → World → Prop}

/-- a new array of noughts -/
theorem wp_allocR (ty : TypeId) (k : IntKind) (n : Nat) (hz : (P.info? ty).bind (·.zero) = some (arr k (List.replicate n 0)))
    (hop : o.guard = none ∧ o.op = .alloc ty)
    (hK : ∀ g w', w.heap.size ≤ g → Row w' g k (List.replicate n 0) → Below w.heap.size w w' → wpList P ops Q rest (a.put o.dst (.pointer (some ⟨g, 0, none⟩))) w') : wpList P ops Q (o :: rest) a w := by
  refine wpList_plain hop.1 fun K hK' => ?_
  have hrun : (Instr.alloc ty true (.tuple #[])).run P w = .ok (.pointer (some ⟨w.heap.size, 0, none⟩)) (w.alloc (.cells (cellsK k (List.replicate n 0)).toArray ty)) := by
    cases hi : P.info? ty with
    | none => simp [hi] at hz
    | some i =>
      have hz' : i.zero = some (arr k (List.replicate n 0)) := by simpa [hi] using hz
      simp [Instr.alloc, zeroValue, typeInfo, hi, hz', newVar, newRow, arr, Value.cells]
  unfold Oper.wp
  simp only [execOp, hop.2, Sem.run_bind, hrun, Result.andThen_ok, Sem.run_pure]
  refine hK' _ _ (hK w.heap.size _ (Nat.le_refl _) ⟨ty, heap_alloc_new w _⟩ ?_)
  exact (Below.refl _ _).alloc (Nat.le_refl _) _

/-- a new variable that holds an array -/
theorem wp_boxR (ty : TypeId) (x : Operand) (k : IntKind) (xs : List Int) (hx : a.eval x = arr k xs)
    (hop : o.guard = none ∧ o.op = .box ty x)
    (hK : ∀ g w', w.heap.size ≤ g → Row w' g k xs → Below w.heap.size w w' → wpList P ops Q rest (a.put o.dst (.pointer (some ⟨g, 0, none⟩))) w') : wpList P ops Q (o :: rest) a w := by
  refine wpList_plain hop.1 fun K hK' => ?_
  unfold Oper.wp execOp
  simp only [hop.2, hx, arr, Sem.run_bind, Instr.box, newVar, newRow, Value.cells, run_newObj_alloc, Sem.run_pure, Result.andThen_ok]
  refine hK' _ _ (hK w.heap.size _ (Nat.le_refl _) ⟨ty, heap_alloc_new w _⟩ ?_)
  exact (Below.refl _ _).alloc (Nat.le_refl _) _

/-- an array is read whole -/
theorem wp_loadR (ty : TypeId) (x : Operand) (g : Nat) (k : IntKind) (xs : List Int) (d : TypeDesc) (hu : P.underlying ty = some d) (hd : d.isRow = true) (hi : (P.info? ty).map (·.size) = some xs.length)
    (hop : o.guard = none ∧ o.op = .load ty x) (hx : a.eval x = .pointer (some ⟨g, 0, none⟩)) (hr : Row w g k xs)
    (hK : wpList P ops Q rest (a.put o.dst (arr k xs)) w) : wpList P ops Q (o :: rest) a w :=
  wpList_load_mid hop.1 ty x hop.2 g 0 hx (cellsK k xs) d hr.range hu hd (by rw [cellsK_len]; exact hi) hK

/-- an array is written whole -/
theorem wp_storeR (ty : TypeId) (x y : Operand) (g : Nat) (k : IntKind) (xs ys : List Int) (hi : (P.info? ty).map (·.size) = some ys.length) (hl : xs.length = ys.length)
    (hop : o.guard = none ∧ o.op = .store ty x y) (hx : a.eval x = .pointer (some ⟨g, 0, none⟩)) (hy : a.eval y = arr k ys) (hr : Row w g k xs)
    (hK : ∀ w', Row w' g k ys → Only g w w' → wpList P ops Q rest (a.put o.dst undef) w') : wpList P ops Q (o :: rest) a w := by
  obtain ⟨T, hg⟩ := hr
  refine wpList_store_row hop.1 ty x y hop.2 g (cellsK k ys).toArray hx hy T _ hg (by simpa [cellsK_len] using hi) (by simp [cellsK_len, hl]) (cellsK_all k ys) ?_
  exact hK _ ⟨T, setRow_heap w g _ _ T _ hg⟩ (only_setRow w g _)
end

/-- a function whose result is an array in a block of its own -/
theorem ret_row {P : Program} {fn : Func} {R : Ending → World → Prop} {a : Act} {w : World} {p : Tmp} {ty : TypeId} (h : fn.results = #[.cell p ty]) (g : Nat) (k : IntKind) (xs : List Int) (d : TypeDesc)
    (hu : P.underlying ty = some d) (hd : d.isRow = true) (hi : (P.info? ty).map (·.size) = some xs.length)
    (hp : a.tmps.getD p undef = .pointer (some ⟨g, 0, none⟩)) (hr : Row w g k xs) (hdef : a.defers = []) (hR : R (.returned (arr k xs)) w) : bodyPost P fn R .ret a w := by
  obtain ⟨T, hg⟩ := hr
  refine bodyPost_ret_by ?_ hdef hR
  refine results_cell_row h a.tmps w g T (cellsK k xs).toArray (0, 0) d hp hg hu ?_ (by simpa [cellsK_len] using hi)
  cases d <;> simp_all [TypeDesc.isRow]

theorem Tryd.size49 : (Tryd.prog.info? 49).map (·.size) = some 32 := by kernel_rfl
theorem Tryd.size69 : (Tryd.prog.info? 69).map (·.size) = some 8 := by kernel_rfl
theorem Tryd.size59 : (Tryd.prog.info? 59).map (·.size) = some 64 := by kernel_rfl
theorem Tryd.size75 : (Tryd.prog.info? 75).map (·.size) = some 8 := by kernel_rfl
theorem Tryd.size83 : (Tryd.prog.info? 83).map (·.size) = some 64 := by kernel_rfl
theorem Tryd.size79 : (Tryd.prog.info? 79).map (·.size) = some 64 := by kernel_rfl
theorem Tryd.zero49 : (Tryd.prog.info? 49).bind (·.zero) = some (arr .u8 (List.replicate 32 0)) := by kernel_rfl
theorem Tryd.zero69 : (Tryd.prog.info? 69).bind (·.zero) = some (arr .u32 (List.replicate 8 0)) := by kernel_rfl
theorem Tryd.zero75 : (Tryd.prog.info? 75).bind (·.zero) = some (arr .u64 (List.replicate 8 0)) := by kernel_rfl
theorem Tryd.zero83 : (Tryd.prog.info? 83).bind (·.zero) = some (arr .u64 (List.replicate 64 0)) := by kernel_rfl
theorem Tryd.zero79 : (Tryd.prog.info? 79).bind (·.zero) = some (arr .u32 (List.replicate 64 0)) := by kernel_rfl
end Go.Proofs.YtilfmemfnheppaaDoor
