/- An operation laid as a row of one; an append of one operation, and of a row of operations, to a row that the call owns. No conditions but sizes. -/
import Derived.Test.YtgdegbmakbfaaaaDoorPA
import Derived.Test.YtgdegbmakbfaaaaDoorBH
import Derived.Laws.OwnMore
namespace Go.Proofs.YtgdegbmakbfaaaaDoor
open Go.RowKit Go.PlainAid Ln
set_option linter.unusedVariables false
set_option linter.unusedSimpArgs false

/-- an operation that is none -/
def zO : Value := .agg (opC noOp nilS nilS).toArray
theorem infoO : (Tryd.prog.info? 41).map (fun i => (i.zero, i.size, i.bytes)) = some (some (.agg (opC noOp nilS nilS).toArray), 12, 144) := by kernel_rfl
theorem wpList_buildO {ops : Array Oper} {rest : List Oper} {o : Oper} {a : Act} {w : World} {Q : Exit → Act → World → Prop} (hg : o.guard = none) (x : Operand)
    (ho : o.op = .buildSlice 32 1 #[(0, x)]) (y : YO) (hx : a.eval x = .agg (encO y).toArray) (H : Nat) (hH : w.heap.size = H)
    (h : wpList Tryd.prog ops Q rest (a.put o.dst (.slice (some ⟨H, 0, none⟩) 1 1)) (w.alloc (.cells (encO y).toArray 41))) : wpList Tryd.prog ops Q (o :: rest) a w := by
  subst hH
  obtain ⟨i0, hi, hz0, hz1, hz2⟩ := info_parts infoO
  refine wpList_plain hg fun K hK => ?_
  have hf : Instr.fill (fun i => some (i * 12, 12)) ((Array.range (1 * 12)).map ((Value.agg (opC noOp nilS nilS).toArray).cells[· % (Value.agg (opC noOp nilS nilS).toArray).cells.size]!)) [(0, Value.agg (encO y).toArray)] = some (encO y).toArray := by kernel_rfl
  have hrun : (Instr.buildSlice 32 1 #[(0, Value.agg (encO y).toArray)]).run Tryd.prog w = .ok (.slice (some ⟨w.heap.size, 0, none⟩) 1 1) (w.alloc (.cells (encO y).toArray 41)) := by
    simp [Instr.buildSlice, run_underlying Tryd.underlying32, sizeOf, typeInfo, zeroValue, hi, hz0, hz1, newRow]
    simp at hf
    rw [hf]; rfl
  unfold Oper.wp execOp
  simp only [ho, Sem.run_bind, List.map_toArray, List.map_cons, List.map_nil, hx, hrun, Result.andThen_ok]
  exact hK _ _ h
theorem wp_appendO1 {o : Oper} {a : Act} {w : World} {K : Act → World → Prop} {Q : Exit → Act → World → Prop} (s x : Operand)
    (ho : o.op = .call { callee := .builtin .append, args := #[s, x], argTypes := #[32, 32] }) (B : Nat) (v : Value) (ys : List YO) (hs : a.eval s = v) (hown : OwnO w B v ys)
    (g0 : Nat) (y : YO) (hx : a.eval x = .slice (some ⟨g0, 0, none⟩) 1 1) (hu : w.rangeAt g0 0 (encO y)) (h1 : y.2.1.oneCell' = true ∧ y.2.2.oneCell' = true) (hlen : ys.length + 1 ≤ 1000000) (hbase : B ≤ w.heap.size)
    (h : ∀ g cap w', OwnO w' B (.slice (some ⟨g, 0, none⟩) (ys.length + 1) cap) (ys ++ [y]) → w.grownBy w' v.ownBlock → K (a.put o.dst (.slice (some ⟨g, 0, none⟩) (ys.length + 1) cap)) w') : o.wp Tryd.prog a w K Q := by
  obtain ⟨i0, hi, hz0, hz1, hz2⟩ := info_parts infoO
  unfold OwnO at hown h
  refine wp_append_lies _ s x 32 ho B 41 i0 (.agg (opC noOp nilS nilS).toArray) 12 144 Tryd.underlying32 hi hz0 hz1 hz2 rfl (by decide) v ys.length (cellsO ys) hs hown ⟨g0, 0, none⟩ 1 1 (encO y) hx rfl (fun j u hj => by
    rw [Addr.add_mid]; exact hu j u hj) (opC_one y.1 h1.1 h1.2) (by omega) (by unfold maxLen; omega) (by omega) hbase _ rfl ?_
  intro g cap w' hown' hgrow _ _
  refine h g cap w' ?_ hgrow
  rw [cellsO_app, List.length_append]; simpa [cellsO] using hown'
theorem wpList_appendO1 {ops : Array Oper} {rest : List Oper} {o : Oper} {a : Act} {w : World} {Q : Exit → Act → World → Prop} (hgd : o.guard = none) (s x : Operand)
    (ho : o.op = .call { callee := .builtin .append, args := #[s, x], argTypes := #[32, 32] }) (B : Nat) (v : Value) (ys : List YO) (hs : a.eval s = v) (hown : OwnO w B v ys)
    (g0 : Nat) (y : YO) (hx : a.eval x = .slice (some ⟨g0, 0, none⟩) 1 1) (hu : w.rangeAt g0 0 (encO y)) (h1 : y.2.1.oneCell' = true ∧ y.2.2.oneCell' = true) (hlen : ys.length + 1 ≤ 1000000) (hbase : B ≤ w.heap.size)
    (h : ∀ g cap w', OwnO w' B (.slice (some ⟨g, 0, none⟩) (ys.length + 1) cap) (ys ++ [y]) → w.grownBy w' v.ownBlock → wpList Tryd.prog ops Q rest (a.put o.dst (.slice (some ⟨g, 0, none⟩) (ys.length + 1) cap)) w') : wpList Tryd.prog ops Q (o :: rest) a w :=
  wpList_plain hgd fun _ hK => wp_appendO1 s x ho B v ys hs hown g0 y hx hu h1 hlen hbase fun g cap w' h2 h3 => hK _ _ (h g cap w' h2 h3)
/-- append of a row of operations, nil or not, to one that the call owns, at an operation -/
theorem wp_appendOO {o : Oper} {a : Act} {w : World} {K : Act → World → Prop} {Q : Exit → Act → World → Prop} (s x : Operand)
    (ho : o.op = .call { callee := .builtin .append, args := #[s, x], argTypes := #[32, 32] }) (B : Nat) (v : Value) (ys : List YO) (hs : a.eval s = v) (hown : OwnO w B v ys)
    (u : Value) (zs : List YO) (hx : a.eval x = u) (hu : OSl w u zs) (h1 : ∀ i, i < zs.length → (yo zs i).2.1.oneCell' = true ∧ (yo zs i).2.2.oneCell' = true) (hp : 0 < zs.length) (hlen : ys.length + zs.length ≤ 1000000) (hbase : B ≤ w.heap.size)
    (h : ∀ v' w', OwnO w' B v' (ys ++ zs) → w.grownBy w' v.ownBlock → K (a.put o.dst v') w') : o.wp Tryd.prog a w K Q := by
  obtain ⟨i0, hi, hz0, hz1, hz2⟩ := info_parts infoO
  obtain ⟨au, cu, hv, _, _, _⟩ := hu.form
  subst hv
  obtain ⟨b, o', e, _⟩ := hu.block hp
  subst e
  unfold OwnO at hown h
  refine wp_append_lies _ s x 32 ho B 41 i0 (.agg (opC noOp nilS nilS).toArray) 12 144 Tryd.underlying32 hi hz0 hz1 hz2 rfl (by decide) v ys.length (cellsO ys) hs hown ⟨b, o', none⟩ zs.length cu (cellsO zs) hx (cellsO_len zs) (osl_cells hu) (cellsO_one zs h1) hp (by unfold maxLen; omega) (by omega) hbase _ rfl ?_
  intro g cap w' hown' hgrow _ _
  refine h _ w' ?_ hgrow
  rw [cellsO_app, List.length_append]; exact hown'
/-- .. the row to append nil where it is empty -/
theorem wp_appendON {o : Oper} {a : Act} {w : World} {K : Act → World → Prop} {Q : Exit → Act → World → Prop} (s x : Operand)
    (ho : o.op = .call { callee := .builtin .append, args := #[s, x], argTypes := #[32, 32] }) (B : Nat) (v : Value) (ys : List YO) (hs : a.eval s = v) (hown : OwnO w B v ys)
    (u : Value) (zs : List YO) (hx : a.eval x = u) (hu : OSl w u zs) (h1 : ∀ i, i < zs.length → (yo zs i).2.1.oneCell' = true ∧ (yo zs i).2.2.oneCell' = true) (hnil : zs.length = 0 → u = .slice none 0 0) (hlen : ys.length + zs.length ≤ 1000000) (hbase : B ≤ w.heap.size)
    (h : ∀ v' w', OwnO w' B v' (ys ++ zs) → w.grownBy w' v.ownBlock → K (a.put o.dst v') w') : o.wp Tryd.prog a w K Q := by
  rcases Nat.eq_zero_or_pos zs.length with e | e
  · have hu0 := hnil e
    obtain rfl : zs = [] := List.eq_nil_of_length_eq_zero e
    obtain ⟨i0, hi, _, _, _⟩ := info_parts infoO
    have hown' := hown
    unfold OwnO at hown
    have hrun := run_append_owned_none (P := Tryd.prog) (w := w) B 32 o.type 41 i0 12 Tryd.underlying32 hi v ys.length (cellsO ys) hown
    unfold Oper.wp
    simp [execOp, ho, resolve, invoke, builtin, hs, hx, hu0, hrun, Result.andThen]
    exact h v w (by rw [List.append_nil]; exact hown') ⟨rfl, rfl, rfl, Nat.le_refl _, fun _ _ _ => rfl⟩
  · exact wp_appendOO s x ho B v ys hs hown u zs hx hu h1 e hlen hbase h
/-- an empty row, laid -/
theorem own_emptyO (w : World) (B : Nat) (hB : B ≤ w.heap.size) : OwnO (w.alloc (.cells #[] 41)) B (.slice (some ⟨w.heap.size, 0, none⟩) 0 0) [] :=
  ⟨rfl, .inr ⟨w.heap.size, 0, #[], rfl, hB, World.alloc_heap_new w _, Nat.le_refl _, Nat.zero_le _, rfl, rfl⟩⟩
theorem InO.app {w : World} {ys zs : List YO} (h : InO w ys) (k : InO w zs) : InO w (ys ++ zs) := by
  intro i hi
  by_cases e : i < ys.length
  · rw [yo_left _ _ i e]; exact h i e
  · obtain ⟨j, rfl⟩ : ∃ j, i = ys.length + j := ⟨i - ys.length, by omega⟩
    have hj : j < zs.length := by rw [List.length_append] at hi; omega
    rw [yo_right ys zs j hj]; exact k j hj
theorem InO.one {w : World} {ys : List YO} (h : InO w ys) : ∀ i, i < ys.length → (yo ys i).2.1.oneCell' = true ∧ (yo ys i).2.2.oneCell' = true := fun i hi => ⟨vsl_oneC (h i hi).1, vsl_oneC (h i hi).2⟩
end Go.Proofs.YtgdegbmakbfaaaaDoor
