/- An event laid as a row of one; an append of one event, and of a row of events, to a row that the call owns. No conditions but sizes. -/
import Derived.Test.YtdhlheilgagcpaaGreatDoorHA
import Derived.Laws.OwnMore
namespace Go.Proofs.YtdhlheilgagcpaaGreatDoor
open Go.RowKit Go.PlainAid Ln
set_option linter.unusedVariables false
set_option linter.unusedSimpArgs false

/-- an event that is none -/
def zE : Value := .agg (evC noEv nilS nilS).toArray
theorem infoE : (Tryz.prog.info? 37).map (fun i => (i.zero, i.size, i.bytes)) = some (some (.agg (evC noEv nilS nilS).toArray), 14, 168) := by kernel_rfl
theorem wpList_buildE {ops : Array Oper} {rest : List Oper} {o : Oper} {a : Act} {w : World} {Q : Exit → Act → World → Prop} (hg : o.guard = none) (x : Operand)
    (ho : o.op = .buildSlice 23 1 #[(0, x)]) (y : YE) (hx : a.eval x = .agg (encE y).toArray) (H : Nat) (hH : w.heap.size = H)
    (h : wpList Tryz.prog ops Q rest (a.put o.dst (.slice (some ⟨H, 0, none⟩) 1 1)) (w.alloc (.cells (encE y).toArray 37))) : wpList Tryz.prog ops Q (o :: rest) a w := by
  subst hH
  obtain ⟨i0, hi, hz0, hz1, hz2⟩ := info_parts infoE
  refine wpList_plain hg fun K hK => ?_
  have hf : Instr.fill (fun i => some (i * 14, 14)) ((Array.range (1 * 14)).map ((Value.agg (evC noEv nilS nilS).toArray).cells[· % (Value.agg (evC noEv nilS nilS).toArray).cells.size]!)) [(0, Value.agg (encE y).toArray)] = some (encE y).toArray := by kernel_rfl
  have hrun : (Instr.buildSlice 23 1 #[(0, Value.agg (encE y).toArray)]).run Tryz.prog w = .ok (.slice (some ⟨w.heap.size, 0, none⟩) 1 1) (w.alloc (.cells (encE y).toArray 37)) := by
    simp [Instr.buildSlice, run_underlying Tryz.underlying23, sizeOf, typeInfo, zeroValue, hi, hz0, hz1, newRow]
    simp at hf
    rw [hf]; rfl
  unfold Oper.wp execOp
  simp only [ho, Sem.run_bind, List.map_toArray, List.map_cons, List.map_nil, hx, hrun, Result.andThen_ok]
  exact hK _ _ h
theorem wp_appendE1 {o : Oper} {a : Act} {w : World} {K : Act → World → Prop} {Q : Exit → Act → World → Prop} (s x : Operand)
    (ho : o.op = .call { callee := .builtin .append, args := #[s, x], argTypes := #[23, 23] }) (B : Nat) (v : Value) (ys : List YE) (hs : a.eval s = v) (hown : OwnY w B v ys)
    (g0 : Nat) (y : YE) (hx : a.eval x = .slice (some ⟨g0, 0, none⟩) 1 1) (hu : w.rangeAt g0 0 (encE y)) (h1 : y.2.1.oneCell' = true ∧ y.2.2.oneCell' = true) (hlen : ys.length + 1 ≤ 1000000) (hbase : B ≤ w.heap.size)
    (h : ∀ g cap w', OwnY w' B (.slice (some ⟨g, 0, none⟩) (ys.length + 1) cap) (ys ++ [y]) → w.grownBy w' v.ownBlock → K (a.put o.dst (.slice (some ⟨g, 0, none⟩) (ys.length + 1) cap)) w') : o.wp Tryz.prog a w K Q := by
  obtain ⟨i0, hi, hz0, hz1, hz2⟩ := info_parts infoE
  unfold OwnY at hown h
  refine wp_append_lies _ s x 23 ho B 37 i0 (.agg (evC noEv nilS nilS).toArray) 14 168 Tryz.underlying23 hi hz0 hz1 hz2 rfl (by decide) v ys.length (cellsE ys) hs hown ⟨g0, 0, none⟩ 1 1 (encE y) hx rfl (fun j u hj => by
    rw [Addr.add_mid]; exact hu j u hj) (evC_one y.1 h1.1 h1.2) (by omega) (by unfold maxLen; omega) (by omega) hbase _ rfl ?_
  intro g cap w' hown' hgrow _ _
  refine h g cap w' ?_ hgrow
  rw [cellsE_app, List.length_append]; simpa [cellsE] using hown'
theorem wpList_appendE1 {ops : Array Oper} {rest : List Oper} {o : Oper} {a : Act} {w : World} {Q : Exit → Act → World → Prop} (hgd : o.guard = none) (s x : Operand)
    (ho : o.op = .call { callee := .builtin .append, args := #[s, x], argTypes := #[23, 23] }) (B : Nat) (v : Value) (ys : List YE) (hs : a.eval s = v) (hown : OwnY w B v ys)
    (g0 : Nat) (y : YE) (hx : a.eval x = .slice (some ⟨g0, 0, none⟩) 1 1) (hu : w.rangeAt g0 0 (encE y)) (h1 : y.2.1.oneCell' = true ∧ y.2.2.oneCell' = true) (hlen : ys.length + 1 ≤ 1000000) (hbase : B ≤ w.heap.size)
    (h : ∀ g cap w', OwnY w' B (.slice (some ⟨g, 0, none⟩) (ys.length + 1) cap) (ys ++ [y]) → w.grownBy w' v.ownBlock → wpList Tryz.prog ops Q rest (a.put o.dst (.slice (some ⟨g, 0, none⟩) (ys.length + 1) cap)) w') : wpList Tryz.prog ops Q (o :: rest) a w :=
  wpList_plain hgd fun _ hK => wp_appendE1 s x ho B v ys hs hown g0 y hx hu h1 hlen hbase fun g cap w' h2 h3 => hK _ _ (h g cap w' h2 h3)
/-- append of a row of events, nil or not, to one that the call owns, at an operation -/
theorem wp_appendEE {o : Oper} {a : Act} {w : World} {K : Act → World → Prop} {Q : Exit → Act → World → Prop} (s x : Operand)
    (ho : o.op = .call { callee := .builtin .append, args := #[s, x], argTypes := #[23, 23] }) (B : Nat) (v : Value) (ys : List YE) (hs : a.eval s = v) (hown : OwnY w B v ys)
    (u : Value) (zs : List YE) (hx : a.eval x = u) (hu : YSl w u zs) (h1 : ∀ i, i < zs.length → (ye zs i).2.1.oneCell' = true ∧ (ye zs i).2.2.oneCell' = true) (hp : 0 < zs.length) (hlen : ys.length + zs.length ≤ 1000000) (hbase : B ≤ w.heap.size)
    (h : ∀ v' w', OwnY w' B v' (ys ++ zs) → w.grownBy w' v.ownBlock → K (a.put o.dst v') w') : o.wp Tryz.prog a w K Q := by
  obtain ⟨i0, hi, hz0, hz1, hz2⟩ := info_parts infoE
  obtain ⟨au, cu, hv, _, _, _⟩ := hu.form
  subst hv
  obtain ⟨b, o', e, _⟩ := hu.block hp
  subst e
  unfold OwnY at hown h
  refine wp_append_lies _ s x 23 ho B 37 i0 (.agg (evC noEv nilS nilS).toArray) 14 168 Tryz.underlying23 hi hz0 hz1 hz2 rfl (by decide) v ys.length (cellsE ys) hs hown ⟨b, o', none⟩ zs.length cu (cellsE zs) hx (cellsE_len zs) (ysl_cells hu) (cellsE_one zs h1) hp (by unfold maxLen; omega) (by omega) hbase _ rfl ?_
  intro g cap w' hown' hgrow _ _
  refine h _ w' ?_ hgrow
  rw [cellsE_app, List.length_append]; exact hown'
/-- .. the row to append nil where it is empty -/
theorem wp_appendEN {o : Oper} {a : Act} {w : World} {K : Act → World → Prop} {Q : Exit → Act → World → Prop} (s x : Operand)
    (ho : o.op = .call { callee := .builtin .append, args := #[s, x], argTypes := #[23, 23] }) (B : Nat) (v : Value) (ys : List YE) (hs : a.eval s = v) (hown : OwnY w B v ys)
    (u : Value) (zs : List YE) (hx : a.eval x = u) (hu : YSl w u zs) (h1 : ∀ i, i < zs.length → (ye zs i).2.1.oneCell' = true ∧ (ye zs i).2.2.oneCell' = true) (hnil : zs.length = 0 → u = .slice none 0 0) (hlen : ys.length + zs.length ≤ 1000000) (hbase : B ≤ w.heap.size)
    (h : ∀ v' w', OwnY w' B v' (ys ++ zs) → w.grownBy w' v.ownBlock → K (a.put o.dst v') w') : o.wp Tryz.prog a w K Q := by
  rcases Nat.eq_zero_or_pos zs.length with e | e
  · have hu0 := hnil e
    obtain rfl : zs = [] := List.eq_nil_of_length_eq_zero e
    obtain ⟨i0, hi, _, _, _⟩ := info_parts infoE
    have hown' := hown
    unfold OwnY at hown
    have hrun := run_append_owned_none (P := Tryz.prog) (w := w) B 23 o.type 37 i0 14 Tryz.underlying23 hi v ys.length (cellsE ys) hown
    unfold Oper.wp
    simp [execOp, ho, resolve, invoke, builtin, hs, hx, hu0, hrun, Result.andThen]
    exact h v w (by rw [List.append_nil]; exact hown') ⟨rfl, rfl, rfl, Nat.le_refl _, fun _ _ _ => rfl⟩
  · exact wp_appendEE s x ho B v ys hs hown u zs hx hu h1 e hlen hbase h
/-- a guarded operation that is wanted, by its own law -/
theorem wpList_wanted {P : Program} {ops : Array Oper} {Q : Exit → Act → World → Prop} {a : Act} {w : World} {rest : List Oper} {o : Oper} (hw : Region.wanted o (yielded ops a.tmps) = true) (h : o.wp P a w (wpList P ops Q rest) Q) : wpList P ops Q (o :: rest) a w := by
  unfold wpList
  rw [if_pos hw]
  exact .inl h
/-- an empty row, laid -/
theorem own_empty (w : World) (B : Nat) (hB : B ≤ w.heap.size) : OwnY (w.alloc (.cells #[] 37)) B (.slice (some ⟨w.heap.size, 0, none⟩) 0 0) [] :=
  ⟨rfl, .inr ⟨w.heap.size, 0, #[], rfl, hB, World.alloc_heap_new w _, Nat.le_refl _, Nat.zero_le _, rfl, rfl⟩⟩
theorem InL.app {w : World} {ys zs : List YE} (h : InL w ys) (k : InL w zs) : InL w (ys ++ zs) := by
  intro i hi
  by_cases e : i < ys.length
  · rw [ye_left _ _ i e]; exact h i e
  · obtain ⟨j, rfl⟩ : ∃ j, i = ys.length + j := ⟨i - ys.length, by omega⟩
    have hj : j < zs.length := by rw [List.length_append] at hi; omega
    rw [ye_right ys zs j hj]; exact k j hj
theorem vsl_oneC {w : World} {v : Value} {xs : List Val} (h : VSl w v xs) : v.oneCell' = true := by obtain ⟨a, c, rfl, _⟩ := h; rfl
theorem InL.one {w : World} {ys : List YE} (h : InL w ys) : ∀ i, i < ys.length → (ye ys i).2.1.oneCell' = true ∧ (ye ys i).2.2.oneCell' = true := fun i hi => ⟨vsl_oneC (h i hi).1, vsl_oneC (h i hi).2⟩
end Go.Proofs.YtdhlheilgagcpaaGreatDoor
