/- An deed laid as a row of one; an append of one deed, and of a row of deeds, to a row that the call owns. No conditions but sizes. -/
import Derived.Test.YtpboleifllcehaaDoorUA
import Derived.Laws.OwnMore
namespace Go.Proofs.YtpboleifllcehaaDoor
open Go.RowKit Go.PlainAid Ln
set_option linter.unusedVariables false
set_option linter.unusedSimpArgs false

/-- an deed that is none -/
def zD : Value := .agg (ddC noDd nilS).toArray
theorem infoD : (Tryd.prog.info? 36).map (fun i => (i.zero, i.size, i.bytes)) = some (some (.agg (ddC noDd nilS).toArray), 5, 64) := by kernel_rfl
theorem wpList_buildD {ops : Array Oper} {rest : List Oper} {o : Oper} {a : Act} {w : World} {Q : Exit → Act → World → Prop} (hg : o.guard = none) (x : Operand)
    (ho : o.op = .buildSlice 22 1 #[(0, x)]) (y : YD) (hx : a.eval x = .agg (encD y).toArray) (H : Nat) (hH : w.heap.size = H)
    (h : wpList Tryd.prog ops Q rest (a.put o.dst (.slice (some ⟨H, 0, none⟩) 1 1)) (w.alloc (.cells (encD y).toArray 36))) : wpList Tryd.prog ops Q (o :: rest) a w := by
  subst hH
  obtain ⟨i0, hi, hz0, hz1, hz2⟩ := info_parts infoD
  refine wpList_plain hg fun K hK => ?_
  have hf : Instr.fill (fun i => some (i * 5, 5)) ((Array.range (1 * 5)).map ((Value.agg (ddC noDd nilS).toArray).cells[· % (Value.agg (ddC noDd nilS).toArray).cells.size]!)) [(0, Value.agg (encD y).toArray)] = some (encD y).toArray := by kernel_rfl
  have hrun : (Instr.buildSlice 22 1 #[(0, Value.agg (encD y).toArray)]).run Tryd.prog w = .ok (.slice (some ⟨w.heap.size, 0, none⟩) 1 1) (w.alloc (.cells (encD y).toArray 36)) := by
    simp [Instr.buildSlice, run_underlying Tryd.underlying22, sizeOf, typeInfo, zeroValue, hi, hz0, hz1, newRow]
    simp at hf
    rw [hf]; rfl
  unfold Oper.wp execOp
  simp only [ho, Sem.run_bind, List.map_toArray, List.map_cons, List.map_nil, hx, hrun, Result.andThen_ok]
  exact hK _ _ h
theorem wp_appendD1 {o : Oper} {a : Act} {w : World} {K : Act → World → Prop} {Q : Exit → Act → World → Prop} (s x : Operand)
    (ho : o.op = .call { callee := .builtin .append, args := #[s, x], argTypes := #[22, 22] }) (B : Nat) (v : Value) (ys : List YD) (hs : a.eval s = v) (hown : OwnD w B v ys)
    (g0 : Nat) (y : YD) (hx : a.eval x = .slice (some ⟨g0, 0, none⟩) 1 1) (hu : w.rangeAt g0 0 (encD y)) (h1 : y.2.oneCell' = true) (hlen : ys.length + 1 ≤ 1000000) (hbase : B ≤ w.heap.size)
    (h : ∀ g cap w', OwnD w' B (.slice (some ⟨g, 0, none⟩) (ys.length + 1) cap) (ys ++ [y]) → w.grownBy w' v.ownBlock → K (a.put o.dst (.slice (some ⟨g, 0, none⟩) (ys.length + 1) cap)) w') : o.wp Tryd.prog a w K Q := by
  obtain ⟨i0, hi, hz0, hz1, hz2⟩ := info_parts infoD
  unfold OwnD at hown h
  refine wp_append_lies _ s x 22 ho B 36 i0 (.agg (ddC noDd nilS).toArray) 5 64 Tryd.underlying22 hi hz0 hz1 hz2 rfl (by decide) v ys.length (cellsD ys) hs hown ⟨g0, 0, none⟩ 1 1 (encD y) hx rfl (fun j u hj => by
    rw [Addr.add_mid]; exact hu j u hj) (ddC_one y.1 h1) (by omega) (by unfold maxLen; omega) (by omega) hbase _ rfl ?_
  intro g cap w' hown' hgrow _ _
  refine h g cap w' ?_ hgrow
  rw [cellsD_app, List.length_append]; simpa [cellsD] using hown'
theorem wpList_appendD1 {ops : Array Oper} {rest : List Oper} {o : Oper} {a : Act} {w : World} {Q : Exit → Act → World → Prop} (hgd : o.guard = none) (s x : Operand)
    (ho : o.op = .call { callee := .builtin .append, args := #[s, x], argTypes := #[22, 22] }) (B : Nat) (v : Value) (ys : List YD) (hs : a.eval s = v) (hown : OwnD w B v ys)
    (g0 : Nat) (y : YD) (hx : a.eval x = .slice (some ⟨g0, 0, none⟩) 1 1) (hu : w.rangeAt g0 0 (encD y)) (h1 : y.2.oneCell' = true) (hlen : ys.length + 1 ≤ 1000000) (hbase : B ≤ w.heap.size)
    (h : ∀ g cap w', OwnD w' B (.slice (some ⟨g, 0, none⟩) (ys.length + 1) cap) (ys ++ [y]) → w.grownBy w' v.ownBlock → wpList Tryd.prog ops Q rest (a.put o.dst (.slice (some ⟨g, 0, none⟩) (ys.length + 1) cap)) w') : wpList Tryd.prog ops Q (o :: rest) a w :=
  wpList_plain hgd fun _ hK => wp_appendD1 s x ho B v ys hs hown g0 y hx hu h1 hlen hbase fun g cap w' h2 h3 => hK _ _ (h g cap w' h2 h3)
/-- append of a row of deeds, nil or not, to one that the call owns, at an deed -/
theorem wp_appendDD {o : Oper} {a : Act} {w : World} {K : Act → World → Prop} {Q : Exit → Act → World → Prop} (s x : Operand)
    (ho : o.op = .call { callee := .builtin .append, args := #[s, x], argTypes := #[22, 22] }) (B : Nat) (v : Value) (ys : List YD) (hs : a.eval s = v) (hown : OwnD w B v ys)
    (u : Value) (zs : List YD) (hx : a.eval x = u) (hu : DSl w u zs) (h1 : ∀ i, i < zs.length → (yd zs i).2.oneCell' = true) (hp : 0 < zs.length) (hlen : ys.length + zs.length ≤ 1000000) (hbase : B ≤ w.heap.size)
    (h : ∀ v' w', OwnD w' B v' (ys ++ zs) → w.grownBy w' v.ownBlock → K (a.put o.dst v') w') : o.wp Tryd.prog a w K Q := by
  obtain ⟨i0, hi, hz0, hz1, hz2⟩ := info_parts infoD
  obtain ⟨au, cu, hv, _, _, _⟩ := hu.form
  subst hv
  obtain ⟨b, o', e, _⟩ := hu.block hp
  subst e
  unfold OwnD at hown h
  refine wp_append_lies _ s x 22 ho B 36 i0 (.agg (ddC noDd nilS).toArray) 5 64 Tryd.underlying22 hi hz0 hz1 hz2 rfl (by decide) v ys.length (cellsD ys) hs hown ⟨b, o', none⟩ zs.length cu (cellsD zs) hx (cellsD_len zs) (dsl_cells hu) (cellsD_one zs h1) hp (by unfold maxLen; omega) (by omega) hbase _ rfl ?_
  intro g cap w' hown' hgrow _ _
  refine h _ w' ?_ hgrow
  rw [cellsD_app, List.length_append]; exact hown'
/-- .. the row to append nil where it is empty -/
theorem wp_appendDN {o : Oper} {a : Act} {w : World} {K : Act → World → Prop} {Q : Exit → Act → World → Prop} (s x : Operand)
    (ho : o.op = .call { callee := .builtin .append, args := #[s, x], argTypes := #[22, 22] }) (B : Nat) (v : Value) (ys : List YD) (hs : a.eval s = v) (hown : OwnD w B v ys)
    (u : Value) (zs : List YD) (hx : a.eval x = u) (hu : DSl w u zs) (h1 : ∀ i, i < zs.length → (yd zs i).2.oneCell' = true) (hnil : zs.length = 0 → u = .slice none 0 0) (hlen : ys.length + zs.length ≤ 1000000) (hbase : B ≤ w.heap.size)
    (h : ∀ v' w', OwnD w' B v' (ys ++ zs) → w.grownBy w' v.ownBlock → K (a.put o.dst v') w') : o.wp Tryd.prog a w K Q := by
  rcases Nat.eq_zero_or_pos zs.length with e | e
  · have hu0 := hnil e
    obtain rfl : zs = [] := List.eq_nil_of_length_eq_zero e
    obtain ⟨i0, hi, _, _, _⟩ := info_parts infoD
    have hown' := hown
    unfold OwnD at hown
    have hrun := run_append_owned_none (P := Tryd.prog) (w := w) B 22 o.type 36 i0 5 Tryd.underlying22 hi v ys.length (cellsD ys) hown
    unfold Oper.wp
    simp [execOp, ho, resolve, invoke, builtin, hs, hx, hu0, hrun, Result.andThen]
    exact h v w (by rw [List.append_nil]; exact hown') ⟨rfl, rfl, rfl, Nat.le_refl _, fun _ _ _ => rfl⟩
  · exact wp_appendDD s x ho B v ys hs hown u zs hx hu h1 e hlen hbase h
/-- an empty row, laid -/
theorem own_emptyD (w : World) (B : Nat) (hB : B ≤ w.heap.size) : OwnD (w.alloc (.cells #[] 36)) B (.slice (some ⟨w.heap.size, 0, none⟩) 0 0) [] :=
  ⟨rfl, .inr ⟨w.heap.size, 0, #[], rfl, hB, World.alloc_heap_new w _, Nat.le_refl _, Nat.zero_le _, rfl, rfl⟩⟩
theorem InD.app {w : World} {ys zs : List YD} (h : InD w ys) (k : InD w zs) : InD w (ys ++ zs) := by
  intro i hi
  by_cases e : i < ys.length
  · rw [yd_left _ _ i e]; exact h i e
  · obtain ⟨j, rfl⟩ : ∃ j, i = ys.length + j := ⟨i - ys.length, by omega⟩
    have hj : j < zs.length := by rw [List.length_append] at hi; omega
    rw [yd_right ys zs j hj]; exact k j hj
theorem InD.one {w : World} {ys : List YD} (h : InD w ys) : ∀ i, i < ys.length → (yd ys i).2.oneCell' = true := fun i hi => vsl_oneC (h i hi)
end Go.Proofs.YtpboleifllcehaaDoor
