/- Rows of events in memory, and rows that a call owns; an append of one event. No conditions but sizes. An event laid as a row of one; an append of one event, and of a row of events, to a row that the call owns. No conditions but sizes. -/
import Derived.Test.YtgdegbmakbfaaaaDoorBA
import Derived.Laws.OwnMore
namespace Go.Proofs.YtgdegbmakbfaaaaDoor
open Go.RowKit Go.PlainAid Ln
set_option linter.unusedVariables false
set_option linter.unusedSimpArgs false

/-- an event with the slices of its lists -/
abbrev YE := Ev × Value × Value
def encE (y : YE) : List Value := evC y.1 y.2.1 y.2.2
def cellsE (ys : List YE) : List Value := ys.flatMap encE
def noY : YE := (noEv, nilS, nilS)
def ye (ys : List YE) (i : Nat) : YE := ys.getD i noY
theorem encE_len (y : YE) : (encE y).length = 14 := rfl
theorem ye_cons (x : YE) (xs : List YE) (i : Nat) : ye (x :: xs) (i + 1) = ye xs i := by unfold ye; simp
theorem ye_zero (x : YE) (xs : List YE) : ye (x :: xs) 0 = x := by unfold ye; simp
theorem ye_eq (xs : List YE) (i : Nat) (h : i < xs.length) : ye xs i = xs[i] := by unfold ye; rw [List.getD_eq_getElem?_getD, List.getElem?_eq_getElem h]; rfl
theorem ye_left (xs ys : List YE) (i : Nat) (h : i < xs.length) : ye (xs ++ ys) i = ye xs i := by
  rw [ye_eq _ i (by rw [List.length_append]; omega), ye_eq _ i h, List.getElem_append_left h]
theorem ye_right (xs ys : List YE) (i : Nat) (h : i < ys.length) : ye (xs ++ ys) (xs.length + i) = ye ys i := by
  rw [ye_eq _ _ (by rw [List.length_append]; omega), ye_eq _ i h, List.getElem_append_right (by omega)]; simp
theorem cellsE_cons (x : YE) (xs : List YE) : cellsE (x :: xs) = encE x ++ cellsE xs := rfl
theorem cellsE_app (xs ys : List YE) : cellsE (xs ++ ys) = cellsE xs ++ cellsE ys := by simp [cellsE]
theorem cellsE_len : ∀ xs : List YE, (cellsE xs).length = xs.length * 14
  | [] => rfl
  | x :: xs => by rw [cellsE_cons, List.length_append, cellsE_len xs, encE_len, List.length_cons]; omega
theorem cellsE_one : ∀ xs : List YE, (∀ i, i < xs.length → (ye xs i).2.1.oneCell' = true ∧ (ye xs i).2.2.oneCell' = true) → ∀ u ∈ cellsE xs, u.oneCell' = true
  | [], _, u, h => by cases h
  | x :: xs, hx, u, h => by
    rw [cellsE_cons, List.mem_append] at h
    rcases h with h | h
    · have h0 := hx 0 (by simp)
      rw [ye_zero] at h0
      exact evC_one x.1 h0.1 h0.2 u h
    · exact cellsE_one xs (fun i hi => by have := hx (i + 1) (by simp; omega); rw [ye_cons] at this; exact this) u h
theorem cellsE_at : ∀ (xs : List YE) (i j : Nat) (u : Value), i < xs.length → (encE (ye xs i))[j]? = some u → (cellsE xs)[i * 14 + j]? = some u
  | [], i, j, u, h, _ => by cases h
  | x :: xs, 0, j, u, _, hj => by
    rw [ye_zero] at hj
    have hl := (List.getElem?_eq_some_iff.1 hj).1
    rw [cellsE_cons, Nat.zero_mul, Nat.zero_add, List.getElem?_append_left hl, hj]
  | x :: xs, i + 1, j, u, h, hj => by
    rw [ye_cons] at hj
    have ih := cellsE_at xs i j u (by simpa using h) hj
    rw [cellsE_cons, show (i + 1) * 14 + j = i * 14 + j + 14 from by omega, List.getElem?_append_right (by rw [encE_len]; omega), encE_len, Nat.add_sub_cancel]
    exact ih
theorem cellsE_of : ∀ (xs : List YE) (k : Nat) (u : Value), (cellsE xs)[k]? = some u → k / 14 < xs.length ∧ (encE (ye xs (k / 14)))[k % 14]? = some u
  | [], k, u, h => by cases h
  | x :: xs, k, u, h => by
    rw [cellsE_cons] at h
    by_cases hk : k < 14
    · rw [List.getElem?_append_left (by rw [encE_len]; exact hk)] at h
      rw [Nat.div_eq_of_lt hk, Nat.mod_eq_of_lt hk, ye_zero]
      exact ⟨by simp, h⟩
    · rw [List.getElem?_append_right (by rw [encE_len]; omega), encE_len] at h
      obtain ⟨h1, h2⟩ := cellsE_of xs (k - 14) u h
      have e1 : k / 14 = (k - 14) / 14 + 1 := by omega
      have e2 : k % 14 = (k - 14) % 14 := by omega
      rw [e1, e2, ye_cons]
      exact ⟨by simp; omega, h2⟩

/-- a slice that holds these events, whatever their lists hold -/
def YSl (w : World) (v : Value) (ys : List YE) : Prop :=
  ∃ (a : Option Addr) (c : Nat), v = .slice a ys.length c ∧ ys.length ≤ c ∧ c ≤ 9223372036854775807 ∧ ((ys = [] ∧ (a = none → c = 0)) ∨ ∃ b o, a = some ⟨b, o, none⟩ ∧ b < w.heap.size ∧ ∀ i, i < ys.length → w.rangeAt b (o + i * 14) (encE (ye ys i)))
/-- the lists of these events lie in memory -/
def InL (w : World) (ys : List YE) : Prop := ∀ i, i < ys.length → VSl w (ye ys i).2.1 (ye ys i).1.a ∧ VSl w (ye ys i).2.2 (ye ys i).1.r
/-- a slice of these events -/
def ESl (w : World) (v : Value) (xs : List Ev) : Prop := ∃ ys, ys.map (·.1) = xs ∧ YSl w v ys ∧ InL w ys
theorem YSl.later {w w' : World} {v : Value} {ys : List YE} (h : YSl w v ys) (hb : Below w.heap.size w w') : YSl w' v ys := by
  obtain ⟨a, c, h1, h2, h3, h4⟩ := h
  refine ⟨a, c, h1, h2, h3, h4.imp id ?_⟩
  rintro ⟨b, o, e, hl, hc⟩
  exact ⟨b, o, e, Nat.lt_of_lt_of_le hl hb.size, fun i hi j u hj => (hb.cell (p := ⟨b, o + i * 14 + j, none⟩) hl).trans (hc i hi j u hj)⟩
theorem InL.later {w w' : World} {ys : List YE} (h : InL w ys) (hb : Below w.heap.size w w') : InL w' ys := fun i hi => ⟨(h i hi).1.later hb, (h i hi).2.later hb⟩
theorem ESl.later {w w' : World} {v : Value} {xs : List Ev} (h : ESl w v xs) (hb : Below w.heap.size w w') : ESl w' v xs := by
  obtain ⟨ys, h1, h2, h3⟩ := h
  exact ⟨ys, h1, h2.later hb, h3.later hb⟩
theorem ESl.nil (w : World) : ESl w nilS [] := ⟨[], rfl, ⟨none, 0, rfl, by simp, by simp, .inl ⟨rfl, fun _ => rfl⟩⟩, fun i hi => absurd hi (Nat.not_lt_zero i)⟩
theorem YSl.form {w : World} {v : Value} {ys : List YE} (h : YSl w v ys) : ∃ a c, v = .slice a ys.length c ∧ ys.length ≤ c ∧ c ≤ 9223372036854775807 ∧ (a = none → ys = [] ∧ c = 0) := by
  obtain ⟨a, c, hv, h1, h2, h3⟩ := h
  refine ⟨a, c, hv, h1, h2, fun ha => ?_⟩
  rcases h3 with ⟨h3, h4⟩ | ⟨b, o, h3, _⟩
  · exact ⟨h3, h4 ha⟩
  · rw [ha] at h3; cases h3
theorem YSl.block {w : World} {a : Option Addr} {n c : Nat} {ys : List YE} (h : YSl w (.slice a n c) ys) (hl : 0 < ys.length) : ∃ b o, a = some ⟨b, o, none⟩ ∧ b < w.heap.size := by
  obtain ⟨a', c', hv, _, _, h3⟩ := h
  injection hv with ha _ _
  subst ha
  rcases h3 with ⟨h3, _⟩ | ⟨b, o, h3, hb, _⟩
  · rw [h3] at hl; cases hl
  · exact ⟨b, o, h3, hb⟩
theorem YSl.at {w : World} {b o n c : Nat} {ys : List YE} (h : YSl w (.slice (some ⟨b, o, none⟩) n c) ys) {i : Nat} (hi : i < ys.length) : w.rangeAt b (o + i * 14) (encE (ye ys i)) := by
  obtain ⟨a', c', hv, _, _, h3⟩ := h
  injection hv with ha _ _
  rcases h3 with ⟨h3, _⟩ | ⟨b', o', h3, hb, hr⟩
  · rw [h3] at hi; cases hi
  · rw [← ha] at h3
    injection h3 with h3
    injection h3 with e1 e2
    subst e1 e2
    exact hr i hi
theorem ysl_cells {w : World} {ad : Addr} {n c : Nat} {ys : List YE} (h : YSl w (.slice (some ad) n c) ys) : ∀ j u, (cellsE ys)[j]? = some u → w.cell? (ad.add j) = some u := by
  intro j u hj
  obtain ⟨h1, h2⟩ := cellsE_of ys j u hj
  obtain ⟨b, o, e, _⟩ := h.block (by omega)
  injection e with e
  subst e
  have := h.at h1 _ _ h2
  rw [Addr.add_mid, show o + j = o + j / 14 * 14 + j % 14 from by omega]
  exact this
theorem map_ye (ys : List YE) (i : Nat) (h : i < ys.length) : (ys.map (·.1))[i]? = some (ye ys i).1 := by
  rw [List.getElem?_map, List.getElem?_eq_getElem h, ye_eq ys i h]; rfl

/-- a row of events that the call owns, from block B on; so are their lists -/
def OwnY (w : World) (B : Nat) (v : Value) (ys : List YE) : Prop := w.ownsRow B 47 14 v ys.length (cellsE ys)
def OwnL (w : World) (B : Nat) (ys : List YE) : Prop := ∀ i, i < ys.length → OwnV w B (ye ys i).2.1 (ye ys i).1.a ∧ OwnV w B (ye ys i).2.2 (ye ys i).1.r
theorem OwnY.nil (w : World) (B : Nat) : OwnY w B (.slice none 0 0) [] := World.ownsRow_nil _ _ _ _
theorem OwnL.nil (w : World) (B : Nat) : OwnL w B [] := fun i hi => absurd hi (Nat.not_lt_zero i)
theorem OwnY.later {w w' : World} {B : Nat} {v : Value} {ys : List YE} (h : OwnY w B v ys) (hb : Below w.heap.size w w') : OwnY w' B v ys :=
  World.ownsRow.kept h (row := none) ⟨hb.os, hb.tape, hb.output, hb.size, fun k hk _ => hb.block k hk⟩ (by cases v.ownBlock <;> simp)
theorem OwnL.later {w w' : World} {B : Nat} {ys : List YE} (h : OwnL w B ys) (hb : Below w.heap.size w w') : OwnL w' B ys := fun i hi => ⟨(h i hi).1.later hb, (h i hi).2.later hb⟩
theorem OwnL.inL {w : World} {B : Nat} {ys : List YE} (h : OwnL w B ys) : InL w ys := fun i hi => ⟨(h i hi).1.vsl, (h i hi).2.vsl⟩
theorem OwnY.ysl {w : World} {B : Nat} {v : Value} {ys : List YE} (h : OwnY w B v ys) : YSl w v ys := by
  have h' := h
  obtain ⟨h1, h2⟩ := h
  rcases h2 with ⟨rfl, h0⟩ | ⟨g, cap, cur, rfl, hb, hg, hn, hc, hs, ht⟩
  · have e : ys = [] := List.eq_nil_of_length_eq_zero h0
    subst e
    exact ⟨none, 0, rfl, by simp, by simp, .inl ⟨rfl, fun _ => rfl⟩⟩
  · unfold maxLen at hc
    refine ⟨_, cap, rfl, hn, by omega, .inr ⟨g, 0, rfl, (World.ownsRow.lt h' g rfl).2, fun i hi j u hj => ?_⟩⟩
    have q := World.ownsRow.cells h' (g := g) rfl (i * 14 + j) u (cellsE_at ys i j u hi hj)
    rw [Addr.add_mid] at q
    rw [Nat.add_assoc]
    exact q
theorem OwnY.esl {w : World} {B : Nat} {v : Value} {ys : List YE} (h : OwnY w B v ys) (hl : OwnL w B ys) : ESl w v (ys.map (·.1)) := ⟨ys, rfl, h.ysl, hl.inL⟩
theorem OwnY.lt {w : World} {B : Nat} {v : Value} {ys : List YE} (h : OwnY w B v ys) : ∀ g, v.ownBlock = some g → B ≤ g ∧ g < w.heap.size := World.ownsRow.lt h
theorem OwnY.form {w : World} {B : Nat} {v : Value} {ys : List YE} (h : OwnY w B v ys) : ∃ a c, v = .slice a ys.length c := by
  obtain ⟨a, c, hv, _⟩ := h.ysl.form; exact ⟨a, c, hv⟩
/-- rows of different kinds lie apart -/
theorem rows_apart {w : World} {B B' : Nat} {t t' : TypeId} {s s' k k' : Nat} {v v' : Value} {xs xs' : List Value} (h : w.ownsRow B t s v k xs) (h' : w.ownsRow B' t' s' v' k' xs') (ht : t ≠ t') : ∀ g, v.ownBlock = some g → v'.ownBlock ≠ some g := by
  intro g hg hg'
  rcases h.2 with ⟨rfl, _⟩ | ⟨b, cap, cur, rfl, _, hb, _⟩
  · simp [Value.ownBlock] at hg
  · rcases h'.2 with ⟨rfl, _⟩ | ⟨b', cap', cur', rfl, _, hb', _⟩
    · simp [Value.ownBlock] at hg'
    · obtain rfl : b = g := by simpa [Value.ownBlock] using hg
      obtain rfl : b' = b := by simpa [Value.ownBlock] using hg'
      have := hb.symm.trans hb'
      simp at this
      exact ht this.2
theorem OwnV.grownY {w w' : World} {B B' : Nat} {v u : Value} {ys : List YE} {xs : List Val} (h : OwnV w B u xs) (hy : OwnY w B' v ys) (hg : w.grownBy w' v.ownBlock) : OwnV w' B u xs := by
  refine World.ownsRow.kept h hg ?_
  cases hu : u.ownBlock with
  | none => simp
  | some g => exact .inr fun e => rows_apart h hy (by decide) g hu e.symm
theorem OwnL.grown {w w' : World} {B : Nat} {v : Value} {ys zs : List YE} (h : OwnL w B zs) (hy : OwnY w B v ys) (hg : w.grownBy w' v.ownBlock) : OwnL w' B zs := fun i hi => ⟨(h i hi).1.grownY hy hg, (h i hi).2.grownY hy hg⟩
theorem OwnL.snoc {w : World} {B : Nat} {ys : List YE} {y : YE} (h : OwnL w B ys) (h1 : OwnV w B y.2.1 y.1.a) (h2 : OwnV w B y.2.2 y.1.r) : OwnL w B (ys ++ [y]) := by
  intro i hi
  by_cases e : i < ys.length
  · rw [ye_left _ _ i e]; exact h i e
  · have e : i = ys.length + 0 := by simp at hi; omega
    rw [e, ye_right ys [y] 0 (by simp), ye_zero]; exact ⟨h1, h2⟩

end Go.Proofs.YtgdegbmakbfaaaaDoor
namespace Go.Proofs.YtgdegbmakbfaaaaDoor
open Go.RowKit Go.PlainAid Ln
set_option linter.unusedVariables false
set_option linter.unusedSimpArgs false

/-- an event that is none -/
def zE : Value := .agg (evC noEv nilS nilS).toArray
theorem infoE : (Tryd.prog.info? 47).map (fun i => (i.zero, i.size, i.bytes)) = some (some (.agg (evC noEv nilS nilS).toArray), 14, 168) := by kernel_rfl
theorem wpList_buildE {ops : Array Oper} {rest : List Oper} {o : Oper} {a : Act} {w : World} {Q : Exit → Act → World → Prop} (hg : o.guard = none) (x : Operand)
    (ho : o.op = .buildSlice 22 1 #[(0, x)]) (y : YE) (hx : a.eval x = .agg (encE y).toArray) (H : Nat) (hH : w.heap.size = H)
    (h : wpList Tryd.prog ops Q rest (a.put o.dst (.slice (some ⟨H, 0, none⟩) 1 1)) (w.alloc (.cells (encE y).toArray 47))) : wpList Tryd.prog ops Q (o :: rest) a w := by
  subst hH
  obtain ⟨i0, hi, hz0, hz1, hz2⟩ := info_parts infoE
  refine wpList_plain hg fun K hK => ?_
  have hf : Instr.fill (fun i => some (i * 14, 14)) ((Array.range (1 * 14)).map ((Value.agg (evC noEv nilS nilS).toArray).cells[· % (Value.agg (evC noEv nilS nilS).toArray).cells.size]!)) [(0, Value.agg (encE y).toArray)] = some (encE y).toArray := by kernel_rfl
  have hrun : (Instr.buildSlice 22 1 #[(0, Value.agg (encE y).toArray)]).run Tryd.prog w = .ok (.slice (some ⟨w.heap.size, 0, none⟩) 1 1) (w.alloc (.cells (encE y).toArray 47)) := by
    simp [Instr.buildSlice, run_underlying Tryd.underlying22, sizeOf, typeInfo, zeroValue, hi, hz0, hz1, newRow]
    simp at hf
    rw [hf]; rfl
  unfold Oper.wp execOp
  simp only [ho, Sem.run_bind, List.map_toArray, List.map_cons, List.map_nil, hx, hrun, Result.andThen_ok]
  exact hK _ _ h
theorem wp_appendE1 {o : Oper} {a : Act} {w : World} {K : Act → World → Prop} {Q : Exit → Act → World → Prop} (s x : Operand)
    (ho : o.op = .call { callee := .builtin .append, args := #[s, x], argTypes := #[22, 22] }) (B : Nat) (v : Value) (ys : List YE) (hs : a.eval s = v) (hown : OwnY w B v ys)
    (g0 : Nat) (y : YE) (hx : a.eval x = .slice (some ⟨g0, 0, none⟩) 1 1) (hu : w.rangeAt g0 0 (encE y)) (h1 : y.2.1.oneCell' = true ∧ y.2.2.oneCell' = true) (hlen : ys.length + 1 ≤ 1000000) (hbase : B ≤ w.heap.size)
    (h : ∀ g cap w', OwnY w' B (.slice (some ⟨g, 0, none⟩) (ys.length + 1) cap) (ys ++ [y]) → w.grownBy w' v.ownBlock → K (a.put o.dst (.slice (some ⟨g, 0, none⟩) (ys.length + 1) cap)) w') : o.wp Tryd.prog a w K Q := by
  obtain ⟨i0, hi, hz0, hz1, hz2⟩ := info_parts infoE
  unfold OwnY at hown h
  refine wp_append_lies _ s x 22 ho B 47 i0 (.agg (evC noEv nilS nilS).toArray) 14 168 Tryd.underlying22 hi hz0 hz1 hz2 rfl (by decide) v ys.length (cellsE ys) hs hown ⟨g0, 0, none⟩ 1 1 (encE y) hx rfl (fun j u hj => by
    rw [Addr.add_mid]; exact hu j u hj) (evC_one y.1 h1.1 h1.2) (by omega) (by unfold maxLen; omega) (by omega) hbase _ rfl ?_
  intro g cap w' hown' hgrow _ _
  refine h g cap w' ?_ hgrow
  rw [cellsE_app, List.length_append]; simpa [cellsE] using hown'
theorem wpList_appendE1 {ops : Array Oper} {rest : List Oper} {o : Oper} {a : Act} {w : World} {Q : Exit → Act → World → Prop} (hgd : o.guard = none) (s x : Operand)
    (ho : o.op = .call { callee := .builtin .append, args := #[s, x], argTypes := #[22, 22] }) (B : Nat) (v : Value) (ys : List YE) (hs : a.eval s = v) (hown : OwnY w B v ys)
    (g0 : Nat) (y : YE) (hx : a.eval x = .slice (some ⟨g0, 0, none⟩) 1 1) (hu : w.rangeAt g0 0 (encE y)) (h1 : y.2.1.oneCell' = true ∧ y.2.2.oneCell' = true) (hlen : ys.length + 1 ≤ 1000000) (hbase : B ≤ w.heap.size)
    (h : ∀ g cap w', OwnY w' B (.slice (some ⟨g, 0, none⟩) (ys.length + 1) cap) (ys ++ [y]) → w.grownBy w' v.ownBlock → wpList Tryd.prog ops Q rest (a.put o.dst (.slice (some ⟨g, 0, none⟩) (ys.length + 1) cap)) w') : wpList Tryd.prog ops Q (o :: rest) a w :=
  wpList_plain hgd fun _ hK => wp_appendE1 s x ho B v ys hs hown g0 y hx hu h1 hlen hbase fun g cap w' h2 h3 => hK _ _ (h g cap w' h2 h3)
/-- append of a row of events, nil or not, to one that the call owns, at an operation -/
theorem wp_appendEE {o : Oper} {a : Act} {w : World} {K : Act → World → Prop} {Q : Exit → Act → World → Prop} (s x : Operand)
    (ho : o.op = .call { callee := .builtin .append, args := #[s, x], argTypes := #[22, 22] }) (B : Nat) (v : Value) (ys : List YE) (hs : a.eval s = v) (hown : OwnY w B v ys)
    (u : Value) (zs : List YE) (hx : a.eval x = u) (hu : YSl w u zs) (h1 : ∀ i, i < zs.length → (ye zs i).2.1.oneCell' = true ∧ (ye zs i).2.2.oneCell' = true) (hp : 0 < zs.length) (hlen : ys.length + zs.length ≤ 1000000) (hbase : B ≤ w.heap.size)
    (h : ∀ v' w', OwnY w' B v' (ys ++ zs) → w.grownBy w' v.ownBlock → K (a.put o.dst v') w') : o.wp Tryd.prog a w K Q := by
  obtain ⟨i0, hi, hz0, hz1, hz2⟩ := info_parts infoE
  obtain ⟨au, cu, hv, _, _, _⟩ := hu.form
  subst hv
  obtain ⟨b, o', e, _⟩ := hu.block hp
  subst e
  unfold OwnY at hown h
  refine wp_append_lies _ s x 22 ho B 47 i0 (.agg (evC noEv nilS nilS).toArray) 14 168 Tryd.underlying22 hi hz0 hz1 hz2 rfl (by decide) v ys.length (cellsE ys) hs hown ⟨b, o', none⟩ zs.length cu (cellsE zs) hx (cellsE_len zs) (ysl_cells hu) (cellsE_one zs h1) hp (by unfold maxLen; omega) (by omega) hbase _ rfl ?_
  intro g cap w' hown' hgrow _ _
  refine h _ w' ?_ hgrow
  rw [cellsE_app, List.length_append]; exact hown'
/-- .. the row to append nil where it is empty -/
theorem wp_appendEN {o : Oper} {a : Act} {w : World} {K : Act → World → Prop} {Q : Exit → Act → World → Prop} (s x : Operand)
    (ho : o.op = .call { callee := .builtin .append, args := #[s, x], argTypes := #[22, 22] }) (B : Nat) (v : Value) (ys : List YE) (hs : a.eval s = v) (hown : OwnY w B v ys)
    (u : Value) (zs : List YE) (hx : a.eval x = u) (hu : YSl w u zs) (h1 : ∀ i, i < zs.length → (ye zs i).2.1.oneCell' = true ∧ (ye zs i).2.2.oneCell' = true) (hnil : zs.length = 0 → u = .slice none 0 0) (hlen : ys.length + zs.length ≤ 1000000) (hbase : B ≤ w.heap.size)
    (h : ∀ v' w', OwnY w' B v' (ys ++ zs) → w.grownBy w' v.ownBlock → K (a.put o.dst v') w') : o.wp Tryd.prog a w K Q := by
  rcases Nat.eq_zero_or_pos zs.length with e | e
  · have hu0 := hnil e
    obtain rfl : zs = [] := List.eq_nil_of_length_eq_zero e
    obtain ⟨i0, hi, _, _, _⟩ := info_parts infoE
    have hown' := hown
    unfold OwnY at hown
    have hrun := run_append_owned_none (P := Tryd.prog) (w := w) B 22 o.type 47 i0 14 Tryd.underlying22 hi v ys.length (cellsE ys) hown
    unfold Oper.wp
    simp [execOp, ho, resolve, invoke, builtin, hs, hx, hu0, hrun, Result.andThen]
    exact h v w (by rw [List.append_nil]; exact hown') ⟨rfl, rfl, rfl, Nat.le_refl _, fun _ _ _ => rfl⟩
  · exact wp_appendEE s x ho B v ys hs hown u zs hx hu h1 e hlen hbase h
/-- a guarded operation that is wanted, by its own law -/
theorem wpList_wanted {P : Program} {ops : Array Oper} {Q : Exit → Act → World → Prop} {a : Act} {w : World} {rest : List Oper} {o : Oper} (hw : Region.wanted o (yielded ops a.tmps) = true) (h : o.wp P a w (wpList P ops Q rest) Q) : wpList P ops Q (o :: rest) a w := by
  unfold wpList
  rw [if_pos hw]
  exact .inl h
/-- an empty row, laid -/
theorem own_empty (w : World) (B : Nat) (hB : B ≤ w.heap.size) : OwnY (w.alloc (.cells #[] 47)) B (.slice (some ⟨w.heap.size, 0, none⟩) 0 0) [] :=
  ⟨rfl, .inr ⟨w.heap.size, 0, #[], rfl, hB, World.alloc_heap_new w _, Nat.le_refl _, Nat.zero_le _, rfl, rfl⟩⟩
theorem InL.app {w : World} {ys zs : List YE} (h : InL w ys) (k : InL w zs) : InL w (ys ++ zs) := by
  intro i hi
  by_cases e : i < ys.length
  · rw [ye_left _ _ i e]; exact h i e
  · obtain ⟨j, rfl⟩ : ∃ j, i = ys.length + j := ⟨i - ys.length, by omega⟩
    have hj : j < zs.length := by rw [List.length_append] at hi; omega
    rw [ye_right ys zs j hj]; exact k j hj
theorem vsl_oneC {w : World} {v : Value} {xs : List Val} (h : VSl w v xs) : v.oneCell' = true := by obtain ⟨a, c, rfl, _⟩ := h; rfl
theorem InL.one {w : World} {ys : List YE} (h : InL w ys) : ∀ i, i < ys.length → (ye ys i).2.1.oneCell' = true ∧ (ye ys i).2.2.oneCell' = true := fun i hi => ⟨vsl_oneC (h i hi).1, vsl_oneC (h i hi).2⟩
end Go.Proofs.YtgdegbmakbfaaaaDoor
