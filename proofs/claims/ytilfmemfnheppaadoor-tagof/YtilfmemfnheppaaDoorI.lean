/- A digest in the making, as it lies in memory, and what writing to it does. Conditions: the table holds the rounds' numbers; no more than a million bytes are written. -/
import Derived.Test.YtilfmemfnheppaaDoorH
import Derived.Laws.CopyRow
namespace Go.Proofs.YtilfmemfnheppaaDoor
open Go.RowKit Hx
set_option linter.unusedVariables false

/-- what lies in a Hash: eight words, 64 bytes, a length -/
def hcells (st blk : List Int) (n : Int) : List Value := cellsK .u32 st ++ (cellsK .u8 blk ++ [.int .u64 n])
def HRow (w : World) (g : Nat) (st blk : List Int) (n : Int) : Prop := (∃ T, w.heap[g]? = some (.cells (hcells st blk n).toArray T (0, 0))) ∧ st.length = 8 ∧ blk.length = 64
theorem hcells_len {st blk : List Int} {n : Int} (h1 : st.length = 8) (h2 : blk.length = 64) : (hcells st blk n).length = 73 := by simp [hcells, cellsK_len, h1, h2]

section
variable {w w' : World} {g : Nat} {st blk : List Int} {n : Int}
theorem HRow.lt (h : HRow w g st blk n) : g < w.heap.size := by
  obtain ⟨⟨T, h⟩, _⟩ := h; exact (Array.getElem?_eq_some_iff.1 h).1
theorem HRow.below {B : Nat} (h : HRow w g st blk n) (hb : Below B w w') (hg : g < B) : HRow w' g st blk n := by
  obtain ⟨⟨T, h⟩, h1⟩ := h; exact ⟨⟨T, (hb.block g hg).trans h⟩, h1⟩
theorem HRow.later (h : HRow w g st blk n) (hb : Below w.heap.size w w') : HRow w' g st blk n := h.below hb h.lt
theorem HRow.only {g' : Nat} (h : HRow w g st blk n) (hb : Only g' w w') (hg : g ≠ g') : HRow w' g st blk n := by
  have := h.lt
  obtain ⟨⟨T, h⟩, h1⟩ := h; exact ⟨⟨T, (hb.block g this hg).trans h⟩, h1⟩
theorem HRow.at (h : HRow w g st blk n) (j : Nat) : w.cell? ⟨g, j, none⟩ = (hcells st blk n)[j]? := by
  obtain ⟨⟨T, h⟩, _⟩ := h
  rw [cell_of_row w g j _ T _ h]; simp
theorem HRow.froz (h : HRow w g st blk n) (j : Nat) : w.frozen? ⟨g, j, none⟩ = false := by
  obtain ⟨⟨T, h⟩, _⟩ := h; exact frozen_of_row w g j _ T h
theorem HRow.len (h : HRow w g st blk n) : w.cell? ⟨g, 72, none⟩ = some (.int .u64 n) := by
  rw [h.at 72]
  unfold hcells
  rw [List.getElem?_append_right (by rw [cellsK_len, h.2.1]; omega), cellsK_len, h.2.1, List.getElem?_append_right (by rw [cellsK_len, h.2.2]; omega), cellsK_len, h.2.2]
  rfl
theorem HRow.byte (h : HRow w g st blk n) (i : Nat) (hi : i < 64) : w.cell? ⟨g, 8 + i, none⟩ = some (.int .u8 (nth blk i)) := by
  rw [h.at]
  unfold hcells
  rw [List.getElem?_append_right (by rw [cellsK_len, h.2.1]; omega), cellsK_len, h.2.1, List.getElem?_append_left (by rw [cellsK_len, h.2.2]; omega), show 8 + i - 8 = i by omega, cellsK_at _ _ _ (by rw [h.2.2]; exact hi)]
theorem HRow.words (h : HRow w g st blk n) : w.rangeAt g 0 (cellsK .u32 st) := by
  intro j v hv
  have hj : j < (cellsK .u32 st).length := (List.getElem?_eq_some_iff.1 hv).1
  rw [Nat.zero_add, h.at]
  unfold hcells
  rw [List.getElem?_append_left hj]; exact hv
theorem HRow.bytes (h : HRow w g st blk n) : w.rangeAt g 8 (cellsK .u8 blk) := by
  intro j v hv
  have hj : j < (cellsK .u8 blk).length := (List.getElem?_eq_some_iff.1 hv).1
  rw [h.at]
  unfold hcells
  rw [List.getElem?_append_right (by rw [cellsK_len, h.2.1]; omega), cellsK_len, h.2.1, show 8 + j - 8 = j by omega, List.getElem?_append_left hj]; exact hv
theorem HRow.setByte (h : HRow w g st blk n) (i : Nat) (hi : i < 64) (c : Int) : HRow (w.setCell ⟨g, 8 + i, none⟩ (.int .u8 c)) g st (blk.set i c) n := by
  obtain ⟨⟨T, hg⟩, h1, h2⟩ := h
  refine ⟨⟨T, ?_⟩, h1, by simp [h2]⟩
  rw [setCell_eq_setRow w g (8 + i) _ T _ _ hg, setRow_heap w g _ _ T _ hg]
  congr 2
  rw [List.setIfInBounds_toArray]
  congr 1
  unfold hcells
  rw [List.set_append, if_neg (by rw [cellsK_len, h1]; omega), cellsK_len, h1, show 8 + i - 8 = i by omega, List.set_append, if_pos (by rw [cellsK_len, h2]; exact hi)]
  simp [cellsK]
theorem HRow.setLen (h : HRow w g st blk n) (m : Int) : HRow (w.setCell ⟨g, 72, none⟩ (.int .u64 m)) g st blk m := by
  obtain ⟨⟨T, hg⟩, h1, h2⟩ := h
  refine ⟨⟨T, ?_⟩, h1, h2⟩
  rw [setCell_eq_setRow w g 72 _ T _ _ hg, setRow_heap w g _ _ T _ hg]
  congr 2
  rw [List.setIfInBounds_toArray]
  congr 1
  unfold hcells
  rw [List.set_append, if_neg (by rw [cellsK_len, h1]; omega), cellsK_len, h1, List.set_append, if_neg (by rw [cellsK_len, h2]; omega), cellsK_len, h2]
  rfl
end

section
variable {P : Program} {ops : Array Oper} {rest : List Oper} {o : Oper} {a : Act} {w : World} {Q : Exit → Act → World → Prop}
/-- the eight words are written -/
theorem wp_storeH (ty : TypeId) (x y : Operand) (g : Nat) (st blk st' : List Int) (n : Int) (hi : (P.info? ty).map (·.size) = some st'.length)
    (hop : o.guard = none ∧ o.op = .store ty x y) (hx : a.eval x = .pointer (some ⟨g, 0, none⟩)) (hy : a.eval y = arr .u32 st') (hl : st'.length = 8) (hr : HRow w g st blk n)
    (hK : ∀ w', HRow w' g st' blk n → Only g w w' → wpList P ops Q rest (a.put o.dst undef) w') : wpList P ops Q (o :: rest) a w := by
  obtain ⟨⟨T, hg⟩, h1, h2⟩ := hr
  have hrun : (storeVar ty ⟨g, 0, none⟩ (arr .u32 st')).run P w = .ok () (w.setRow g (hcells st' blk n).toArray) := by
    have hst := run_storeCells_at P g 0 T (cellsK .u32 st') 0 (hcells st blk n).toArray w hg (by simp [hcells_len h1 h2, cellsK_len, hl]) (cellsK_one _ _)
    have e : (hcells st blk n).toArray.toList.take (0 + 0) ++ cellsK .u32 st' ++ (hcells st blk n).toArray.toList.drop (0 + 0 + (cellsK .u32 st').length) = hcells st' blk n := by
      simp only [Nat.zero_add, List.take_zero, List.nil_append]
      unfold hcells
      rw [List.drop_append_of_le_length (by simp [cellsK_len, hl, h1]), List.drop_eq_nil_of_le (by simp [cellsK_len, hl, h1])]
      rfl
    rw [e] at hst
    cases hq : P.info? ty with
    | none => simp [hq] at hi
    | some i =>
      have hs : i.size = 8 := by simp [hq] at hi; omega
      simp [storeVar, sizeOf, typeInfo, hq, Value.cells, arr, hs, hst, cellsK_len, hl]
  refine wpList_plain hop.1 fun K hK' => ?_
  unfold Oper.wp execOp
  simp only [hop.2, hx, hy, Instr.storeAt, Instr.sureAddr, Sem.run_bind, Sem.run_pure, Result.andThen_ok, hrun]
  exact hK' _ _ (hK _ ⟨⟨T, setRow_heap w g _ _ T _ hg⟩, hl, h2⟩ (only_setRow w g _))

/-- a range is read, as a step of a region that draws its order -/
theorem still_loadM {Q : Act → Prop} (ty : TypeId) (x : Operand) (g off : Nat) (k : IntKind) (xs : List Int) (d : TypeDesc)
    (hu : P.underlying ty = some d) (hd : d.isRow = true) (hi : (P.info? ty).map (·.size) = some xs.length)
    (hop : o.guard = none ∧ o.op = .load ty x) (hx : a.eval x = .pointer (some ⟨g, off, none⟩)) (hr : w.rangeAt g off (cellsK k xs))
    (hK : wpStill P ops w Q rest (a.put o.dst (arr k xs))) : wpStill P ops w Q (o :: rest) a := by
  have hrun := run_loadAt_mid (P := P) w g off ty (cellsK k xs) d hr hu hd (by rw [cellsK_len]; exact hi)
  unfold wpStill
  rw [if_pos (by simp [Region.wanted, hop.1])]
  unfold Oper.still execOp
  simp only [hop.2, hx, Sem.run_bind, hrun, Result.andThen_ok, Sem.run_pure, Oper.stillUpon]
  exact ⟨trivial, hK⟩
/-- a range is read -/
theorem wp_loadM (ty : TypeId) (x : Operand) (g off : Nat) (k : IntKind) (xs : List Int) (d : TypeDesc) (hu : P.underlying ty = some d) (hd : d.isRow = true) (hi : (P.info? ty).map (·.size) = some xs.length)
    (hop : o.guard = none ∧ o.op = .load ty x) (hx : a.eval x = .pointer (some ⟨g, off, none⟩)) (hr : w.rangeAt g off (cellsK k xs))
    (hK : wpList P ops Q rest (a.put o.dst (arr k xs)) w) : wpList P ops Q (o :: rest) a w :=
  wpList_load_mid hop.1 ty x hop.2 g off hx (cellsK k xs) d hr hu hd (by rw [cellsK_len]; exact hi) hK
end

/-- the words behind the first k blocks of a text -/
def tn (l : List Int) : Nat → List Int
  | 0 => startP
  | k + 1 => turn (tn l k) ((l.drop (64 * k)).take 64)
theorem tn_st (l : List Int) (k : Nat) : St (tn l k) := by
  induction k with
  | zero => exact startP_st
  | succ k ih => exact turn_st ih
theorem tn_app (l m : List Int) (k : Nat) (h : 64 * k ≤ l.length) : tn (l ++ m) k = tn l k := by
  induction k with
  | zero => rfl
  | succ k ih =>
    unfold tn
    rw [ih (by omega), List.drop_append_of_le_length (by omega), List.take_append_of_le_length (by simp; omega)]

/-- bytes -/
def By (l : List Int) : Prop := ∀ x ∈ l, 0 ≤ x ∧ x ≤ 255
/-- in the world w the Hash at block g has had the bytes l -/
def Has (w : World) (g : Nat) (l : List Int) : Prop :=
  ∃ blk, HRow w g (tn l (l.length / 64)) blk l.length ∧ By blk ∧ blk.take (l.length % 64) = l.drop (64 * (l.length / 64)) ∧ By l

theorem take_set (b : List Int) (i : Nat) (c : Int) (h : i < b.length) : (b.set i c).take (i + 1) = b.take i ++ [c] := by
  rw [List.take_succ_eq_append_getElem (by simpa using h), List.take_set_of_le (Nat.le_refl i)]
  simp
theorem By.set {b : List Int} (h : By b) (i : Nat) {c : Int} (hc : 0 ≤ c ∧ c ≤ 255) : By (b.set i c) := by
  intro x hx
  rcases List.mem_or_eq_of_mem_set hx with hx | rfl
  · exact h x hx
  · exact hc
end Go.Proofs.YtilfmemfnheppaaDoor
