/- Blocks of cells; a world that is another one but for two blocks. No conditions. Events; an event as it lies in memory; regions that draw their order. No conditions. A right event: plain definitions. No conditions. A value and a list of values that came in, opened: cells, numbers, sizes. No conditions. -/
import Derived.Test.YtpboleifllcehaaDoorBT
import Derived.Test.YtpboleifllcehaaDoorLX
import Derived.Deep.MidRow
import Derived.RangeFuncRecord
import Derived.Laws.CopyRow
import Derived.OrdersHeld
import Derived.Test.YtpboleifllcehaaDoorBD
import Derived.Lib.SmallJoins
import Derived.Deep.Slices
import Derived.Deep.Strs
import Derived.ProofKit
import Derived.OpenShut
import Derived.SizedLaws
namespace Go.Proofs.YtpboleifllcehaaDoor
open Go.RowKit Go.PlainAid Ln
set_option linter.unusedVariables false

/-- w' is w but for the blocks p and q, and for new blocks -/
structure Oth (p q : Nat) (w w' : World) : Prop where
  os : w'.os = w.os
  tape : w'.tape = w.tape
  output : w'.output = w.output
  size : w.heap.size ≤ w'.heap.size
  block : ∀ j, j < w.heap.size → j ≠ p → j ≠ q → w'.heap[j]? = w.heap[j]?
section
variable {p q : Nat} {a b c w w' w0 : World}
theorem Oth.refl (p q : Nat) (w : World) : Oth p q w w := ⟨rfl, rfl, rfl, Nat.le_refl _, fun _ _ _ _ => rfl⟩
theorem Oth.trans (h : Oth p q a b) (k : Oth p q b c) : Oth p q a c :=
  ⟨k.os.trans h.os, k.tape.trans h.tape, k.output.trans h.output, Nat.le_trans h.size k.size, fun j hj h1 h2 => (k.block j (Nat.lt_of_lt_of_le hj h.size) h1 h2).trans (h.block j hj h1 h2)⟩
theorem Oth.of_below (h : Below w.heap.size w w') : Oth p q w w' := ⟨h.os, h.tape, h.output, h.size, fun j hj _ _ => h.block j hj⟩
theorem Oth.mono (h : Oth p p w w') : Oth p q w w' := ⟨h.os, h.tape, h.output, h.size, fun j hj h1 _ => h.block j hj h1 h1⟩
theorem Oth.mono' (h : Oth q q w w') : Oth p q w w' := ⟨h.os, h.tape, h.output, h.size, fun j hj _ h1 => h.block j hj h1 h1⟩
theorem Oth.below {B : Nat} (h : Oth p q w w') (h1 : B ≤ p) (h2 : B ≤ q) (h3 : B ≤ w.heap.size) : Below B w w' :=
  ⟨h.os, h.tape, h.output, h.size, fun j hj => h.block j (by omega) (by omega) (by omega)⟩
theorem below_oth {B : Nat} (k : Below B w0 w) (h : Oth p q w w') (h1 : B ≤ p) (h2 : B ≤ q) (h3 : B ≤ w.heap.size) : Below B w0 w' := k.trans (h.below h1 h2 h3)
theorem Oth.alloc (h : Oth p q w w') (o : Obj) : Oth p q w (w'.alloc o) := h.trans (.of_below (below_more (Below.refl _ _) o))
theorem Oth.step {g : Nat} (h : Oth p q a b) (k : Oth g g b c) (hg : a.heap.size ≤ g) : Oth p q a c :=
  ⟨k.os.trans h.os, k.tape.trans h.tape, k.output.trans h.output, Nat.le_trans h.size k.size, fun j hj h1 h2 => (k.block j (Nat.lt_of_lt_of_le hj h.size) (by omega) (by omega)).trans (h.block j hj h1 h2)⟩
theorem Oth.step2 (h : Oth p p a b) (k : Oth p q b c) (hq : a.heap.size ≤ q) : Oth p p a c :=
  ⟨k.os.trans h.os, k.tape.trans h.tape, k.output.trans h.output, Nat.le_trans h.size k.size, fun j hj h1 h2 => (k.block j (Nat.lt_of_lt_of_le hj h.size) h1 (by omega)).trans (h.block j hj h1 h2)⟩
theorem Oth.drew (h : Oth p q w w') : Oth p q w { w' with drawn := w'.drawn + 1 } := ⟨h.os, h.tape, h.output, h.size, h.block⟩
theorem oth_set (p : Nat) (w : World) (i : Nat) (v : Value) : Oth p p w (w.setCell ⟨p, i, none⟩ v) :=
  ⟨rfl, rfl, rfl, by simp [World.setCell], fun j _ hj _ => heap_setCell_other w ⟨p, i, none⟩ j v hj⟩
theorem oth_setRow (p : Nat) (w : World) (cs : Array Value) : Oth p p w (w.setRow p cs) :=
  ⟨rfl, rfl, rfl, by simp, fun j _ hj _ => setRow_other w p j cs hj⟩
end

/-- a block of cells -/
def Blk (w : World) (B : Nat) (c : List Value) (t : TypeId) : Prop := w.heap[B]? = some (.cells c.toArray t (0, 0))
section
variable {w w' : World} {B : Nat} {c : List Value} {t : TypeId}
theorem Blk.lt (h : Blk w B c t) : B < w.heap.size := (Array.getElem?_eq_some_iff.1 h).1
theorem Blk.later (h : Blk w B c t) (hb : Below w.heap.size w w') : Blk w' B c t := (hb.block B h.lt).trans h
theorem Blk.oth {p q : Nat} (h : Blk w B c t) (ho : Oth p q w w') (h1 : B ≠ p) (h2 : B ≠ q) : Blk w' B c t := (ho.block B h.lt h1 h2).trans h
theorem Blk.new (w : World) (c : List Value) (t : TypeId) : Blk (w.alloc (.cells c.toArray t)) w.heap.size c t := World.alloc_heap_new w _
theorem Blk.alloc (h : Blk w B c t) (o : Obj) : Blk (w.alloc o) B c t := h.later (below_more (Below.refl _ _) o)
theorem Blk.drew (h : Blk w B c t) : Blk { w with drawn := w.drawn + 1 } B c t := h
theorem Blk.cell (h : Blk w B c t) (i : Nat) (v : Value) (hv : c[i]? = some v) : w.cell? ⟨B, i, none⟩ = some v := by
  rw [cell_of_row w B i _ t (0, 0) h]; simpa using hv
theorem Blk.froz (h : Blk w B c t) (i : Nat) : w.frozen? ⟨B, i, none⟩ = false := frozen_of_row w B i _ t h
theorem Blk.set (h : Blk w B c t) (i : Nat) (v : Value) : Blk (w.setCell ⟨B, i, none⟩ v) B (c.set i v) t := by
  show (w.setCell ⟨B, i, none⟩ v).heap[B]? = _
  rw [setCell_eq_setRow w B i _ t _ _ h, setRow_heap w B _ _ t _ h]
  simp
theorem Blk.range (h : Blk w B c t) (o : Nat) (vs : List Value) (hv : ∀ j v, vs[j]? = some v → c[o + j]? = some v) : w.rangeAt B o vs := fun j v hj => h.cell (o + j) v (hv j v hj)
theorem Blk.all (h : Blk w B c t) : w.rangeAt B 0 c := h.range 0 c (fun j v hj => by rw [Nat.zero_add]; exact hj)
theorem Blk.there (h : Blk w B c t) (o n : Nat) (hn : o + n ≤ c.length) : w.there B o n := fun j hj => by
  refine ⟨?_, h.froz _⟩
  rw [h.cell (o + j) (c[o + j]'(by omega)) (List.getElem?_eq_getElem _)]; rfl
theorem Blk.not_row (h : Blk w B c t) {e : TypeId} (hte : t ≠ e) {base size k : Nat} {v : Value} {xs : List Value} (hr : w.ownsRow base e size v k xs) : some B ≠ v.ownBlock := by
  rcases hr.2 with ⟨rfl, _⟩ | ⟨g, cap, cur, rfl, _, hgb, _⟩
  · simp [Value.ownBlock]
  · intro e'
    obtain rfl : B = g := by simpa [Value.ownBlock] using e'
    have := (show w.heap[B]? = _ from h).symm.trans hgb
    simp at this
    exact hte this.2
theorem Blk.kept {row : Option Nat} (h : Blk w B c t) (hg : w.grownBy w' row) (hne : some B ≠ row) : Blk w' B c t := (hg.block B h.lt hne).trans h
end

section
variable {P : Program} {ops : Array Oper} {rest : List Oper} {o : Oper} {a : Act} {w : World} {Q : Exit → Act → World → Prop}
/-- a variable of several cells within a block is written -/
theorem run_storeB (ty : TypeId) (g off : Nat) (vs c : List Value) (t : TypeId) (hg : Blk w g c t) (hi : (P.info? ty).map (·.size) = some vs.length) (hl : off + vs.length ≤ c.length) (h1 : ∀ v ∈ vs, v.oneCell' = true) :
    (storeVar ty ⟨g, off, none⟩ (.agg vs.toArray)).run P w = .ok () (w.setRow g (c.take off ++ vs ++ c.drop (off + vs.length)).toArray) := by
  have hst := run_storeCells_at P g off t vs 0 c.toArray w hg (by simpa using hl) h1
  cases hq : P.info? ty with
  | none => simp [hq] at hi
  | some i =>
    have hs : i.size = vs.length := by simp [hq] at hi; omega
    simp [storeVar, sizeOf, typeInfo, hq, Value.cells, hs]
    simpa using hst
theorem wp_storeB (ty : TypeId) (x y : Operand) (g off : Nat) (vs c : List Value) (t : TypeId) (hi : (P.info? ty).map (·.size) = some vs.length) (hl : off + vs.length ≤ c.length) (h1 : ∀ v ∈ vs, v.oneCell' = true)
    (hop : o.guard = none ∧ o.op = .store ty x y) (hx : a.eval x = .pointer (some ⟨g, off, none⟩)) (hy : a.eval y = .agg vs.toArray) (hg : Blk w g c t)
    (hK : ∀ w', Blk w' g (c.take off ++ vs ++ c.drop (off + vs.length)) t → Oth g g w w' → wpList P ops Q rest (a.put o.dst undef) w') : wpList P ops Q (o :: rest) a w := by
  refine wpList_plain hop.1 fun K hK' => ?_
  unfold Oper.wp execOp
  simp only [hop.2, hx, hy, Instr.storeAt, Instr.sureAddr, Sem.run_bind, Sem.run_pure, Result.andThen_ok, run_storeB ty g off vs c t hg hi hl h1]
  exact hK' _ _ (hK _ (setRow_heap w g _ _ t _ hg) (oth_setRow g w _))
/-- a variable of one cell within a block is written -/
theorem wpo_storeC {K : Act → World → Prop} (ty : TypeId) (x y : Operand) (g off : Nat) (v : Value) (c : List Value) (t : TypeId) (hi : (P.info? ty).map (·.size) = some 1) (hl : off < c.length) (h1 : v.oneCell' = true) (hc : v.cells = #[v])
    (hop : o.op = .store ty x y) (hx : a.eval x = .pointer (some ⟨g, off, none⟩)) (hy : a.eval y = v) (hg : Blk w g c t)
    (hK : ∀ w', Blk w' g (c.set off v) t → Oth g g w w' → K (a.put o.dst undef) w') : o.wp P a w K Q := by
  have hst := run_storeCells_at P g off t [v] 0 c.toArray w hg (by simp; omega) (by simpa using h1)
  have hrun : (storeVar ty ⟨g, off, none⟩ v).run P w = .ok () (w.setRow g (c.set off v).toArray) := by
    have e : c.take off ++ [v] ++ c.drop (off + 1) = c.set off v := by
      rw [List.set_eq_take_append_cons_drop, if_pos hl, List.append_assoc]; rfl
    cases hq : P.info? ty with
    | none => simp [hq] at hi
    | some i =>
      have hs : i.size = 1 := by simp [hq] at hi; omega
      simp [storeVar, sizeOf, typeInfo, hq, hc, hs]
      rw [← e]
      simpa using hst
  unfold Oper.wp execOp
  simp only [hop, hx, hy, Instr.storeAt, Instr.sureAddr, Sem.run_bind, Sem.run_pure, Result.andThen_ok, hrun]
  exact hK _ (setRow_heap w g _ _ t _ hg) (oth_setRow g w _)
theorem wp_storeC (ty : TypeId) (x y : Operand) (g off : Nat) (v : Value) (c : List Value) (t : TypeId) (hi : (P.info? ty).map (·.size) = some 1) (hl : off < c.length) (h1 : v.oneCell' = true) (hc : v.cells = #[v])
    (hop : o.guard = none ∧ o.op = .store ty x y) (hx : a.eval x = .pointer (some ⟨g, off, none⟩)) (hy : a.eval y = v) (hg : Blk w g c t)
    (hK : ∀ w', Blk w' g (c.set off v) t → Oth g g w w' → wpList P ops Q rest (a.put o.dst undef) w') : wpList P ops Q (o :: rest) a w :=
  wpList_plain hop.1 fun K hK' => wpo_storeC ty x y g off v c t hi hl h1 hc hop.2 hx hy hg fun w' b o' => hK' _ _ (hK w' b o')
/-- a variable of several cells within a block is read -/
theorem wp_loadB (ty : TypeId) (x : Operand) (g off : Nat) (vs c : List Value) (t : TypeId) (d : TypeDesc) (hu : P.underlying ty = some d) (hd : d.isRow = true) (hi : (P.info? ty).map (·.size) = some vs.length)
    (hop : o.guard = none ∧ o.op = .load ty x) (hx : a.eval x = .pointer (some ⟨g, off, none⟩)) (hg : Blk w g c t) (hv : ∀ j v, vs[j]? = some v → c[off + j]? = some v)
    (hK : wpList P ops Q rest (a.put o.dst (.agg vs.toArray)) w) : wpList P ops Q (o :: rest) a w :=
  wpList_load_mid hop.1 ty x hop.2 g off hx vs d (hg.range off vs hv) hu hd hi hK
end
/-- a function whose result lies in a block of its own -/
theorem ret_blk {P : Program} {fn : Func} {R : Ending → World → Prop} {a : Act} {w : World} {p : Tmp} {ty : TypeId} (h : fn.results = #[.cell p ty]) (g : Nat) (c : List Value) (t : TypeId) (d : TypeDesc)
    (hu : P.underlying ty = some d) (hd : d.isRow = true) (hi : (P.info? ty).map (·.size) = some c.length)
    (hp : a.tmps.getD p undef = .pointer (some ⟨g, 0, none⟩)) (hr : Blk w g c t) (hdef : a.defers = []) (hR : R (.returned (.agg c.toArray)) w) : bodyPost P fn R .ret a w := by
  refine bodyPost_ret_by ?_ hdef hR
  refine results_cell_row h a.tmps w g t c.toArray (0, 0) d hp hr hu ?_ (by simpa using hi)
  cases d <;> simp_all [TypeDesc.isRow]

theorem infoS1 : (Tryd.prog.info? 9).map (·.size) = some 1 := by kernel_rfl
end Go.Proofs.YtpboleifllcehaaDoor
namespace Go.Proofs.YtpboleifllcehaaDoor
open Go.RowKit Go.PlainAid Ln
set_option linter.unusedVariables false
set_option linter.unusedSimpArgs false

/-- an event: time, client, type, model, key, what is done, what is handed in, what comes out, the note -/
structure Ev where
  t : Int
  c : Val
  y : Int
  m : Int
  k : Val
  o : Int
  a : List Val
  r : List Val
  nd : Bool
  n : ByteArray
def noEv : Ev := ⟨0, (0, 0, noB), 0, 0, (0, 0, noB), 0, [], [], false, noB⟩
/-- its cells; va and vr: the two slices -/
def evC (x : Ev) (va vr : Value) : List Value :=
  [.int .i64 x.t, .int .i64 x.c.1, .int .i64 x.c.2.1, .string x.c.2.2, .int .i64 x.y, .int .i64 x.m, .int .i64 x.k.1, .int .i64 x.k.2.1, .string x.k.2.2, .int .i64 x.o, va, vr, .bool x.nd, .string x.n]
theorem evC_len (x : Ev) (va vr : Value) : (evC x va vr).length = 14 := rfl
theorem evC_one (x : Ev) {va vr : Value} (h1 : va.oneCell' = true) (h2 : vr.oneCell' = true) : ∀ v ∈ evC x va vr, v.oneCell' = true := by
  intro v hv; simp only [evC, List.mem_cons, List.not_mem_nil, or_false] at hv
  rcases hv with rfl | rfl | rfl | rfl | rfl | rfl | rfl | rfl | rfl | rfl | rfl | rfl | rfl | rfl <;> first | rfl | assumption
/-- nothing yet -/
abbrev nilS : Value := .slice none 0 0

theorem Oth.grown {p : Nat} {w w' : World} (h : Oth p p w w') : w.grownBy w' (some p) :=
  ⟨h.os, h.tape, h.output, h.size, fun j hj hn => h.block j hj (fun e => hn (by rw [e])) (fun e => hn (by rw [e]))⟩
theorem OwnV.oth {w w' : World} {B p : Nat} {v : Value} {xs : List Val} {c : List Value} {t : TypeId} (h : OwnV w B v xs) (ho : Oth p p w w') (hb : Blk w p c t) (ht : t ≠ 25) : OwnV w' B v xs :=
  World.ownsRow.kept h ho.grown (.inr (hb.not_row ht h).symm)
theorem oth_grown {p q : Nat} {a b c : World} {B : Nat} {v : Value} {xs : List Val} (h : Oth p q a b) (hv : OwnV b B v xs) (hg : b.grownBy c v.ownBlock) (hB : a.heap.size ≤ B) : Oth p q a c := by
  refine ⟨hg.os.trans h.os, hg.tape.trans h.tape, hg.output.trans h.output, Nat.le_trans h.size hg.size, fun j hj h1 h2 => ?_⟩
  refine (hg.block j (Nat.lt_of_lt_of_le hj h.size) (fun e => ?_)).trans (h.block j hj h1 h2)
  have := (hv.lt j e.symm).1
  omega
theorem sizeV : (Tryd.prog.info? 25).map (·.size) = some 3 := by kernel_rfl
/-- a value's cells as a list -/
abbrev vls (k n : Int) (s : ByteArray) : List Value := [.int .i64 k, .int .i64 n, .string s]
theorem vls_one (k n : Int) (s : ByteArray) : ∀ v ∈ vls k n s, v.oneCell' = true := by
  intro v hv; simp only [vls, List.mem_cons, List.not_mem_nil, or_false] at hv; rcases hv with rfl | rfl | rfl <;> rfl
/-- a value in a new block, as a row of one -/
theorem vsl_one (w : World) (x : Val) : VSl (w.alloc (.cells (encV x).toArray 25)) (.slice (some ⟨w.heap.size, 0, none⟩) 1 1) [x] := by
  have hg : (w.alloc (.cells (encV x).toArray 25)).heap[w.heap.size]? = some (.cells (encV x).toArray 25 (0, 0)) := World.alloc_heap_new w _
  refine ⟨_, 1, rfl, Nat.le_refl _, by omega, .inr ⟨_, 0, rfl, (Array.getElem?_eq_some_iff.1 hg).1, fun i hi => ?_⟩⟩
  have e : i = 0 := by simp at hi; exact hi
  subst e
  exact ⟨(cell_of_row _ _ _ _ _ _ hg).trans rfl, (cell_of_row _ _ _ _ _ _ hg).trans rfl, (cell_of_row _ _ _ _ _ _ hg).trans rfl⟩
/-- append of one value, laid in a block of its own, to a row that the call owns -/
theorem wp_appendV1 {o : Oper} {a : Act} {w : World} {K : Act → World → Prop} {Q : Exit → Act → World → Prop} (s x : Operand)
    (ho : o.op = .call { callee := .builtin .append, args := #[s, x], argTypes := #[26, 26] }) (B : Nat) (v : Value) (xs : List Val) (hs : a.eval s = v) (hown : OwnV w B v xs)
    (g0 : Nat) (y : Val) (hx : a.eval x = .slice (some ⟨g0, 0, none⟩) 1 1) (hu : VSl w (.slice (some ⟨g0, 0, none⟩) 1 1) [y]) (hlen : xs.length + 1 ≤ 1000000) (hbase : B ≤ w.heap.size)
    (h : ∀ g cap w', OwnV w' B (.slice (some ⟨g, 0, none⟩) (xs.length + 1) cap) (xs ++ [y]) → w.grownBy w' v.ownBlock → K (a.put o.dst (.slice (some ⟨g, 0, none⟩) (xs.length + 1) cap)) w') : o.wp Tryd.prog a w K Q := by
  obtain ⟨i0, hi, hz0, hz1, hz2⟩ := info_parts infoV
  unfold OwnV at hown h
  refine wp_append_lies _ s x 26 ho B 25 i0 (.agg #[.int .i64 0, .int .i64 0, .string ⟨#[]⟩]) 3 32 Tryd.underlying26 hi hz0 hz1 hz2 rfl (by decide) v xs.length (cellsV xs) hs hown ⟨g0, 0, none⟩ 1 1 (cellsV [y]) hx (cellsV_len [y]) (vsl_cells hu) (cellsV_one _) (by omega) (by unfold maxLen; omega) (by omega) hbase _ rfl ?_
  intro g cap w' hown' hgrow _ _
  refine h g cap w' ?_ hgrow
  rw [cellsV_app, List.length_append]; exact hown'
theorem OwnV.base {w : World} {B B' : Nat} {v : Value} {xs : List Val} (h : OwnV w B v xs) (hB : B' ≤ B) : OwnV w B' v xs := by
  obtain ⟨h1, h2⟩ := h
  refine ⟨h1, h2.imp id ?_⟩
  rintro ⟨g, cap, cur, e, hb, r⟩
  exact ⟨g, cap, cur, e, Nat.le_trans hB hb, r⟩
theorem OwnV.form {w : World} {B : Nat} {v : Value} {xs : List Val} (h : OwnV w B v xs) : ∃ a c, v = .slice a xs.length c := by
  obtain ⟨a, c, hv, _⟩ := h.vsl.form; exact ⟨a, c, hv⟩

/-! ### regions that draw their order -/
/-- any world -/
def AnyW (w : World) : Prop := w = w
theorem anyW (w : World) : AnyW w := rfl
theorem takeH {P : Program} {ops : Array Oper} {Q : Exit → Act → World → Prop} {md : Region.Mode} {S : World → Prop} (i d : Nat) (v : Value) {oi : Oper} {fuel : Nat} {listed : Array Bool} {tm : Array Value} {df : List Deferred} {w : World} (hi : ops[i]? = some oi) (hd : oi.dst = some d)
    (hs : Region.noSelect ops = true) (hf : Region.free md ops listed i = true) (hr : (Region.ready md ops listed).contains i = true)
    (hQ : ∀ c a w, Q (.panic c) (a.put (some d) v) w → Q (.panic c) a w) (hy : YieldsIf P ops S oi v ⟨tm, df⟩) (hS : S w)
    (h : wpAnyH P md ops Q S fuel (listed.setIfInBounds i true) ⟨tm.setIfInBounds d v, df⟩ w) : wpAnyH P md ops Q S (fuel + 1) listed ⟨tm, df⟩ w := by
  refine wpAnyH_take hi hs hf hr (by rw [hd]; exact hQ) hy hS ?_
  rw [hd]
  exact h
theorem wpOp_doG {P : Program} {ops : Array Oper} {Q : Exit → Act → World → Prop} {K : Act → World → Prop} {a : Act} {w : World} {o : Oper} (i : Nat) (ho : ops[i]? = some o) (hg : Region.wanted o (yielded ops a.tmps) = true) (h : o.wp P a w K Q) : wpOp P ops Q i K a w := by
  unfold wpOp
  rw [ho]
  show if Region.wanted o (yielded ops a.tmps) then _ else _
  rw [if_pos hg]
  exact .inl h
/-- rows of different kinds lie apart -/
theorem rows_apart {w : World} {B B' : Nat} {t t' : TypeId} {s s' k k' : Nat} {v v' : Value} {xs xs' : List Value} (h : w.ownsRow B t s v k xs) (h' : w.ownsRow B' t' s' v' k' xs') (ht : t ≠ t') : ∀ g, v.ownBlock = some g → v'.ownBlock ≠ some g := by
  intro g hg hg'
  rcases h.2 with ⟨rfl, _⟩ | ⟨b, cap, cur, rfl, _, hb, _⟩
  · simp [Value.ownBlock] at hg
  · rcases h'.2 with ⟨rfl, _⟩ | ⟨b', cap', cur', rfl, _, hb', _⟩
    · simp [Value.ownBlock] at hg'
    · obtain rfl : b = g := by simpa [Value.ownBlock] using hg
      obtain rfl : b' = b := by simpa [Value.ownBlock] using hg'
      have := hb.symm.trans hb'
      simp at this
      exact ht this.2
/-- a guarded operation that is wanted, by its own law -/
theorem wpList_wanted {P : Program} {ops : Array Oper} {Q : Exit → Act → World → Prop} {a : Act} {w : World} {rest : List Oper} {o : Oper} (hw : Region.wanted o (yielded ops a.tmps) = true) (h : o.wp P a w (wpList P ops Q rest) Q) : wpList P ops Q (o :: rest) a w := by
  unfold wpList
  rw [if_pos hw]
  exact .inl h
theorem vsl_oneC {w : World} {v : Value} {xs : List Val} (h : VSl w v xs) : v.oneCell' = true := by obtain ⟨a, c, rfl, _⟩ := h; rfl
end Go.Proofs.YtpboleifllcehaaDoor
namespace Go.Proofs.YtpboleifllcehaaDoor
open Go.RowKit Go.PlainAid Ln
set_option linter.unusedVariables false
set_option linter.unusedSimpArgs false

def rV (v : Val) : Bool := rightB v.1 v.2.1 v.2.2
def nV (v : Val) : Bool := nameB v.1 v.2.1 v.2.2
def bdV (v : Val) : Prop := -9223372036854775808 ≤ v.2.1 ∧ v.2.1 ≤ 9223372036854775807
/-- a right note -/
def noteB (nd : Bool) (n : ByteArray) : Bool := if nd = true then decide (n.size ≤ 100 ∧ (10 : UInt8) ∉ tx n) else decide (n.size = 0)
/-- nothing of what an Invoke alone has -/
def nonB (x : Ev) : Bool := decide (x.m = 0 ∧ x.o = 0 ∧ x.k.1 = 0 ∧ x.k.2.1 = 0 ∧ x.k.2.2.size = 0 ∧ x.a.length = 0)
/-- right for its type -/
def typB (x : Ev) : Bool :=
  if x.y = 1 then nV x.k && (fi x.m x.o && fitsL (fr x.m x.o).inn x.a) && decide (x.r.length = 0)
  else if x.y = 2 then nonB x && x.r.all rV
  else if x.y = 3 ∨ x.y = 4 then nonB x && decide (x.r.length = 0)
  else false
/-- a right event -/
def rightE (x : Ev) : Bool := decide (0 ≤ x.t) && nV x.c && noteB x.nd x.n && typB x
/-- its numbers are of 64 bits -/
def bdE (x : Ev) : Prop := x.t ≤ 9223372036854775807 ∧ bdV x.c ∧ bdV x.k ∧ (∀ i, i < x.a.length → bdV (nv x.a i)) ∧ (∀ i, i < x.r.length → bdV (nv x.r i))
end Go.Proofs.YtpboleifllcehaaDoor
namespace Go.Proofs.YtpboleifllcehaaDoor
open Go.ChangeShapes Go.WideShapes Go.RowKit Go.PlainAid Ln
set_option linter.unusedVariables false
set_option linter.unusedSimpArgs false

theorem choose_vals {n : Nat} {p : Nat → Val → Prop} (h : ∀ i, i < n → ∃ x, p i x) : ∃ xs : List Val, xs.length = n ∧ ∀ i, i < n → p i (nv xs i) := by
  induction n with
  | zero => exact ⟨[], rfl, fun i hi => by omega⟩
  | succ n ih =>
    obtain ⟨xs, hl, hx⟩ := ih fun i hi => h i (by omega)
    obtain ⟨y, hy⟩ := h n (by omega)
    refine ⟨xs ++ [y], by simp [hl], fun i hi => ?_⟩
    by_cases e : i < n
    · have : nv (xs ++ [y]) i = nv xs i := by
        rw [nv_eq _ i (by simp; omega), nv_eq _ i (by omega), List.getElem_append_left (by omega)]
      rw [this]; exact hx i e
    · have e : i = n := by omega
      subst e
      have : nv (xs ++ [y]) i = y := by
        rw [nv_eq _ i (by simp; omega), List.getElem_append_right (by omega)]; simp [hl]
      rw [this]; exact hy

/-- a value as data -/
def dVal {H : Type} (x : Val) : DataW H := .agg [.lit (.int .i64 x.1), .lit (.int .i64 x.2.1), .lit (.string x.2.2.data.toList)]
set_option maxRecDepth 100000 in
theorem open_val {H : Type} {enc : TypeId × Value → H} {W : World} {held : Bool} {fuel : Nat} {cs : List Value} {y : DataW H × List MemPlace} (hl : cs.length = 3)
    (h : DataW.trod enc Tryd.prog W 0 (fun _ => true) held fuel 25 cs = some y) : ∃ x : Val, cs = [.int .i64 x.1, .int .i64 x.2.1, .string x.2.2] ∧ y.1 = dVal x ∧ bdV x ∧ (Lit.int .i64 x.1).wf = true := by
  obtain ⟨y0, y1, y2, k, hx, _, g0, g1, g2⟩ := Deep.trod_struct3 Tryd.underlying25 h
  match cs, hl with
  | [v0, v1, v2], _ =>
    have c0 : Tryd.prog.cellsOf 3 = 1 := by kernel_rfl
    have c1 : Tryd.prog.cellsOf 2 = 1 := by kernel_rfl
    have c2 : Tryd.prog.cellsOf 9 = 1 := by kernel_rfl
    simp [c0, c1, c2] at g0 g1 g2
    obtain ⟨a, ha, da, wa⟩ := DataW.trod_int Tryd.underlying3 g0
    obtain ⟨n, hn, dn, wn⟩ := DataW.trod_int Tryd.underlying2 g1
    obtain ⟨s, hs, ds, _⟩ := DataW.trod_string Tryd.underlying9 g2
    simp at ha hn hs
    subst ha hn hs
    have hb := bounds_i64 wn
    refine ⟨(a, n, s), rfl, ?_, ?_⟩
    · rw [hx, da, dn, ds]; rfl
    · exact ⟨⟨hb.1, hb.2⟩, wa⟩
set_option maxRecDepth 100000 in
theorem val_weights {H : Type} {x : Val} (h : ∀ n ∈ (dVal x : DataW H).weights Tryd.prog 25, n ≤ reachBytes) : x.2.2.size ≤ 140737488351232 := by
  have e := h x.2.2.data.toList.length (by simp [dVal, DataW.weights, DataW.weightsEach, Tryd.underlying25])
  have : x.2.2.data.toList.length = x.2.2.size := tx_len x.2.2
  unfold reachBytes at e
  omega
theorem weightsAll_in {H : Type} {P : Program} {e : TypeId} : ∀ {l : List (DataW H)} {d : DataW H}, d ∈ l → ∀ n ∈ d.weights P e, n ∈ DataW.weightsAll P e l
  | d0 :: l, d, hd, n, hn => by
    simp only [DataW.weightsAll, List.mem_append]
    rcases List.mem_cons.1 hd with rfl | hd
    · exact .inl hn
    · exact .inr (weightsAll_in hd n hn)
set_option maxRecDepth 100000 in
theorem vsl_ofE {H : Type} {enc : TypeId × Value → H} {W : World} {held : Bool} {fuel : Nat} {v : Value} {y : DataW H × List MemPlace}
    (h : DataW.trod enc Tryd.prog W 0 (fun _ => true) held fuel 26 [v] = some y) (hs : ∀ n ∈ y.1.weights Tryd.prog 26, n ≤ reachBytes) :
    ∃ xs, VSl W v xs ∧ (∀ i, i < xs.length → bdV (nv xs i)) ∧ (∀ i, i < xs.length → (nv xs i).2.2.size ≤ 140737488351232) ∧ xs.length ≤ 140737488351232 := by
  have hce : Tryd.prog.cellsOf 25 = 3 := by kernel_rfl
  have hby : Tryd.prog.bytesOf 25 = 32 := by kernel_rfl
  rcases Deep.open_slice Tryd.underlying26 h with ⟨hcs, _⟩ | ⟨x, len, cap, m, n, D, Pl, hcs, _, hl, hm, hmm, hx, hr⟩
  · simp at hcs
    subst hcs
    exact ⟨[], ⟨none, 0, rfl, by simp, by simp, .inl ⟨rfl, fun _ => rfl⟩⟩, fun i hi => absurd hi (Nat.not_lt_zero i), fun i hi => absurd hi (Nat.not_lt_zero i), Nat.zero_le _⟩
  · simp at hcs
    subst hcs
    unfold maxLen at hm
    have hmc : m = cap := by simpa using hmm
    subst hmc
    have hlen : len ≤ 140737488351232 := by
      have e := hs ((((List.range len).map D).length + ((List.range (m - len)).map fun j => D (len + j)).length) * 32) (by rw [hx]; simp only [DataW.weights, Tryd.underlying26, hby]; exact List.mem_cons_self)
      simp only [List.length_map, List.length_range] at e
      unfold reachBytes at e
      omega
    have each : ∀ i, i < len → ∃ y : Val, W.cell? (x.add (i * 3)) = some (.int .i64 y.1) ∧ W.cell? (x.add (i * 3 + 1)) = some (.int .i64 y.2.1) ∧ W.cell? (x.add (i * 3 + 2)) = some (.string y.2.2) ∧ bdV y ∧ y.2.2.size ≤ 140737488351232 := by
      intro i hi
      obtain ⟨cs', h1, h2⟩ := hr i (by omega)
      rw [hce] at h1
      obtain ⟨_, hlen', hcell⟩ := World.cells?_some h1
      obtain ⟨z, e1, e2, e3, _⟩ := open_val hlen' h2
      subst e1
      have e4 : D i = dVal z := e2
      have e5 : z.2.2.size ≤ 140737488351232 := by
        refine val_weights (H := H) fun q hq => hs q ?_
        rw [hx]
        simp only [DataW.weights, Tryd.underlying26]
        refine List.mem_cons_of_mem _ (List.mem_append_left _ (weightsAll_in (d := D i) ?_ q (by rw [e4]; exact hq)))
        exact List.mem_map.2 ⟨i, List.mem_range.2 hi, rfl⟩
      have c0 := hcell 0 (by omega)
      have c1 := hcell 1 (by omega)
      have c2 := hcell 2 (by omega)
      rw [Deep.add_add] at c0 c1 c2
      exact ⟨z, by simpa using c0, by simpa using c1, by simpa using c2, e3, e5⟩
    obtain ⟨xs, hxl, hx2⟩ := choose_vals each
    subst hxl
    refine ⟨xs, ⟨some x, m, rfl, by omega, by omega, ?_⟩, fun i hi => (hx2 i hi).2.2.2.1, fun i hi => (hx2 i hi).2.2.2.2, hlen⟩
    by_cases h0 : xs = []
    · exact .inl ⟨h0, fun h => by cases h⟩
    · have h0' : 0 < xs.length := List.length_pos_iff.2 h0
      obtain ⟨b, off, spot⟩ := x
      have hc := (hx2 0 h0').1
      have hspot : spot = none := by simpa [Addr.add] using World.cell?_spot hc
      subst hspot
      refine .inr ⟨b, off, rfl, ?_, fun i hi => ?_⟩
      · have := World.block_lt_of_cell? W _ hc
        simpa [Addr.add] using this
      · obtain ⟨h1, h2, h3, _⟩ := hx2 i hi
        rw [Addr.add_mid] at h1 h2 h3
        exact ⟨h1, by rw [Nat.add_assoc]; exact h2, by rw [Nat.add_assoc]; exact h3⟩
end Go.Proofs.YtpboleifllcehaaDoor
