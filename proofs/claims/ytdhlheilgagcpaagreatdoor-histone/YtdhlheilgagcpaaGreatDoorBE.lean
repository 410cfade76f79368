/- Blocks of cells; a world that is another one but for two blocks; rows of texts cut behind their first one; the reader as it lies in memory. No conditions. The contracts of the reader's small methods: keep, must, more, next. Conditions: the reader lies in memory. -/
import Derived.Test.YtdhlheilgagcpaaGreatDoorBT
import Derived.Test.YtdhlheilgagcpaaGreatDoorBM
import Derived.Deep.MidRow
import Derived.Laws.CopyRow
namespace Go.Proofs.YtdhlheilgagcpaaGreatDoor
open Go.RowKit Go.PlainAid Ln
set_option linter.unusedVariables false

/-- w' is w but for the blocks p and q, and for new blocks -/
structure Oth (p q : Nat) (w w' : World) : Prop where
  os : w'.os = w.os
  tape : w'.tape = w.tape
  output : w'.output = w.output
  size : w.heap.size ≤ w'.heap.size
  block : ∀ j, j < w.heap.size → j ≠ p → j ≠ q → w'.heap[j]? = w.heap[j]?
section
variable {p q : Nat} {a b c w w' w0 : World}
theorem Oth.refl (p q : Nat) (w : World) : Oth p q w w := ⟨rfl, rfl, rfl, Nat.le_refl _, fun _ _ _ _ => rfl⟩
theorem Oth.trans (h : Oth p q a b) (k : Oth p q b c) : Oth p q a c :=
  ⟨k.os.trans h.os, k.tape.trans h.tape, k.output.trans h.output, Nat.le_trans h.size k.size, fun j hj h1 h2 => (k.block j (Nat.lt_of_lt_of_le hj h.size) h1 h2).trans (h.block j hj h1 h2)⟩
theorem Oth.of_below (h : Below w.heap.size w w') : Oth p q w w' := ⟨h.os, h.tape, h.output, h.size, fun j hj _ _ => h.block j hj⟩
theorem Oth.mono (h : Oth p p w w') : Oth p q w w' := ⟨h.os, h.tape, h.output, h.size, fun j hj h1 _ => h.block j hj h1 h1⟩
theorem Oth.mono' (h : Oth q q w w') : Oth p q w w' := ⟨h.os, h.tape, h.output, h.size, fun j hj _ h1 => h.block j hj h1 h1⟩
theorem Oth.below {B : Nat} (h : Oth p q w w') (h1 : B ≤ p) (h2 : B ≤ q) (h3 : B ≤ w.heap.size) : Below B w w' :=
  ⟨h.os, h.tape, h.output, h.size, fun j hj => h.block j (by omega) (by omega) (by omega)⟩
theorem below_oth {B : Nat} (k : Below B w0 w) (h : Oth p q w w') (h1 : B ≤ p) (h2 : B ≤ q) (h3 : B ≤ w.heap.size) : Below B w0 w' := k.trans (h.below h1 h2 h3)
theorem Oth.alloc (h : Oth p q w w') (o : Obj) : Oth p q w (w'.alloc o) := h.trans (.of_below (below_more (Below.refl _ _) o))
theorem Oth.step {g : Nat} (h : Oth p q a b) (k : Oth g g b c) (hg : a.heap.size ≤ g) : Oth p q a c :=
  ⟨k.os.trans h.os, k.tape.trans h.tape, k.output.trans h.output, Nat.le_trans h.size k.size, fun j hj h1 h2 => (k.block j (Nat.lt_of_lt_of_le hj h.size) (by omega) (by omega)).trans (h.block j hj h1 h2)⟩
theorem Oth.step2 (h : Oth p p a b) (k : Oth p q b c) (hq : a.heap.size ≤ q) : Oth p p a c :=
  ⟨k.os.trans h.os, k.tape.trans h.tape, k.output.trans h.output, Nat.le_trans h.size k.size, fun j hj h1 h2 => (k.block j (Nat.lt_of_lt_of_le hj h.size) h1 (by omega)).trans (h.block j hj h1 h2)⟩
theorem Oth.drew (h : Oth p q w w') : Oth p q w { w' with drawn := w'.drawn + 1 } := ⟨h.os, h.tape, h.output, h.size, h.block⟩
theorem oth_set (p : Nat) (w : World) (i : Nat) (v : Value) : Oth p p w (w.setCell ⟨p, i, none⟩ v) :=
  ⟨rfl, rfl, rfl, by simp [World.setCell], fun j _ hj _ => heap_setCell_other w ⟨p, i, none⟩ j v hj⟩
theorem oth_setRow (p : Nat) (w : World) (cs : Array Value) : Oth p p w (w.setRow p cs) :=
  ⟨rfl, rfl, rfl, by simp, fun j _ hj _ => setRow_other w p j cs hj⟩
end

/-- a block of cells -/
def Blk (w : World) (B : Nat) (c : List Value) (t : TypeId) : Prop := w.heap[B]? = some (.cells c.toArray t (0, 0))
section
variable {w w' : World} {B : Nat} {c : List Value} {t : TypeId}
theorem Blk.lt (h : Blk w B c t) : B < w.heap.size := (Array.getElem?_eq_some_iff.1 h).1
theorem Blk.later (h : Blk w B c t) (hb : Below w.heap.size w w') : Blk w' B c t := (hb.block B h.lt).trans h
theorem Blk.oth {p q : Nat} (h : Blk w B c t) (ho : Oth p q w w') (h1 : B ≠ p) (h2 : B ≠ q) : Blk w' B c t := (ho.block B h.lt h1 h2).trans h
theorem Blk.new (w : World) (c : List Value) (t : TypeId) : Blk (w.alloc (.cells c.toArray t)) w.heap.size c t := World.alloc_heap_new w _
theorem Blk.alloc (h : Blk w B c t) (o : Obj) : Blk (w.alloc o) B c t := h.later (below_more (Below.refl _ _) o)
theorem Blk.drew (h : Blk w B c t) : Blk { w with drawn := w.drawn + 1 } B c t := h
theorem Blk.cell (h : Blk w B c t) (i : Nat) (v : Value) (hv : c[i]? = some v) : w.cell? ⟨B, i, none⟩ = some v := by
  rw [cell_of_row w B i _ t (0, 0) h]; simpa using hv
theorem Blk.froz (h : Blk w B c t) (i : Nat) : w.frozen? ⟨B, i, none⟩ = false := frozen_of_row w B i _ t h
theorem Blk.set (h : Blk w B c t) (i : Nat) (v : Value) : Blk (w.setCell ⟨B, i, none⟩ v) B (c.set i v) t := by
  show (w.setCell ⟨B, i, none⟩ v).heap[B]? = _
  rw [setCell_eq_setRow w B i _ t _ _ h, setRow_heap w B _ _ t _ h]
  simp
theorem Blk.range (h : Blk w B c t) (o : Nat) (vs : List Value) (hv : ∀ j v, vs[j]? = some v → c[o + j]? = some v) : w.rangeAt B o vs := fun j v hj => h.cell (o + j) v (hv j v hj)
theorem Blk.all (h : Blk w B c t) : w.rangeAt B 0 c := h.range 0 c (fun j v hj => by rw [Nat.zero_add]; exact hj)
theorem Blk.there (h : Blk w B c t) (o n : Nat) (hn : o + n ≤ c.length) : w.there B o n := fun j hj => by
  refine ⟨?_, h.froz _⟩
  rw [h.cell (o + j) (c[o + j]'(by omega)) (List.getElem?_eq_getElem _)]; rfl
theorem Blk.not_row (h : Blk w B c t) {e : TypeId} (hte : t ≠ e) {base size k : Nat} {v : Value} {xs : List Value} (hr : w.ownsRow base e size v k xs) : some B ≠ v.ownBlock := by
  rcases hr.2 with ⟨rfl, _⟩ | ⟨g, cap, cur, rfl, _, hgb, _⟩
  · simp [Value.ownBlock]
  · intro e'
    obtain rfl : B = g := by simpa [Value.ownBlock] using e'
    have := (show w.heap[B]? = _ from h).symm.trans hgb
    simp at this
    exact hte this.2
theorem Blk.kept {row : Option Nat} (h : Blk w B c t) (hg : w.grownBy w' row) (hne : some B ≠ row) : Blk w' B c t := (hg.block B h.lt hne).trans h
end

section
variable {P : Program} {ops : Array Oper} {rest : List Oper} {o : Oper} {a : Act} {w : World} {Q : Exit → Act → World → Prop}
/-- a variable of several cells within a block is written -/
theorem run_storeB (ty : TypeId) (g off : Nat) (vs c : List Value) (t : TypeId) (hg : Blk w g c t) (hi : (P.info? ty).map (·.size) = some vs.length) (hl : off + vs.length ≤ c.length) (h1 : ∀ v ∈ vs, v.oneCell' = true) :
    (storeVar ty ⟨g, off, none⟩ (.agg vs.toArray)).run P w = .ok () (w.setRow g (c.take off ++ vs ++ c.drop (off + vs.length)).toArray) := by
  have hst := run_storeCells_at P g off t vs 0 c.toArray w hg (by simpa using hl) h1
  cases hq : P.info? ty with
  | none => simp [hq] at hi
  | some i =>
    have hs : i.size = vs.length := by simp [hq] at hi; omega
    simp [storeVar, sizeOf, typeInfo, hq, Value.cells, hs]
    simpa using hst
theorem wp_storeB (ty : TypeId) (x y : Operand) (g off : Nat) (vs c : List Value) (t : TypeId) (hi : (P.info? ty).map (·.size) = some vs.length) (hl : off + vs.length ≤ c.length) (h1 : ∀ v ∈ vs, v.oneCell' = true)
    (hop : o.guard = none ∧ o.op = .store ty x y) (hx : a.eval x = .pointer (some ⟨g, off, none⟩)) (hy : a.eval y = .agg vs.toArray) (hg : Blk w g c t)
    (hK : ∀ w', Blk w' g (c.take off ++ vs ++ c.drop (off + vs.length)) t → Oth g g w w' → wpList P ops Q rest (a.put o.dst undef) w') : wpList P ops Q (o :: rest) a w := by
  refine wpList_plain hop.1 fun K hK' => ?_
  unfold Oper.wp execOp
  simp only [hop.2, hx, hy, Instr.storeAt, Instr.sureAddr, Sem.run_bind, Sem.run_pure, Result.andThen_ok, run_storeB ty g off vs c t hg hi hl h1]
  exact hK' _ _ (hK _ (setRow_heap w g _ _ t _ hg) (oth_setRow g w _))
/-- a variable of one cell within a block is written -/
theorem wpo_storeC {K : Act → World → Prop} (ty : TypeId) (x y : Operand) (g off : Nat) (v : Value) (c : List Value) (t : TypeId) (hi : (P.info? ty).map (·.size) = some 1) (hl : off < c.length) (h1 : v.oneCell' = true) (hc : v.cells = #[v])
    (hop : o.op = .store ty x y) (hx : a.eval x = .pointer (some ⟨g, off, none⟩)) (hy : a.eval y = v) (hg : Blk w g c t)
    (hK : ∀ w', Blk w' g (c.set off v) t → Oth g g w w' → K (a.put o.dst undef) w') : o.wp P a w K Q := by
  have hst := run_storeCells_at P g off t [v] 0 c.toArray w hg (by simp; omega) (by simpa using h1)
  have hrun : (storeVar ty ⟨g, off, none⟩ v).run P w = .ok () (w.setRow g (c.set off v).toArray) := by
    have e : c.take off ++ [v] ++ c.drop (off + 1) = c.set off v := by
      rw [List.set_eq_take_append_cons_drop, if_pos hl, List.append_assoc]; rfl
    cases hq : P.info? ty with
    | none => simp [hq] at hi
    | some i =>
      have hs : i.size = 1 := by simp [hq] at hi; omega
      simp [storeVar, sizeOf, typeInfo, hq, hc, hs]
      rw [← e]
      simpa using hst
  unfold Oper.wp execOp
  simp only [hop, hx, hy, Instr.storeAt, Instr.sureAddr, Sem.run_bind, Sem.run_pure, Result.andThen_ok, hrun]
  exact hK _ (setRow_heap w g _ _ t _ hg) (oth_setRow g w _)
theorem wp_storeC (ty : TypeId) (x y : Operand) (g off : Nat) (v : Value) (c : List Value) (t : TypeId) (hi : (P.info? ty).map (·.size) = some 1) (hl : off < c.length) (h1 : v.oneCell' = true) (hc : v.cells = #[v])
    (hop : o.guard = none ∧ o.op = .store ty x y) (hx : a.eval x = .pointer (some ⟨g, off, none⟩)) (hy : a.eval y = v) (hg : Blk w g c t)
    (hK : ∀ w', Blk w' g (c.set off v) t → Oth g g w w' → wpList P ops Q rest (a.put o.dst undef) w') : wpList P ops Q (o :: rest) a w :=
  wpList_plain hop.1 fun K hK' => wpo_storeC ty x y g off v c t hi hl h1 hc hop.2 hx hy hg fun w' b o' => hK' _ _ (hK w' b o')
/-- a variable of several cells within a block is read -/
theorem wp_loadB (ty : TypeId) (x : Operand) (g off : Nat) (vs c : List Value) (t : TypeId) (d : TypeDesc) (hu : P.underlying ty = some d) (hd : d.isRow = true) (hi : (P.info? ty).map (·.size) = some vs.length)
    (hop : o.guard = none ∧ o.op = .load ty x) (hx : a.eval x = .pointer (some ⟨g, off, none⟩)) (hg : Blk w g c t) (hv : ∀ j v, vs[j]? = some v → c[off + j]? = some v)
    (hK : wpList P ops Q rest (a.put o.dst (.agg vs.toArray)) w) : wpList P ops Q (o :: rest) a w :=
  wpList_load_mid hop.1 ty x hop.2 g off hx vs d (hg.range off vs hv) hu hd hi hK
end
/-- a function whose result lies in a block of its own -/
theorem ret_blk {P : Program} {fn : Func} {R : Ending → World → Prop} {a : Act} {w : World} {p : Tmp} {ty : TypeId} (h : fn.results = #[.cell p ty]) (g : Nat) (c : List Value) (t : TypeId) (d : TypeDesc)
    (hu : P.underlying ty = some d) (hd : d.isRow = true) (hi : (P.info? ty).map (·.size) = some c.length)
    (hp : a.tmps.getD p undef = .pointer (some ⟨g, 0, none⟩)) (hr : Blk w g c t) (hdef : a.defers = []) (hR : R (.returned (.agg c.toArray)) w) : bodyPost P fn R .ret a w := by
  refine bodyPost_ret_by ?_ hdef hR
  refine results_cell_row h a.tmps w g t c.toArray (0, 0) d hp hr hu ?_ (by simpa using hi)
  cases d <;> simp_all [TypeDesc.isRow]

/-! ### rows of texts -/
/-- a slice's block lies below B -/
def LoB (B : Nat) (v : Value) : Prop := ∀ g, v.ownBlock = some g → g < B
theorem SSl.oth {w w' : World} {v : Value} {xs : List (List UInt8)} {p q : Nat} (h : SSl w v xs) (ho : Oth p q w w') {B : Nat} (hl : LoB B v) (h1 : B ≤ p) (h2 : B ≤ q) : SSl w' v xs := by
  obtain ⟨a, c, rfl, h3, h4, h5⟩ := h
  refine ⟨a, c, rfl, h3, h4, h5.imp id ?_⟩
  rintro ⟨b, o, rfl, hb, hc⟩
  have hlt : b < B := hl b rfl
  refine ⟨b, o, rfl, Nat.lt_of_lt_of_le hb ho.size, fun i hi => ?_⟩
  have e : w'.heap[b]? = w.heap[b]? := ho.block b hb (by omega) (by omega)
  have := hc i hi
  unfold World.cell? at this ⊢
  rw [e]; exact this
theorem infoS1 : (Tryz.prog.info? 9).map (·.size) = some 1 := by kernel_rfl
theorem undS : Tryz.prog.underlying 41 = some (.slice (Tryz.prog.elem 41)) := by kernel_rfl
theorem elemS : Tryz.prog.elem 41 = 9 := by kernel_rfl
theorem run_cutS (a : Option Addr) (n c m : Nat) (hm : m ≤ n) (w : World) : (Instr.sliceAt 41 (.slice a n c) (some (.int .i64 (m : Int))) none none).run Tryz.prog w = .ok (sliced a m n c 1) w := by
  rw [run_sliceAt_slice w 41 _ _ _ _ undS, run_slice_l w 41 _ _ _ undS .i64 _ (by omega) (by omega), elemS, Tryz.sizeOf9, Int.toNat_natCast]; rfl
/-- what is left behind the first text -/
theorem ssl_cut {w : World} {a : Option Addr} {n c : Nat} {x : List UInt8} {xs : List (List UInt8)} (h : SSl w (.slice a n c) (x :: xs)) :
    SSl w (sliced a 1 n c 1) xs ∧ (sliced a 1 n c 1).ownBlock = (Value.slice a n c).ownBlock := by
  obtain ⟨a', c', hv, hl, hc, hr⟩ := h
  injection hv with ha hnn hcc
  subst ha hcc hnn
  simp only [List.length_cons] at hl ⊢
  rcases hr with ⟨h3, _⟩ | ⟨b, o, rfl, hb, hat⟩
  · cases h3
  refine ⟨⟨if c = 1 then some ⟨b, o, none⟩ else some ⟨b, o + 1, none⟩, c - 1, ?_, by omega, by omega, ?_⟩, ?_⟩
  · unfold sliced
    by_cases hcl : c = 1
    · rw [if_pos hcl, if_pos hcl]; simp
    · rw [if_neg hcl, if_neg hcl]; simp [Addr.add_mid]
  · by_cases h0 : xs = []
    · refine .inl ⟨h0, fun e => ?_⟩
      by_cases hcl : c = 1
      · rw [if_pos hcl] at e; cases e
      · rw [if_neg hcl] at e; cases e
    · have hp : 0 < xs.length := List.length_pos_iff.2 h0
      rw [if_neg (by omega)]
      refine .inr ⟨b, o + 1, rfl, hb, fun i hi => ?_⟩
      have := hat (i + 1) (by simpa using hi)
      rw [show o + 1 + i = o + (i + 1) by omega, this]
      unfold nt; simp
  · unfold sliced
    by_cases hcl : c = 1
    · rw [if_pos hcl]; simp [Value.ownBlock]
    · rw [if_neg hcl]; simp [Value.ownBlock, Addr.add_mid]

/-- the reader: what is left of the words, and the fault -/
def Rdr (w : World) (p : Nat) (L : List (List UInt8)) (f : Int) : Prop := ∃ v, Blk w p [v, .int .i64 f] 69 ∧ SSl w v L ∧ LoB p v
theorem Rdr.lt {w : World} {p : Nat} {L : List (List UInt8)} {f : Int} (h : Rdr w p L f) : p < w.heap.size := by obtain ⟨v, h, _⟩ := h; exact h.lt
theorem Rdr.later {w w' : World} {p : Nat} {L : List (List UInt8)} {f : Int} (h : Rdr w p L f) (hb : Below w.heap.size w w') : Rdr w' p L f := by
  obtain ⟨v, h1, h2, h3⟩ := h; exact ⟨v, h1.later hb, h2.later hb, h3⟩
theorem Rdr.oth {w w' : World} {p q : Nat} {L : List (List UInt8)} {f : Int} (h : Rdr w p L f) (ho : Oth q q w w') (hq : p < q) : Rdr w' p L f := by
  obtain ⟨v, h1, h2, h3⟩ := h
  exact ⟨v, h1.oth ho (by omega) (by omega), SSl.oth h2 ho h3 (by omega) (by omega), h3⟩
theorem Rdr.drew {w : World} {p : Nat} {L : List (List UInt8)} {f : Int} (h : Rdr w p L f) : Rdr { w with drawn := w.drawn + 1 } p L f := h.later ⟨rfl, rfl, rfl, Nat.le_refl _, fun _ _ => rfl⟩
/-- the first of the words, or the empty text -/
def hdW (L : List (List UInt8)) : ByteArray := bs (L.headD [])
/-- the first fault -/
def kp (f e : Int) : Int := if f = 0 then e else f
/-- the fault, unless it is so -/
def mf (b : Bool) : Int := if b then 0 else 2
theorem kp_zero (f : Int) : kp f 0 = f := by unfold kp; split <;> simp_all
end Go.Proofs.YtdhlheilgagcpaaGreatDoor
namespace Go.Proofs.YtdhlheilgagcpaaGreatDoor
open Go.RowKit Go.PlainAid Ln
set_option linter.unusedVariables false
set_option linter.unusedSimpArgs false

/-- how a method without an answer ends -/
def RNone (w : World) (p : Nat) (L : List (List UInt8)) (f : Int) (e : Ending) (w' : World) : Prop := e = .returned (.tuple #[]) ∧ Rdr w' p L f ∧ Oth p p w w'
theorem rd_keep (p : Nat) (L : List (List UInt8)) (f e : Int) (w : World) (h : Rdr w p L f) :
    Calls Tryz.prog 72 #[.pointer (some ⟨p, 0, none⟩), .int .i64 e] w fun en w' => RNone w p L (kp f e) en w' := by
  obtain ⟨v, hB, hS, hl⟩ := h
  have c1 := hB.cell 1 (.int .i64 f) rfl
  have f1 := hB.froz 1
  have hlt := hB.lt
  have HB : Hid (Blk w p [v, .int .i64 f] 69) := hB
  have HS : Hid (SSl w v L) := hS
  clear hB hS
  unfold kp
  by_cases hf : f = 0
  · subst hf
    rw [if_pos rfl]
    go_enter Tryz.func72, Tryz.ntmps72
    go_wp2
    go_returns
    exact ⟨rfl, ⟨v, by simpa using HB.out.set 1 (.int .i64 e), SSl.oth HS.out (oth_set p w 1 _) hl (Nat.le_refl _) (Nat.le_refl _), hl⟩, oth_set p w 1 _⟩
  · rw [if_neg hf]
    have hf' : (f == 0) = false := by simp [hf]
    go_enter Tryz.func72, Tryz.ntmps72
    go_wp2
    go_returns
    exact ⟨rfl, ⟨v, HB.out, HS.out, hl⟩, Oth.refl _ _ _⟩
theorem rd_must (p : Nat) (L : List (List UInt8)) (f : Int) (b : Bool) (w : World) (h : Rdr w p L f) :
    Calls Tryz.prog 55 #[.pointer (some ⟨p, 0, none⟩), .bool b] w fun en w' => RNone w p L (kp f (mf b)) en w' := by
  cases b
  · go_enter Tryz.func55, Tryz.ntmps55
    go_wp2_with fail
    refine (rd_keep p L f 2 _ h).mono ?_
    rintro e w1 ⟨rfl, h1, h2⟩
    go_wp2
    go_returns
    exact ⟨rfl, h1, h2⟩
  · have HR : Hid (Rdr w p L f) := h
    clear h
    go_enter Tryz.func55, Tryz.ntmps55
    go_wp2
    go_returns
    refine ⟨rfl, ?_, Oth.refl _ _ _⟩
    show Rdr _ _ _ (kp f 0)
    rw [kp_zero]; exact HR.out
theorem wd_more (p : Nat) (L : List (List UInt8)) (f : Int) (w : World) (h : Rdr w p L f) :
    Calls Tryz.prog 53 #[.pointer (some ⟨p, 0, none⟩)] w fun en w' => en = .returned (.bool (decide (0 < L.length))) ∧ w' = w := by
  obtain ⟨v, hB, hS, hl⟩ := h
  obtain ⟨a, c, rfl, h1, h2, h3⟩ := hS.form
  have c0 := hB.cell 0 _ rfl
  clear hB hS
  generalize hn : L.length = n at *
  by_cases h0 : 0 < n
  · rw [decide_eq_true h0]
    have h0' : (0 : Int) < (n : Int) := by omega
    go_enter Tryz.func53, Tryz.ntmps53
    go_wp2
    go_ret
    exact ⟨rfl, rfl⟩
  · rw [decide_eq_false h0]
    have h0' : ¬ (0 : Int) < (n : Int) := by omega
    go_enter Tryz.func53, Tryz.ntmps53
    go_wp2
    go_ret
    exact ⟨rfl, rfl⟩
theorem wd_next (p : Nat) (L : List (List UInt8)) (f : Int) (w : World) (h : Rdr w p L f) :
    Calls Tryz.prog 71 #[.pointer (some ⟨p, 0, none⟩)] w fun en w' => en = .returned (.string (hdW L)) ∧ Rdr w' p L.tail f ∧ Oth p p w w' := by
  have hM := wd_more p L f w h
  cases L with
  | nil =>
    go_enter Tryz.func71, Tryz.ntmps71
    go_wp2_with fail
    refine hM.mono ?_
    rintro e w1 ⟨rfl, rfl⟩
    go_wp2
    go_ret
    exact ⟨rfl, h, Oth.refl _ _ _⟩
  | cons x xs =>
    obtain ⟨v, hB, hS, hl⟩ := h
    obtain ⟨a, c, rfl, h1, h2, h3⟩ := hS.form
    obtain ⟨b, o, rfl, hb⟩ := hS.block (by simp)
    have hx := hS.cell (i := 0) (by simp)
    obtain ⟨hcut, hown⟩ := ssl_cut hS
    have hl' : LoB p (sliced (some ⟨b, o, none⟩) 1 (x :: xs).length c 1) := fun g hg => hl g (by rw [← hown]; exact hg)
    have c0 := hB.cell 0 _ rfl
    have f0 := hB.froz 0
    have hlt := hB.lt
    have hs : ∀ w, (Instr.sliceAt 41 (.slice (some ⟨b, o, none⟩) (x :: xs).length c) (some (.int .i64 1)) none none).run Tryz.prog w = .ok (sliced (some ⟨b, o, none⟩) 1 (x :: xs).length c 1) w := fun w => run_cutS (some ⟨b, o, none⟩) (x :: xs).length c 1 (by simp) w
    have e0 : nt (x :: xs) 0 = x := rfl
    rw [e0, Nat.add_zero] at hx
    have HB : Hid (Blk w p [.slice (some ⟨b, o, none⟩) (x :: xs).length c, .int .i64 f] 69) := hB
    have HC : Hid (SSl w (sliced (some ⟨b, o, none⟩) 1 (x :: xs).length c 1) xs) := hcut
    have hlen : 0 < (x :: xs).length := by simp
    have hcap : (x :: xs).length ≤ c := h1
    clear hB hS hcut h3 hl hown
    have HD : Hid (decide (0 < (x :: xs).length) = true) := by show _ = _; simp
    obtain ⟨A, N, C, hu⟩ : ∃ A N C, sliced (some ⟨b, o, none⟩) 1 (x :: xs).length c 1 = .slice A N C := ⟨_, _, _, rfl⟩
    simp only [hu] at hs hl' HC
    clear hu
    generalize (x :: xs).length = n at *
    go_enter Tryz.func71, Tryz.ntmps71
    go_wp2_with fail
    refine hM.mono ?_
    rintro e w1 ⟨rfl, rfl⟩
    rw [HD.out]
    go_wp2
    go_ret
    exact ⟨rfl, ⟨.slice A N C, by simpa using HB.out.set 0 (.slice A N C), SSl.oth HC.out (oth_set p w1 0 _) hl' (Nat.le_refl _) (Nat.le_refl _), hl'⟩, oth_set p w1 0 _⟩
end Go.Proofs.YtdhlheilgagcpaaGreatDoor
