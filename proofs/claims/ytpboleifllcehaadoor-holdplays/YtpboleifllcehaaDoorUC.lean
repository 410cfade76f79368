/- States of registers; contracts of New, and of each way of doing a step. No conditions. -/
import Derived.Test.YtpboleifllcehaaDoorUB
import Derived.Test.YtpboleifllcehaaDoorSL
import Derived.Lib.QuietBelow
namespace Go.Proofs.YtpboleifllcehaaDoor
open Go.RowKit Go.PlainAid Ln Go.Sort
set_option linter.unusedVariables false
set_option linter.unusedSimpArgs false

/-- is it a model of this layer? -/
def ownM (m : Int) : Bool := (m == 1 || m == 2) || m == 9
/-- a state's cells: the model, what is kept, no number, no list -/
def stC (m : Int) (v : Val) (l : Value) : List Value := [.int .i64 m, .int .i64 v.1, .int .i64 v.2.1, .string v.2.2, .int .i64 0, l]
theorem stC_one (m : Int) (v : Val) {l : Value} (h : l.oneCell' = true) : ∀ u ∈ stC m v l, u.oneCell' = true := by
  intro u hu
  simp only [stC, List.mem_cons, List.not_mem_nil, or_false] at hu
  rcases hu with rfl | rfl | rfl | rfl | rfl | rfl <;> first | rfl | exact h
theorem infoSt : (Tryd.prog.info? 28).map (·.size) = some 6 := by kernel_rfl
theorem infoVv : (Tryd.prog.info? 25).map (·.size) = some 3 := by kernel_rfl
/-- one value in new memory is a row that the call owns -/
theorem own_one (w : World) (B : Nat) (hB : B ≤ w.heap.size) (x : Val) : OwnV (w.alloc (.cells (encV x).toArray 25)) B (.slice (some ⟨w.heap.size, 0, none⟩) 1 1) [x] :=
  ⟨rfl, .inr ⟨w.heap.size, 1, (encV x).toArray, rfl, hB, World.alloc_heap_new w _, Nat.le_refl _, by decide, rfl, rfl⟩⟩
/-- two results, the first one in a block of its own -/
theorem ret_blk2 {P : Program} {fn : Func} {R : Ending → World → Prop} {a : Act} {w : World} {p u : Tmp} {ty : TypeId} (h : fn.results = #[.cell p ty, .tmp u]) (g : Nat) (c : List Value) (t : TypeId) (d : TypeDesc) (v : Value)
    (hu : P.underlying ty = some d) (hd : d.isRow = true) (hi : (P.info? ty).map (·.size) = some c.length)
    (hp : a.tmps.getD p undef = .pointer (some ⟨g, 0, none⟩)) (hr : Blk w g c t) (hv : a.tmps.getD u undef = v) (hdef : a.defers = []) (hR : R (.returned (.tuple #[.agg c.toArray, v])) w) : bodyPost P fn R .ret a w := by
  refine bodyPost_ret (v := .tuple #[.agg c.toArray, v]) ?_ hdef hR
  have hp' : a.tmps[p]?.getD undef = .pointer (some ⟨g, 0, none⟩) := by simpa using hp
  have hv' : a.tmps[u]?.getD undef = v := by simpa using hv
  have hl : (loadVar ty ⟨g, 0, none⟩).run P w = .ok (.agg c.toArray) w := by
    refine run_loadVar_row w g t ty c.toArray (0, 0) d hr hu ?_ (by simpa using hi)
    cases d <;> simp_all [TypeDesc.isRow]
  simp [results, h, hp', hv', asAddr, hl]
/-- three results, the first one in a block of its own -/
theorem ret_blk3 {P : Program} {fn : Func} {R : Ending → World → Prop} {a : Act} {w : World} {p u u' : Tmp} {ty : TypeId} (h : fn.results = #[.cell p ty, .tmp u, .tmp u']) (g : Nat) (c : List Value) (t : TypeId) (d : TypeDesc) (v v' : Value)
    (hu : P.underlying ty = some d) (hd : d.isRow = true) (hi : (P.info? ty).map (·.size) = some c.length)
    (hp : a.tmps.getD p undef = .pointer (some ⟨g, 0, none⟩)) (hr : Blk w g c t) (hv : a.tmps.getD u undef = v) (hv1 : a.tmps.getD u' undef = v') (hdef : a.defers = []) (hR : R (.returned (.tuple #[.agg c.toArray, v, v'])) w) : bodyPost P fn R .ret a w := by
  refine bodyPost_ret (v := .tuple #[.agg c.toArray, v, v']) ?_ hdef hR
  have hp' : a.tmps[p]?.getD undef = .pointer (some ⟨g, 0, none⟩) := by simpa using hp
  have hv' : a.tmps[u]?.getD undef = v := by simpa using hv
  have hv1' : a.tmps[u']?.getD undef = v' := by simpa using hv1
  have hl : (loadVar ty ⟨g, 0, none⟩).run P w = .ok (.agg c.toArray) w := by
    refine run_loadVar_row w g t ty c.toArray (0, 0) d hr hu ?_ (by simpa using hi)
    cases d <;> simp_all [TypeDesc.isRow]
  simp [results, h, hp', hv', hv1', asAddr, hl]
theorem dNoR : TypeDesc.isRow (.struct (Tryd.prog.fieldsOf 28)) = true := rfl

theorem ownM_iff (m : Int) : ownM m = true ↔ m = 1 ∨ m = 2 ∨ m = 9 := by unfold ownM; simp [or_assoc]
theorem oth_set3 (w : World) (p : Nat) (a b c : Value) : Oth p p w (((w.setCell ⟨p, 0, none⟩ a).setCell ⟨p, 1, none⟩ b).setCell ⟨p, 2, none⟩ c) := ((oth_set p w 0 a).trans (oth_set p _ 1 b)).trans (oth_set p _ 2 c)
/-- the first of a row lies here -/
theorem vsl_first {w : World} {va : Value} {xs : List Val} (h : VSl w va xs) (hl : 0 < xs.length) : ∃ b o c, va = .slice (some ⟨b, o, none⟩) xs.length c ∧ b < w.heap.size ∧ xs.length ≤ c ∧ ∀ i, i < xs.length → At w b (o + i * 3) (nv xs i) := by
  obtain ⟨a, c, rfl, h1, h2, h3⟩ := h
  rcases h3 with ⟨h3, _⟩ | ⟨b, o, rfl, hb, hat⟩
  · rw [h3] at hl; cases hl
  · exact ⟨b, o, c, rfl, hb, h1, hat⟩
theorem below_pushed {w w' : World} (h : ∃ q os, w' = grow (w.drewN q) os) : Below w.heap.size w w' := by
  obtain ⟨q, os, k⟩ := h
  rw [k]
  exact ⟨rfl, rfl, rfl, by show w.heap.size ≤ (w.heap ++ os).size; rw [Array.size_append]; omega, fun i hi => by show (w.heap ++ os)[i]? = w.heap[i]?; rw [Array.getElem?_append_left hi]⟩
end Go.Proofs.YtpboleifllcehaaDoor
