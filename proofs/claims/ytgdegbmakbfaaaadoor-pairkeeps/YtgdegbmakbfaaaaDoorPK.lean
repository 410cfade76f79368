/- Values as keys of a map: what one reads as, and that two read alike just if they are one. Conditions: the numbers are of 64 bits, the text is no longer than any. -/
import Derived.Test.YtgdegbmakbfaaaaDoorBA
import Derived.Maps.OwnOps
import Derived.Maps.OwnSet
import Derived.Maps.Views
import Derived.DeepKeys4
import Derived.ProofKit
import Derived.OpenShut
namespace Go.Proofs.YtgdegbmakbfaaaaDoor
open Go.RowKit Go.PlainAid Go.Maps Ln
set_option linter.unusedVariables false
set_option linter.unusedSimpArgs false

theorem laidOutK : laidOutB Tryd.prog = true := by kernel_rfl
theorem keyV : Keyed Tryd.prog 38 := Keyed.of_law (deep_law_laid laidOutK (m := 5) (by decide) (of_decide_eq_true (by kernel_rfl)) (by kernel_rfl) (by kernel_rfl))
/-- a value's numbers are of 64 bits, its text is no longer than any -/
def KV (v : Val) : Prop := (Lit.int .i64 v.1).wf = true ∧ (Lit.int .i64 v.2.1).wf = true ∧ v.2.2.size ≤ maxLen
def kLit (v : Val) : Lit := .string (keyBytes [.int .i64 v.1, .int .i64 v.2.1, .string v.2.2.data.toList])
def kVal (v : Val) : Value := .agg #[.int .i64 v.1, .int .i64 v.2.1, .string v.2.2]
theorem lits_val {v : Val} (h : KV v) (d : Nat) : (Tryd.prog).keyLits (d + 2) 38 [.int .i64 v.1, .int .i64 v.2.1, .string v.2.2] = some [.int .i64 v.1, .int .i64 v.2.1, .string v.2.2.data.toList] := by
  obtain ⟨h1, h2, h3⟩ := h
  have c1 : Tryd.prog.cellsOf 38 = 3 := by kernel_rfl
  have c2 : Tryd.prog.cellsOf 3 = 1 := by kernel_rfl
  have c3 : Tryd.prog.cellsOf 2 = 1 := by kernel_rfl
  have c4 : Tryd.prog.cellsOf 9 = 1 := by kernel_rfl
  simp [Program.keyLits, Tryd.underlying38, Tryd.underlying3, Tryd.underlying2, Tryd.underlying9, c1, c2, c3, c4, h1, h2, h3]
theorem key_val {v : Val} (h : KV v) : keyOf Tryd.prog 38 (kVal v) = some (kLit v) := by
  have hk : Tryd.prog.keyType 38 = true := by kernel_rfl
  have hf : (kVal v).formed Tryd.prog 38 = true := by
    have c1 : Tryd.prog.cellsOf 38 = 3 := by kernel_rfl
    simp [Value.formed, kVal, Tryd.underlying38, c1]
  obtain ⟨m, hm⟩ : ∃ m, Tryd.prog.types.size + 1 = m + 2 := ⟨Tryd.prog.types.size - 1, by have : 0 < Tryd.prog.types.size := of_decide_eq_true (by kernel_rfl); omega⟩
  unfold keyOf
  rw [Tryd.underlying38]
  simp only [hk, hf, hm, Bool.and_self, if_true]
  rw [show (kVal v).cells.toList = [.int .i64 v.1, .int .i64 v.2.1, .string v.2.2] by rfl, lits_val h]
  rfl
/-- two values read alike just if they are one -/
theorem kLit_inj {u v : Val} (hu : KV u) (hv : KV v) (h : kLit u = kLit v) : u = v := by
  have e := keyV.inj (key_val hu) (by rw [h]; exact key_val hv)
  unfold kVal at e
  simp at e
  obtain ⟨e1, e2, e3⟩ := e
  exact Prod.ext e1 (Prod.ext e2 e3)
theorem kLit_key {v : Val} (h : KV v) : WideAt.IsKeyLit (kLit v) := keyV.key (key_val h)

/-! ### a map from values, by what it answers (R: how its elements read) -/
section
variable {P : Program} {K : TypeId} {R : Value → Option (DataW Unit × List MemPlace)}
/-- at most n entries; what it holds of a value is f's (as a datum) -/
def VMap (P : Program) (K : TypeId) (R : Value → Option (DataW Unit × List MemPlace)) (w : World) (b n : Nat) (f : Val → Option (DataW Unit)) : Prop :=
  ∃ D, w.ownsMap P K R b n D ∧ ∀ v, KV v → has D (kLit v) = (f v).isSome ∧ ∀ z, D.atKey (kLit v) z = (f v).getD z
/-- one value's entry put, taken away -/
def upd {α : Type} (f : Val → Option α) (v : Val) (d : Option α) : Val → Option α := fun u => if u = v then d else f u
theorem upd_same {α : Type} (f : Val → Option α) (v : Val) (d : Option α) : upd f v d v = d := if_pos rfl
theorem upd_other {α : Type} (f : Val → Option α) {u v : Val} (d : Option α) (h : u ≠ v) : upd f v d u = f u := if_neg h
theorem upd_map {α β : Type} (k : α → β) (f : Val → Option α) (v : Val) (d : Option α) : (fun u => (upd f v d u).map k) = upd (fun u => (f u).map k) v (d.map k) := by
  funext u
  unfold upd
  split <;> rfl
theorem VMap.made (w : World) : VMap P K R (w.alloc (.map #[] 0)) w.heap.size 0 (fun _ => none) :=
  ⟨.map [], World.ownsMap_made w P K _, fun v _ => ⟨rfl, fun z => rfl⟩⟩
theorem VMap.lt {w : World} {b n : Nat} {f : Val → Option (DataW Unit)} (h : VMap P K R w b n f) : b < w.heap.size := by obtain ⟨D, h, _⟩ := h; exact h.lt
theorem VMap.mono {w : World} {b n m : Nat} {f : Val → Option (DataW Unit)} (h : VMap P K R w b n f) (hn : n ≤ m) : VMap P K R w b m f := by obtain ⟨D, h, k⟩ := h; exact ⟨D, h.mono hn, k⟩
theorem VMap.kept {w w' : World} {b n : Nat} {f : Val → Option (DataW Unit)} {row : Option Nat} (h : VMap P K R w b n f) (hg : w.grownBy w' row) (hne : some b ≠ row) : VMap P K R w' b n f := by obtain ⟨D, h, k⟩ := h; exact ⟨D, h.kept hg hne, k⟩
theorem VMap.setCell {w : World} {b n : Nat} {f : Val → Option (DataW Unit)} (h : VMap P K R w b n f) {a : Addr} (ha : b ≠ a.block) (u : Value) : VMap P K R (w.setCell a u) b n f := by obtain ⟨D, h, k⟩ := h; exact ⟨D, h.setCell ha u, k⟩
theorem VMap.later {w w' : World} {b n : Nat} {f : Val → Option (DataW Unit)} (h : VMap P K R w b n f) (hb : Below w.heap.size w w') : VMap P K R w' b n f :=
  h.kept (row := none) ⟨hb.os, hb.tape, hb.output, hb.size, fun k hk _ => hb.block k hk⟩ (by simp)
theorem VMap.congr {w : World} {b n : Nat} {f g : Val → Option (DataW Unit)} (h : VMap P K R w b n f) (hf : ∀ v, KV v → f v = g v) : VMap P K R w b n g := by
  obtain ⟨D, h, k⟩ := h
  exact ⟨D, h, fun v hv => by rw [← hf v hv]; exact k v hv⟩
/-- two maps lie in one block just if they are one; a map's block is no row's -/
theorem VMap.row {w : World} {b n B : Nat} {f : Val → Option (DataW Unit)} {t : TypeId} {s k : Nat} {v : Value} {cs : List Value} (h : VMap P K R w b n f) (hr : w.ownsRow B t s v k cs) : v.ownBlock ≠ some b := by
  intro e
  obtain ⟨D, ⟨es, clock, hb, _⟩, _⟩ := h
  rcases hr.2 with ⟨rfl, _⟩ | ⟨g, cap, cur, rfl, _, hg, _⟩
  · simp [Value.ownBlock] at e
  · obtain rfl : g = b := by simpa [Value.ownBlock] using e
    rw [hb] at hg; simp at hg
theorem VMap.cells {w : World} {b n : Nat} {f : Val → Option (DataW Unit)} (h : VMap P K R w b n f) {p i : Nat} {v : Value} (hc : w.cell? ⟨p, i, none⟩ = some v) : b ≠ p := by
  rintro rfl
  obtain ⟨D, ⟨es, clock, hb, _⟩, _⟩ := h
  simp [World.cell?, hb] at hc
end
section
variable {e t : TypeId} {R : Value → Option (DataW Unit × List MemPlace)}
/-- m[v], with ok: whether it is there -/
theorem VMap.look_ok {w : World} {b n : Nat} {f : Val → Option (DataW Unit)} (h : VMap Tryd.prog 38 R w b n f) (ht : Tryd.prog.underlying t = some (.map 38 e)) {z : Value} (hz : (zeroValue e).run Tryd.prog w = .ok z w) {zd : DataW Unit} (hzd : R z = some (zd, []))
    {v : Val} (hv : KV v) : ∃ u ps, (Instr.lookup t (.map (some b)) (kVal v) true).run Tryd.prog w = .ok (.tuple #[u, .bool (f v).isSome]) w ∧ R u = some ((f v).getD zd, ps) := by
  obtain ⟨D, hD, hf⟩ := h
  obtain ⟨u, ps, h1, h2⟩ := hD.look_ok keyV ht hz hzd (key_val hv)
  rw [(hf v hv).1] at h1
  rw [(hf v hv).2] at h2
  exact ⟨u, ps, h1, h2⟩
/-- m[v], without -/
theorem VMap.look {w : World} {b n : Nat} {f : Val → Option (DataW Unit)} (h : VMap Tryd.prog 38 R w b n f) (ht : Tryd.prog.underlying t = some (.map 38 e)) {z : Value} (hz : (zeroValue e).run Tryd.prog w = .ok z w) {zd : DataW Unit} (hzd : R z = some (zd, []))
    {v : Val} (hv : KV v) : ∃ u ps, (Instr.lookup t (.map (some b)) (kVal v) false).run Tryd.prog w = .ok u w ∧ R u = some ((f v).getD zd, ps) := by
  obtain ⟨D, hD, hf⟩ := h
  obtain ⟨u, ps, h1, h2⟩ := hD.lookup keyV ht hz hzd (key_val hv)
  rw [(hf v hv).2] at h2
  exact ⟨u, ps, h1, h2⟩
/-- m[v] = u -/
theorem VMap.store {w : World} {b n : Nat} {f : Val → Option (DataW Unit)} (h : VMap Tryd.prog 38 R w b n f) (ht : Tryd.prog.underlying t = some (.map 38 e)) (hn : n < maxLen) {v : Val} (hv : KV v) {u : Value} {d : DataW Unit} (hu : R u = some (d, [])) :
    ∃ w', (Instr.mapUpdate t (.map (some b)) (kVal v) u).run Tryd.prog w = .ok () w' ∧ VMap Tryd.prog 38 R w' b (n + 1) (upd f v (some d)) ∧ w.mapTurned w' b := by
  obtain ⟨D, hD, hf⟩ := h
  obtain ⟨w', h1, h2, h3⟩ := hD.store keyV ht hn (key_val hv) hu
  refine ⟨w', h1, ⟨_, h2, fun x hx => ?_⟩, h3⟩
  have key : ∀ z, (D.put (kLit v) d).atKey (kLit x) z = (upd f v (some d) x).getD z := fun z => by
    by_cases ex : x = v
    · subst ex
      rw [upd_same, atKey_put_same hD.isMap (kLit_key hv)]; rfl
    · rw [upd_other _ _ ex, atKey_put_other (fun q => ex (kLit_inj hx hv q))]
      exact (hf x hx).2 z
  refine ⟨?_, key⟩
  cases hc : upd f v (some d) x with
  | none => rw [hc] at key; exact has_false_of_atKey key
  | some y => rw [hc] at key; exact has_true_of_atKey key
/-- delete(m, v) -/
theorem VMap.drop {w : World} {b n : Nat} {f : Val → Option (DataW Unit)} (h : VMap Tryd.prog 38 R w b n f) (ht : Tryd.prog.underlying t = some (.map 38 e)) {v : Val} (hv : KV v) (ty : TypeId) :
    ∃ w', (Builtin.delete_ #[t, 38] ty #[.map (some b), kVal v]).run Tryd.prog w = .ok (.tuple #[]) w' ∧ VMap Tryd.prog 38 R w' b n (upd f v none) ∧ w.mapTurned w' b := by
  obtain ⟨D, hD, hf⟩ := h
  obtain ⟨w', h1, h2, h3⟩ := hD.drop keyV ht (key_val hv) ty
  refine ⟨w', h1, ⟨_, h2, fun x hx => ?_⟩, h3⟩
  have key : ∀ z, (D.del (kLit v)).atKey (kLit x) z = (upd f v none x).getD z := fun z => by
    by_cases ex : x = v
    · subst ex
      rw [upd_same, atKey_del_same]; rfl
    · rw [upd_other _ _ ex, atKey_del_other (fun q => ex (kLit_inj hx hv q))]
      exact (hf x hx).2 z
  refine ⟨?_, key⟩
  cases hc : upd f v none x with
  | none => rw [hc] at key; exact has_false_of_atKey key
  | some y => rw [hc] at key; exact has_true_of_atKey key
/-- an element of a plain type, out of its datum -/
theorem plain_int {he : Tryd.prog.underlying e = some (.int .i64)} {u : Value} {c : Int} {ps : List MemPlace} (h : plainElem (H := Unit) Tryd.prog e u = some (.lit (.int .i64 c), ps)) : u = .int .i64 c := by
  obtain ⟨a, rfl, h2, _⟩ := plainElem_int_inv he h
  simp at h2
  rw [h2.1]
/-! ### at the operation -/
/-- a map of ints, a set, by what it answers -/
def IMap (e : TypeId) (w : World) (b n : Nat) (g : Val → Option Int) : Prop := VMap Tryd.prog 38 (plainElem Tryd.prog e) w b n (fun v => (g v).map fun c => .lit (.int .i64 c))
def UMap (w : World) (b n : Nat) (g : Val → Option Bool) : Prop := VMap Tryd.prog 38 unitElem w b n (fun v => (g v).map fun _ => .agg [])
theorem IMap.later {e : TypeId} {w w' : World} {b n : Nat} {g : Val → Option Int} (h : IMap e w b n g) (hb : Below w.heap.size w w') : IMap e w' b n g := VMap.later h hb
theorem UMap.later {w w' : World} {b n : Nat} {g : Val → Option Bool} (h : UMap w b n g) (hb : Below w.heap.size w w') : UMap w' b n g := VMap.later h hb
theorem IMap.made (e : TypeId) (w : World) : IMap e (w.alloc (.map #[] 0)) w.heap.size 0 (fun _ => none) := VMap.made w
theorem UMap.made (w : World) : UMap (w.alloc (.map #[] 0)) w.heap.size 0 (fun _ => none) := VMap.made w
theorem IMap.grown {e : TypeId} {w w' : World} {b n : Nat} {g : Val → Option Int} {row : Option Nat} (h : IMap e w b n g) (hg : w.grownBy w' row) (hne : some b ≠ row) : IMap e w' b n g := VMap.kept h hg hne
theorem UMap.grown {w w' : World} {b n : Nat} {g : Val → Option Bool} {row : Option Nat} (h : UMap w b n g) (hg : w.grownBy w' row) (hne : some b ≠ row) : UMap w' b n g := VMap.kept h hg hne
variable {o : Oper} {a : Act} {w : World} {K : Act → World → Prop} {Q : Exit → Act → World → Prop} {ops : Array Oper} {rest : List Oper}
theorem wp_ilook (ok : Bool) (m x : Operand) (hop : o.op = .lookup t m x ok) (ht : Tryd.prog.underlying t = some (.map 38 e)) (he : Tryd.prog.underlying e = some (.int .i64)) (hz : (zeroValue e).run Tryd.prog w = .ok (.int .i64 0) w)
    (b n : Nat) (g : Val → Option Int) (hm : a.eval m = .map (some b)) (h : IMap e w b n g) (v : Val) (hv : KV v) (hx : a.eval x = kVal v)
    (hK : K (a.put o.dst (if ok then .tuple #[.int .i64 ((g v).getD 0), .bool (g v).isSome] else .int .i64 ((g v).getD 0))) w) : o.wp Tryd.prog a w K Q := by
  have hzd : plainElem (H := Unit) Tryd.prog e (.int .i64 0) = some (.lit (.int .i64 0), []) := plainElem_int he (by decide)
  have hg : ((g v).map fun c => (DataW.lit (.int .i64 c) : DataW Unit)).getD (.lit (.int .i64 0)) = .lit (.int .i64 ((g v).getD 0)) := by cases g v <;> rfl
  have hs : ((g v).map fun c => (DataW.lit (.int .i64 c) : DataW Unit)).isSome = (g v).isSome := by cases g v <;> rfl
  unfold Oper.wp
  cases ok with
  | true =>
    obtain ⟨u, ps, h1, h2⟩ := VMap.look_ok h ht hz hzd hv
    rw [hg] at h2
    rw [hs] at h1
    rw [plain_int (he := he) h2] at h1
    simp [execOp, hop, hm, hx, h1, Result.andThen]
    exact hK
  | false =>
    obtain ⟨u, ps, h1, h2⟩ := VMap.look h ht hz hzd hv
    rw [hg] at h2
    rw [plain_int (he := he) h2] at h1
    simp [execOp, hop, hm, hx, h1, Result.andThen]
    exact hK
theorem wp_ulook (m x : Operand) (hop : o.op = .lookup t m x true) (ht : Tryd.prog.underlying t = some (.map 38 e)) (hz : (zeroValue e).run Tryd.prog w = .ok (.agg #[]) w)
    (b n : Nat) (g : Val → Option Bool) (hm : a.eval m = .map (some b)) (h : UMap w b n g) (v : Val) (hv : KV v) (hx : a.eval x = kVal v)
    (hK : K (a.put o.dst (.tuple #[.agg #[], .bool (g v).isSome])) w) : o.wp Tryd.prog a w K Q := by
  have hs : ((g v).map fun _ => (DataW.agg [] : DataW Unit)).isSome = (g v).isSome := by cases g v <;> rfl
  unfold Oper.wp
  obtain ⟨u, ps, h1, h2⟩ := VMap.look_ok h ht hz (unitElem_mk (H := Unit)) hv
  rw [hs] at h1
  rw [(unitElem_inv h2).1] at h1
  simp [execOp, hop, hm, hx, h1, Result.andThen]
  exact hK
theorem wp_istore (m x y : Operand) (hop : o.op = .mapUpdate t m x y) (ht : Tryd.prog.underlying t = some (.map 38 e)) (he : Tryd.prog.underlying e = some (.int .i64))
    (b n : Nat) (g : Val → Option Int) (hm : a.eval m = .map (some b)) (h : IMap e w b n g) (hn : n < maxLen) (v : Val) (hv : KV v) (hx : a.eval x = kVal v) (c : Int) (hc : (Lit.int .i64 c).wf = true) (hy : a.eval y = .int .i64 c)
    (hK : ∀ w', IMap e w' b (n + 1) (upd g v (some c)) → w.mapTurned w' b → K (a.put o.dst undef) w') : o.wp Tryd.prog a w K Q := by
  obtain ⟨w', h1, h2, h3⟩ := VMap.store h ht hn hv (plainElem_int (H := Unit) he hc)
  unfold Oper.wp
  simp [execOp, hop, hm, hx, hy, h1, Result.andThen]
  refine hK w' ?_ h3
  unfold IMap
  rw [upd_map]; exact h2
theorem wp_ustore (m x y : Operand) (hop : o.op = .mapUpdate t m x y) (ht : Tryd.prog.underlying t = some (.map 38 e))
    (b n : Nat) (g : Val → Option Bool) (hm : a.eval m = .map (some b)) (h : UMap w b n g) (hn : n < maxLen) (v : Val) (hv : KV v) (hx : a.eval x = kVal v) (hy : a.eval y = .agg #[])
    (hK : ∀ w', UMap w' b (n + 1) (upd g v (some true)) → w.mapTurned w' b → K (a.put o.dst undef) w') : o.wp Tryd.prog a w K Q := by
  obtain ⟨w', h1, h2, h3⟩ := VMap.store h ht hn hv (unitElem_mk (H := Unit))
  unfold Oper.wp
  simp [execOp, hop, hm, hx, hy, h1, Result.andThen]
  refine hK w' ?_ h3
  unfold UMap
  rw [upd_map]; exact h2
theorem wp_idrop (m x : Operand) (hop : o.op = .call { callee := .builtin .delete, args := #[m, x], argTypes := #[t, 38] }) (ht : Tryd.prog.underlying t = some (.map 38 e))
    (b n : Nat) (g : Val → Option Int) (hm : a.eval m = .map (some b)) (h : IMap e w b n g) (v : Val) (hv : KV v) (hx : a.eval x = kVal v)
    (hK : ∀ w', IMap e w' b n (upd g v none) → w.mapTurned w' b → K (a.put o.dst (.tuple #[])) w') : o.wp Tryd.prog a w K Q := by
  obtain ⟨w', h1, h2, h3⟩ := VMap.drop h ht hv o.type
  unfold Oper.wp
  simp [execOp, hop, resolve, invoke, builtin, hm, hx, h1, Result.andThen]
  refine hK w' ?_ h3
  unfold IMap
  rw [upd_map]; exact h2
end
end Go.Proofs.YtgdegbmakbfaaaaDoor
