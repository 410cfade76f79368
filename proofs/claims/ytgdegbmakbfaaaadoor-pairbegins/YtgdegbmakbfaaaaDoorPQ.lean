/- Operations on maps, loads of several cells, and operations of one's own in regions that draw their order. No conditions. -/
import Derived.Test.YtgdegbmakbfaaaaDoorPK
import Derived.Test.YtgdegbmakbfaaaaDoorBA
import Derived.BigQuiet
import Derived.Lib.QuietBelow
namespace Go.Proofs.YtgdegbmakbfaaaaDoor
open Go.RowKit Go.PlainAid Go.Maps Ln
set_option linter.unusedVariables false
set_option linter.unusedSimpArgs false

/-- an operation of a quiet walk that yields its value in every world of the class -/
theorem quietH {P : Program} {ops : Array Oper} {C : World → Prop} {Q : Act → Prop} {o : Oper} {rest : List Oper} {tm : Array Value} {df : List Deferred} (d : Nat) (v : Value) (hd : o.dst = some d)
    (hy : YieldsIf P ops C o v ⟨tm, df⟩) (h : wpQuiet P ops C Q rest ⟨tm.setIfInBounds d v, df⟩) : wpQuiet P ops C Q (o :: rest) ⟨tm, df⟩ := by
  have e : (⟨tm, df⟩ : Act).put o.dst v = ⟨tm.setIfInBounds d v, df⟩ := by rw [hd]; rfl
  refine wpQuiet_step fun K hK => ?_
  rcases hy with ⟨hw, hv⟩ | ⟨hw, rfl⟩
  · rw [if_pos hw]
    refine ⟨v, fun w hw' => ?_, by rw [e]; exact hK _ h⟩
    unfold Oper.quietAt
    rw [hv w hw']
    exact ⟨rfl, rfl⟩
  · rw [if_neg (by rw [hw]; exact Bool.false_ne_true), e]
    exact hK _ h
section
variable {e t : TypeId} {ops : Array Oper} {S : World → Prop} {o : Oper} {a : Act}
theorem yieldsIf_ilook (ok : Bool) (m x : Operand) (hw : Region.wanted o (yielded ops a.tmps) = true) (hop : o.op = .lookup t m x ok) (ht : Tryd.prog.underlying t = some (.map 38 e)) (he : Tryd.prog.underlying e = some (.int .i64)) (hz : ∀ w, (zeroValue e).run Tryd.prog w = .ok (.int .i64 0) w)
    (b n : Nat) (g : Val → Option Int) (hm : a.eval m = .map (some b)) (h : ∀ w, S w → IMap e w b n g) (v : Val) (hv : KV v) (hx : a.eval x = kVal v) (y : Value)
    (hy : y = if ok then .tuple #[.int .i64 ((g v).getD 0), .bool (g v).isSome] else .int .i64 ((g v).getD 0)) : YieldsIf Tryd.prog ops S o y a := by
  refine .inl ⟨hw, fun w hS => ?_⟩
  subst hy
  have hzd : plainElem (H := Unit) Tryd.prog e (.int .i64 0) = some (.lit (.int .i64 0), []) := plainElem_int he (by decide)
  have hg : ((g v).map fun c => (DataW.lit (.int .i64 c) : DataW Unit)).getD (.lit (.int .i64 0)) = .lit (.int .i64 ((g v).getD 0)) := by cases g v <;> rfl
  have hs : ((g v).map fun c => (DataW.lit (.int .i64 c) : DataW Unit)).isSome = (g v).isSome := by cases g v <;> rfl
  cases ok with
  | true =>
    obtain ⟨u, ps, h1, h2⟩ := VMap.look_ok (h w hS) ht (hz w) hzd hv
    rw [hg] at h2
    rw [hs] at h1
    rw [plain_int (he := he) h2] at h1
    simp [execOp, hop, hm, hx, h1, Result.andThen]
  | false =>
    obtain ⟨u, ps, h1, h2⟩ := VMap.look (h w hS) ht (hz w) hzd hv
    rw [hg] at h2
    rw [plain_int (he := he) h2] at h1
    simp [execOp, hop, hm, hx, h1, Result.andThen]
theorem yieldsIf_ulook (m x : Operand) (hw : Region.wanted o (yielded ops a.tmps) = true) (hop : o.op = .lookup t m x true) (ht : Tryd.prog.underlying t = some (.map 38 e)) (hz : ∀ w, (zeroValue e).run Tryd.prog w = .ok (.agg #[]) w)
    (b n : Nat) (g : Val → Option Bool) (hm : a.eval m = .map (some b)) (h : ∀ w, S w → UMap w b n g) (v : Val) (hv : KV v) (hx : a.eval x = kVal v) (y : Value) (hy : y = .tuple #[.agg #[], .bool (g v).isSome]) : YieldsIf Tryd.prog ops S o y a := by
  refine .inl ⟨hw, fun w hS => ?_⟩
  subst hy
  have hs : ((g v).map fun _ => (DataW.agg [] : DataW Unit)).isSome = (g v).isSome := by cases g v <;> rfl
  obtain ⟨u, ps, h1, h2⟩ := VMap.look_ok (h w hS) ht (hz w) (unitElem_mk (H := Unit)) hv
  rw [hs] at h1
  rw [(unitElem_inv h2).1] at h1
  simp [execOp, hop, hm, hx, h1, Result.andThen]
end
theorem zero_int (w : World) : (zeroValue 3).run Tryd.prog w = .ok (.int .i64 0) w := by
  have h : (Tryd.prog.info? 3).map (·.zero) = some (some (.int .i64 0)) := by kernel_rfl
  cases hq : Tryd.prog.info? 3 with
  | none => simp [hq] at h
  | some i => simp [hq] at h; simp [zeroValue, typeInfo, hq, h]
theorem zero_unit (w : World) : (zeroValue 69).run Tryd.prog w = .ok (.agg #[]) w := by
  have h : (Tryd.prog.info? 69).map (·.zero) = some (some (.agg #[])) := by kernel_rfl
  cases hq : Tryd.prog.info? 69 with
  | none => simp [hq] at h
  | some i => simp [hq] at h; simp [zeroValue, typeInfo, hq, h]
section
variable {P : Program} {o : Oper} {a : Act} {w : World} {Q : Exit → Act → World → Prop} {K : Act → World → Prop}
/-- a variable of several cells (or of none) within a block is written, at an operation -/
theorem wpo_storeB (ty : TypeId) (x y : Operand) (g off : Nat) (vs c : List Value) (t : TypeId) (hi : (P.info? ty).map (·.size) = some vs.length) (hl : off + vs.length ≤ c.length) (h1 : ∀ v ∈ vs, v.oneCell' = true)
    (hop : o.op = .store ty x y) (hx : a.eval x = .pointer (some ⟨g, off, none⟩)) (hy : a.eval y = .agg vs.toArray) (hg : Blk w g c t)
    (hK : ∀ w', Blk w' g (c.take off ++ vs ++ c.drop (off + vs.length)) t → Oth g g w w' → K (a.put o.dst undef) w') : o.wp P a w K Q := by
  unfold Oper.wp execOp
  simp only [hop, hx, hy, Instr.storeAt, Instr.sureAddr, Sem.run_bind, Sem.run_pure, Result.andThen_ok, run_storeB ty g off vs c t hg hi hl h1]
  exact hK _ (setRow_heap w g _ _ t _ hg) (oth_setRow g w _)
end
theorem infoU : (Tryd.prog.info? 69).map (·.size) = some 0 := by kernel_rfl
/-- a map's turn, as growth -/
theorem turned_below {w0 w w' : World} {B b : Nat} (h0 : Below B w0 w) (h : w.mapTurned w' b) (hB : B ≤ w.heap.size) (hb : B ≤ b) : Below B w0 w' := Below.grown h0 h.grown hB (fun q e => by injection e with e; omega)
end Go.Proofs.YtgdegbmakbfaaaaDoor
