/- One event more: the walk's state. Conditions: the walk's state lies in memory, in blocks of its own; the history too. -/
import Derived.Test.YtgdegbmakbfaaaaDoorPV
namespace Go.Proofs.YtgdegbmakbfaaaaDoor
open Go.RowKit Go.PlainAid Ln
set_option linter.unusedVariables false
set_option linter.unusedSimpArgs false

theorem infoI1 : (Tryd.prog.info? 3).map (·.size) = some 1 := by kernel_rfl
theorem infoSI1 : (Tryd.prog.info? 50).map (·.size) = some 1 := by kernel_rfl
/-- a number is written into a row that the call owns, at an operation -/
theorem wpo_storeI {o : Oper} {a : Act} {w : World} {K : Act → World → Prop} {Q : Exit → Act → World → Prop} (x y : Operand) (hop : o.op = .store 3 x y) (B g n cap : Nat) (xs : List Int) (hown : OwnI w B (.slice (some ⟨g, 0, none⟩) n cap) xs)
    (j : Nat) (hj : j < xs.length) (c : Int) (hx : a.eval x = .pointer (some ⟨g, j, none⟩)) (hy : a.eval y = .int .i64 c) (hK : ∀ w', OwnI w' B (.slice (some ⟨g, 0, none⟩) n cap) (xs.set j c) → w.grownBy w' (some g) → K (a.put o.dst undef) w') : o.wp Tryd.prog a w K Q := by
  obtain ⟨h1, h2⟩ := hown
  rcases h2 with ⟨e, _⟩ | ⟨g', cap', cur, e, hb, hg, hn, hc, hs, ht⟩
  · cases e
  injection e with e1 e2 e3
  injection e1 with e1
  injection e1 with e1
  subst e1 e2 e3
  have hl : j < cur.toList.length := by
    have : (cellsI xs).length ≤ cur.toList.length := by rw [← ht, List.length_take]; omega
    rw [cellsI_len] at this; omega
  refine wpo_storeC 3 x y g j (.int .i64 c) cur.toList 3 infoI1 hl rfl rfl hop hx hy (by show w.heap[g]? = some (.cells cur.toList.toArray _ _); simpa using hg) ?_
  intro w' hB' ho
  refine hK w' ⟨by rw [← cellsI_set, List.length_set, List.length_set]; exact h1, .inr ⟨g, cap, (cur.toList.set j (.int .i64 c)).toArray, by rw [List.length_set], hb, hB', by rw [List.length_set]; exact hn, hc, by simpa using hs, ?_⟩⟩ ho.grown
  rw [← cellsI_set, ← ht, List.length_set]
  simp [List.take_set]

/-- a walk's blocks: what the maps answer, where calls ended -/
structure Sx (w : World) (B p mb ml : Nat) (vh ve : Value) (m : Nat) (g : Val → Option Int) (l : Val → Option Bool) (es : List Int) : Prop where
  blk : Blk w p (wkC vh mb ml ve) 61
  lp : B ≤ p
  lb : B ≤ mb
  ll : B ≤ ml
  ne : mb ≠ ml
  busy : IMap 3 w mb m g
  lost : UMap w ml m l
  ends : OwnI w B ve es
theorem St.sx {w : World} {B p mb ml n : Nat} {vh ve : Value} {xs : List Ev} (h : St w B p mb ml vh ve xs n) : Sx w B p mb ml vh ve n (openG xs n) (lostG xs n) (endsB xs n) := ⟨h.blk, h.lp, h.lb, h.ll, h.ne, h.busy, h.lost, h.ends⟩
section
variable {w w' : World} {B p mb ml m : Nat} {vh ve : Value} {g : Val → Option Int} {l : Val → Option Bool} {es : List Int}
theorem Sx.later (h : Sx w B p mb ml vh ve m g l es) (hb : Below w.heap.size w w') : Sx w' B p mb ml vh ve m g l es :=
  ⟨h.blk.later hb, h.lp, h.lb, h.ll, h.ne, h.busy.later hb, h.lost.later hb, h.ends.later hb⟩
theorem Sx.st {n : Nat} {xs : List Ev} (h : Sx w B p mb ml vh ve m g l es) (hm : m ≤ n) (hg : g = openG xs n) (hl : l = lostG xs n) (he : es = endsB xs n) : St w B p mb ml vh ve xs n := by
  subst hg hl he
  exact ⟨h.blk, h.lp, h.lb, h.ll, h.ne, VMap.mono h.busy hm, VMap.mono h.lost hm, h.ends⟩
theorem Sx.apartB (h : Sx w B p mb ml vh ve m g l es) : mb ≠ p ∧ ml ≠ p ∧ some p ≠ ve.ownBlock ∧ ve.ownBlock ≠ some mb ∧ ve.ownBlock ≠ some ml :=
  ⟨VMap.cells h.busy (h.blk.cell 0 _ rfl), VMap.cells h.lost (h.blk.cell 0 _ rfl), h.blk.not_row (by decide) h.ends, VMap.row h.busy h.ends, VMap.row h.lost h.ends⟩
/-- the map of who is busy turns -/
theorem Sx.busyT {g' : Val → Option Int} {m' : Nat} (h : Sx w B p mb ml vh ve m g l es) (hm : m ≤ m') (hg : IMap 3 w' mb m' g') (ht : w.mapTurned w' mb) : Sx w' B p mb ml vh ve m' g' l es := by
  obtain ⟨a1, a2, a3, a4, a5⟩ := h.apartB
  exact ⟨h.blk.kept ht.grown (fun e => a1 (by injection e with e; exact e.symm)), h.lp, h.lb, h.ll, h.ne, hg, (VMap.mono h.lost hm).kept ht.grown (fun e => h.ne (by injection e with e; exact e.symm)), World.ownsRow.kept h.ends ht.grown (.inr a4)⟩
/-- .. who is lost -/
theorem Sx.lostT {l' : Val → Option Bool} {m' : Nat} (h : Sx w B p mb ml vh ve m g l es) (hm : m ≤ m') (hl : UMap w' ml m' l') (ht : w.mapTurned w' ml) : Sx w' B p mb ml vh ve m' g l' es := by
  obtain ⟨a1, a2, a3, a4, a5⟩ := h.apartB
  exact ⟨h.blk.kept ht.grown (fun e => a2 (by injection e with e; exact e.symm)), h.lp, h.lb, h.ll, h.ne, (VMap.mono h.busy hm).kept ht.grown (fun e => h.ne (by injection e)), hl, World.ownsRow.kept h.ends ht.grown (.inr a5)⟩
/-- the row of ends turns -/
theorem Sx.endsT {es' : List Int} (h : Sx w B p mb ml vh ve m g l es) (he : OwnI w' B ve es') (hg : w.grownBy w' ve.ownBlock) : Sx w' B p mb ml vh ve m g l es' := by
  obtain ⟨a1, a2, a3, a4, a5⟩ := h.apartB
  exact ⟨h.blk.kept hg a3, h.lp, h.lb, h.ll, h.ne, VMap.kept h.busy hg (Ne.symm a4), VMap.kept h.lost hg (Ne.symm a5), he⟩
/-- another row of ends, put into the walk -/
theorem Sx.newE {w2 : World} {v2 : Value} {es' : List Int} (h : Sx w B p mb ml vh ve m g l es) (hg : w.grownBy w' ve.ownBlock) (he : OwnI w' B v2 es') (hB : Blk w2 p (wkC vh mb ml v2) 61) (ho : Oth p p w' w2) : Sx w2 B p mb ml vh v2 m g l es' := by
  obtain ⟨a1, a2, a3, a4, a5⟩ := h.apartB
  have k : Blk w' p (wkC vh mb ml ve) 61 := h.blk.kept hg a3
  exact ⟨hB, h.lp, h.lb, h.ll, h.ne, VMap.kept (VMap.kept h.busy hg (Ne.symm a4)) ho.grown (fun e => a1 (by injection e)), VMap.kept (VMap.kept h.lost hg (Ne.symm a5)) ho.grown (fun e => a2 (by injection e)),
    World.ownsRow.kept he ho.grown (.inr (k.not_row (by decide) he).symm)⟩
theorem Sx.mono {m' : Nat} (h : Sx w B p mb ml vh ve m g l es) (hm : m ≤ m') : Sx w B p mb ml vh ve m' g l es := ⟨h.blk, h.lp, h.lb, h.ll, h.ne, VMap.mono h.busy hm, VMap.mono h.lost hm, h.ends⟩
end
theorem ownI_snoc {w : World} {B : Nat} {v : Value} {xs : List Int} {y : Int} (h : OwnI w B v (xs ++ [y])) : ∃ g cap, v = .slice (some ⟨g, 0, none⟩) (xs.length + 1) cap ∧ B ≤ g ∧ g < w.heap.size ∧ xs.length + 1 ≤ cap := by
  have h' := h
  rcases h.2 with ⟨_, e⟩ | ⟨g, cap, cur, e, hb, hg, hn, hc, _⟩
  · simp at e
  · exact ⟨g, cap, by rw [e]; simp, hb, (World.ownsRow.lt h' g (by rw [e]; rfl)).2, by simpa using hn⟩
theorem wf_nat (n : Nat) (h : n ≤ 1000000) : (Lit.int .i64 (n : Int)).wf = true := by
  have h1 : IntKind.i64.min ≤ (n : Int) := Int.le_trans (by decide) (show (0 : Int) ≤ (n : Int) by omega)
  have h2 : (n : Int) ≤ IntKind.i64.max := Int.le_trans (show (n : Int) ≤ 1000000 by omega) (by decide)
  show (decide (IntKind.i64.min ≤ (n : Int)) && decide ((n : Int) ≤ IntKind.i64.max)) = true
  rw [decide_eq_true h1, decide_eq_true h2]; rfl
end Go.Proofs.YtgdegbmakbfaaaaDoor
