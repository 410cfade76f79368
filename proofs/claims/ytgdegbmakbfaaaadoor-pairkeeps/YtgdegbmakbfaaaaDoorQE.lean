/- Rows of values that are written over, kind by kind. No conditions. -/
import Derived.Test.YtgdegbmakbfaaaaDoorQB
import Derived.Test.YtgdegbmakbfaaaaDoorPC
namespace Go.Proofs.YtgdegbmakbfaaaaDoor
open Go.RowKit Go.PlainAid Ln
set_option linter.unusedVariables false
set_option linter.unusedSimpArgs false

theorem infoI5 : (Tryd.prog.info? 3).map (·.size) = some 1 := by kernel_rfl
theorem cellsV_kind : ∀ (xs : List Val) (j : Nat) (c : Int), (cellsV xs).set (j * 3) (.int .i64 c) = cellsV (xs.set j (c, (nv xs j).2.1, (nv xs j).2.2))
  | [], j, c => by simp [cellsV]
  | x :: xs, 0, c => by rfl
  | x :: xs, j + 1, c => by
    have ih := cellsV_kind xs j c
    have e1 : cellsV (x :: xs) = encV x ++ cellsV xs := rfl
    have e2 : (nv (x :: xs) (j + 1)) = nv xs j := by unfold nv; simp
    have e3 : (x :: xs).set (j + 1) (c, (nv xs j).2.1, (nv xs j).2.2) = x :: xs.set j (c, (nv xs j).2.1, (nv xs j).2.2) := rfl
    have e4 : cellsV (x :: xs.set j (c, (nv xs j).2.1, (nv xs j).2.2)) = encV x ++ cellsV (xs.set j (c, (nv xs j).2.1, (nv xs j).2.2)) := rfl
    have hl : (encV x).length = 3 := rfl
    rw [e2, e3, e4, e1, List.set_append_right _ _ (by rw [hl]; omega), hl, show (j + 1) * 3 - 3 = j * 3 by omega, ih]
/-- the kind of a row's j-th value is written over -/
def KSet (w w' : World) (g j : Nat) : Prop := ∃ cur : Array Value, w.heap[g]? = some (.cells cur 38 (0, 0)) ∧ w'.heap[g]? = some (.cells (cur.setIfInBounds (j * 3) (.int .i64 9)) 38 (0, 0)) ∧ Oth g g w w'
theorem wp_storeK {ops : Array Oper} {rest : List Oper} {o : Oper} {a : Act} {w : World} {Q : Exit → Act → World → Prop} (x y : Operand) (hop : o.guard = none ∧ o.op = .store 3 x y) (B g n cap : Nat) (xs : List Val) (hown : OwnV w B (.slice (some ⟨g, 0, none⟩) n cap) xs)
    (j : Nat) (hj : j < xs.length) (hx : a.eval x = .pointer (some ⟨g, j * 3, none⟩)) (hy : a.eval y = .int .i64 9) (hK : ∀ w', KSet w w' g j → wpList Tryd.prog ops Q rest (a.put o.dst undef) w') : wpList Tryd.prog ops Q (o :: rest) a w := by
  obtain ⟨h1, h2⟩ := hown
  rcases h2 with ⟨e, _⟩ | ⟨g', cap', cur, e, hb, hg, hn, hc, hs, ht⟩
  · cases e
  injection e with e1 e2 e3
  injection e1 with e1
  injection e1 with e1
  subst e1 e2 e3
  have hl : j * 3 < cur.toList.length := by simp [hs]; omega
  refine wp_storeC 3 x y g (j * 3) (.int .i64 9) cur.toList 38 infoI5 hl rfl rfl hop hx hy (by show w.heap[g]? = some (.cells cur.toList.toArray _ _); simpa using hg) ?_
  intro w' hB ho
  refine hK w' ⟨cur, hg, ?_, ho⟩
  have hB' : w'.heap[g]? = some (.cells (cur.toList.set (j * 3) (.int .i64 9)).toArray 38 (0, 0)) := hB
  rw [hB']
  congr 2
  apply Array.toList_inj.1
  simp
/-- a row of so many values -/
def ExV (w : World) (B : Nat) (u : Value) (n : Nat) : Prop := ∃ xs, xs.length = n ∧ OwnV w B u xs
theorem ExV.later {w w' : World} {B n : Nat} {u : Value} (h : ExV w B u n) (hb : Below w.heap.size w w') : ExV w' B u n := by obtain ⟨xs, h1, h2⟩ := h; exact ⟨xs, h1, h2.later hb⟩
theorem ExV.kset {w w' : World} {B n g j : Nat} {u : Value} (h : ExV w B u n) (hk : KSet w w' g j) : ExV w' B u n := by
  obtain ⟨xs, hl, ho⟩ := h
  obtain ⟨cur, hg, hg', hoth⟩ := hk
  by_cases e : u.ownBlock = some g
  · obtain ⟨h1, h2⟩ := ho
    rcases h2 with ⟨rfl, _⟩ | ⟨g2, cap, cur2, rfl, hb, hg2, hn, hc, hs, ht⟩
    · simp [Value.ownBlock] at e
    · obtain rfl : g2 = g := by simpa [Value.ownBlock] using e
      obtain rfl : cur2 = cur := by
        have := hg2.symm.trans hg
        simp at this
        exact this
      refine ⟨xs.set j (9, (nv xs j).2.1, (nv xs j).2.2), by rw [List.length_set]; exact hl, by rw [← cellsV_kind, List.length_set, List.length_set]; exact h1, .inr ⟨g2, cap, cur2.setIfInBounds (j * 3) (.int .i64 9), by rw [List.length_set], hb, hg', by rw [List.length_set]; exact hn, hc, by simpa using hs, ?_⟩⟩
      rw [← cellsV_kind, ← ht, List.length_set]
      simp [List.take_set]
  · exact ⟨xs, hl, World.ownsRow.kept ho hoth.grown (.inr e)⟩
/-- what stays as it is while the lists of operations are written over -/
structure KS (w0 w : World) (B fb : Nat) (l : Value) (zs : List YO) (fc : List Value) : Prop where
  own : OwnO w B l zs
  exa : ∀ i, i < zs.length → ExV w B (yo zs i).2.1 (yo zs i).1.a.length ∧ ExV w B (yo zs i).2.2 (yo zs i).1.r.length
  fbx : Blk w fb fc 27
  bel : Below B w0 w
  lo : B ≤ w.heap.size
theorem KS.kset {w0 w w' : World} {B fb g j : Nat} {l : Value} {zs : List YO} {fc : List Value} (h : KS w0 w B fb l zs fc) (hk : KSet w w' g j) (hB : B ≤ g) : KS w0 w' B fb l zs fc := by
  have hk' := hk
  obtain ⟨cur, hg, hg', ho⟩ := hk
  have hblk : Blk w g cur.toList 38 := by show w.heap[g]? = some (.cells cur.toList.toArray _ _); simpa using hg
  have hfb : fb ≠ g := by
    rintro rfl
    have := (show w.heap[fb]? = _ from h.fbx).symm.trans hg
    simp at this
  exact ⟨World.ownsRow.kept h.own ho.grown (.inr (hblk.not_row (by decide) h.own).symm), fun i hi => ⟨(h.exa i hi).1.kset hk', (h.exa i hi).2.kset hk'⟩, h.fbx.oth ho hfb hfb, below_oth h.bel ho hB hB h.lo, Nat.le_trans h.lo ho.size⟩
theorem KS.start {w : World} {B fb : Nat} {l : Value} {zs : List YO} {fc : List Value} (h : OwnO w B l zs) (hl : OwnLO w B zs) (hf : Blk w fb fc 27) (hB : B ≤ w.heap.size) : KS w w B fb l zs fc :=
  ⟨h, fun i hi => ⟨⟨_, rfl, (hl i hi).1⟩, ⟨_, rfl, (hl i hi).2⟩⟩, hf, Below.refl _ _, hB⟩
end Go.Proofs.YtgdegbmakbfaaaaDoor
