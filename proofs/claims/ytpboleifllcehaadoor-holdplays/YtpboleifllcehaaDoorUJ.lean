/- The walk of RegPlays. Conditions: the table of signs lies in memory; sizes. -/
import Derived.Test.YtpboleifllcehaaDoorUI
namespace Go.Proofs.YtpboleifllcehaaDoor
open Go.RowKit Go.PlainAid Ln Go.Sort
set_option linter.unusedVariables false
set_option linter.unusedSimpArgs false

theorem mayD_ok {m : Int} {d : Dd} (hm : ownM m = true) (h : mayD m d = true) : OkD d := by
  rcases may_cases hm h with ⟨a, b⟩ | ⟨a, _, b⟩ | ⟨a, b, _⟩
  · exact ⟨fun e => by omega, fun e => by omega⟩
  · exact ⟨fun e => by omega, fun e => by omega⟩
  · exact ⟨fun e => by omega, fun e => by omega⟩
theorem mayM_no {m : Int} {d : Dd} (h : mayD m d = false) : mayM m d = false := by unfold mayM; rw [h, Bool.and_false]
/-- how the walk through the deeds stands: the past zs, its slice vp -/
structure Pl (w wr : World) (m : Int) (z : Nat) (vp : Value) (zs : List YD) : Prop where
  o : OwnD wr w.heap.size vp zs
  i : InD w zs
  k : ∀ j, j < zs.length → OkD (yd zs j).1
  s : Blk wr z (stC m (keptE m (zs.map (·.1))) nilS) 28
  b : Below w.heap.size w wr
theorem Pl.later {w wr wn : World} {m : Int} {z : Nat} {vp : Value} {zs : List YD} (h : Pl w wr m z vp zs) (hb : Below wr.heap.size wr wn) : Pl w wn m z vp zs := ⟨h.o.later hb, h.i, h.k, h.s.later hb, below_next h.b hb⟩
theorem same_yes (m : Int) (v : Val) (w : World) : Calls Tryd.prog 11 #[.agg (stC m v nilS).toArray, .agg (stC m v nilS).toArray] w fun e w' => e = .returned (.bool true) ∧ Below w.heap.size w w' := by
  have := same_st m m v v nilS nilS w (vsl_nil0 w) (vsl_nil0 w)
  rw [decide_eq_true rfl, decide_eq_true rfl] at this
  exact this
theorem dsl_nil0 (w : World) : DSl w nilS [] := ⟨none, 0, rfl, by simp, by simp, .inl ⟨rfl, fun _ => rfl⟩⟩
theorem ind_nil0 (w : World) : InD w [] := fun i hi => absurd hi (Nat.not_lt_zero i)
theorem InD.snoc {w : World} {ys : List YD} {y : YD} (h : InD w ys) (h1 : VSl w y.2 y.1.a) : InD w (ys ++ [y]) := by
  intro i hi
  by_cases e : i < ys.length
  · rw [yd_left _ _ i e]; exact h i e
  · have e : i = ys.length + 0 := by simp at hi; omega
    rw [e, yd_right ys [y] 0 (by simp), yd_zero]; exact h1
theorem okD_snoc {ys : List YD} {y : YD} (h : ∀ j, j < ys.length → OkD (yd ys j).1) (h1 : OkD y.1) : ∀ j, j < (ys ++ [y]).length → OkD (yd (ys ++ [y]) j).1 := by
  intro i hi
  by_cases e : i < ys.length
  · rw [yd_left _ _ i e]; exact h i e
  · have e : i = ys.length + 0 := by simp at hi; omega
    rw [e, yd_right ys [y] 0 (by simp), yd_zero]; exact h1
theorem keptE_past (m : Int) (zs : List YD) (y : YD) : keptE m ((zs ++ [y]).map (·.1)) = nxV m (keptE m (zs.map (·.1))) y.1 := by
  rw [List.map_append]; exact keptE_snoc _ _ _
theorem OwnD.oth {w w' : World} {B p : Nat} {v : Value} {ys : List YD} {c : List Value} {t : TypeId} (h : OwnD w B v ys) (ho : Oth p p w w') (hb : Blk w p c t) (ht : t ≠ 36) : OwnD w' B v ys :=
  World.ownsRow.kept h ho.grown (.inr (Ne.symm (hb.not_row ht h)))
end Go.Proofs.YtpboleifllcehaaDoor
