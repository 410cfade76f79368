/- The walk of MacSame. Conditions: the table holds the rounds' numbers. -/
import Derived.Test.YtidonnilklplhaaDoorML
import Derived.Test.YtidonnilklplhaaDoorMK
namespace Go.Proofs.YtidonnilklplhaaDoor
open Go.RowKit Hx
set_option linter.unusedVariables false

set_option maxRecDepth 100000 in
set_option maxHeartbeats 1000000 in
theorem law_same (v u : Value) (xs ys : List Int) (w : World) (hK : Kt w) (hv : Sl w v xs) (hu : Sl w u ys) :
    Calls Tryd.prog 7 #[v, u] w fun en w' => en = .returned (.bool true) ∧ Below w.heap.size w w' := by
  have hk0 := hK.pos
  obtain ⟨a, na, ca, rfl⟩ := sl_form hv
  obtain ⟨b, nb, cb, rfl⟩ := sl_form hu
  have hxx : sameB xs xs = true := same_self xs
  go_enter Tryd.func7, Tryd.ntmps7
  go_wp2_with fail
  refine (wakes_any _ hK).mono ?_
  rintro e w1 ⟨rfl, hb1⟩
  have v1 := hv.later hb1
  have u1 := hu.later hb1
  go_wp2_with fail
  have p2 := psl_two v1 u1 22
  have hb2 : Below w1.heap.size w1 (w1.alloc (.cells #[.slice a na ca, .slice b nb cb] 22)) := (Below.refl _ _).alloc (Nat.le_refl _) _
  generalize w1.alloc (.cells #[.slice a na ca, .slice b nb cb] 22) = w2 at p2 hb2 ⊢
  have hB2 := below_next hb1 hb2
  refine (great_any _ [xs, ys] w2 p2).mono ?_
  rintro e w3 ⟨bb, rfl, hf, rfl⟩
  cases bb with
  | true =>
    go_wp2
    go_ret
    exact ⟨rfl, hB2⟩
  | false =>
    have v2 := v1.later hb2
    have u2 := u1.later hb2
    clear v1 u1 hb1 hb2 p2 hf
    go_wp2_with fail
    refine (msame_any _ _ xs ys w3 v2 u2).mono ?_
    rintro e w4 ⟨rfl, hb4⟩
    have v4 := v2.later hb4
    have u4 := u2.later hb4
    have hB4 := below_next hB2 hb4
    clear v2 u2 hb4 hB2
    go_wp2_with fail
    refine (same_any _ _ xs ys w4 v4 u4).mono ?_
    rintro e w5 ⟨rfl, hb5⟩
    have v5 := v4.later hb5
    have hB5 := below_next hB4 hb5
    clear v4 u4 hb5 hB4
    generalize sameB xs ys = q
    have hq : (q == q) = true := by cases q <;> rfl
    go_wp2_with fail
    refine (msame_any _ _ xs xs w5 v5 v5).mono ?_
    rintro e w6 ⟨rfl, hb6⟩
    rw [hxx]
    have hB6 := below_next hB5 hb6
    go_wp2
    go_ret
    exact ⟨rfl, hB6⟩
end Go.Proofs.YtidonnilklplhaaDoor
