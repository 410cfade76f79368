/- The walk of PairChecks. Conditions: the table and the history lie in memory; numbers of 64 bits. -/
import Derived.Test.YtgdegbmakbfaaaaDoorPZ
import Derived.Test.YtgdegbmakbfaaaaDoorPN
namespace Go.Proofs.YtgdegbmakbfaaaaDoor
open Go.RowKit Go.PlainAid Ln
set_option linter.unusedVariables false
set_option linter.unusedSimpArgs false

/-- what is asked of the events that came in -/
def InE (ys : List YE) : Prop := ∀ i, i < ys.length → bdE (ye ys i).1 ∧ LgE (ye ys i).1 ∧ (Lit.int .i64 (ye ys i).1.c.1).wf = true
theorem wf_i64 {n : Int} (h : -9223372036854775808 ≤ n ∧ n ≤ 9223372036854775807) : (Lit.int .i64 n).wf = true := by
  have h1 : IntKind.i64.min ≤ n := Int.le_trans (by decide) h.1
  have h2 : n ≤ IntKind.i64.max := Int.le_trans h.2 (by decide)
  show (decide (IntKind.i64.min ≤ n) && decide (n ≤ IntKind.i64.max)) = true
  rw [decide_eq_true h1, decide_eq_true h2]; rfl
theorem ine_kv {ys : List YE} (h : InE ys) : ∀ i, i < ys.length → KV (ye ys i).1.c := fun i hi => by
  obtain ⟨h1, h2, h3⟩ := h i hi
  exact ⟨h3, wf_i64 h1.2.1, by have := h2.1; unfold maxLen; omega⟩
set_option maxRecDepth 100000 in
set_option maxHeartbeats 8000000 in
theorem law_checks (v : Value) (ys : List YE) (w : World) (ht : Tb w) (hy : YSl w v ys) (hi : InL w ys) (hb : InE ys) : Calls Tryd.prog 3 #[v] w fun e w' => e = .returned (.bool true) ∧ Below w.heap.size w w' := by
  have HT : Hid (Tb w) := ht
  have HY : Hid (YSl w v ys) := hy
  have HI : Hid (InL w ys) := hi
  have HK : Hid (∀ i, i < ys.length → KV (ye ys i).1.c) := ine_kv hb
  have HG : Hid (∀ i, i < ys.length → LgE (ye ys i).1) := fun i h => (hb i h).2.1
  clear ht hy hi hb
  go_enter Tryd.func3, Tryd.ntmps3
  go_wp2_with fail
  refine (wakes_p _ HT.out).mono ?_
  rintro e w1 ⟨rfl, b1⟩
  have Hb1 : Hid (Below w.heap.size w w1) := b1
  clear b1
  go_wp2_with fail
  refine (rgreat_h v ys 60 w1 (HY.out.later Hb1.out) (HI.out.later Hb1.out) HG.out).mono ?_
  rintro e w2 ⟨g, rfl, hsm, b2⟩
  have Hb2 : Hid (Below w.heap.size w w2) := below_next Hb1.out b2
  clear b2
  cases g
  case true =>
    go_wp2
    go_ret
    exact ⟨rfl, Hb2.out⟩
  obtain ⟨hl, hse⟩ := hsm rfl
  have HL : Hid (ys.length ≤ 60) := hl
  have HZ : Hid (∀ i, i < ys.length → SzE (ye ys i).1) := fun i h => (hse i h).sz
  clear hsm hl hse
  go_wp2_with fail
  refine (check_any v ys w2 (HY.out.later Hb2.out) (HI.out.later Hb2.out) HZ.out HK.out (by have := HL.out; omega) (HT.out.later Hb2.out)).mono ?_
  rintro e w3 ⟨rfl, b3⟩
  have Hb3 : Hid (Below w.heap.size w w3) := below_next Hb2.out b3
  clear b3
  have HR : Hid (∀ w', Below w.heap.size w w' → Calls Tryd.prog 11 #[v] w' fun e w'' => e = .returned (.tuple #[.int .i64 (checkE (ys.map (·.1))).1, .int .i64 (checkE (ys.map (·.1))).2]) ∧ Below w'.heap.size w' w'') :=
    fun w' h => rcheck_any v ys w' (HY.out.later h) (HI.out.later h) HZ.out (by have := HL.out; omega)
  generalize checkE (ys.map (·.1)) = ck at *
  go_wp2_with fail
  have B1 := FBox.new w3 ck.1 ck.2 27
  have hb4 := below_more Hb3.out (.cells #[.int .i64 ck.1, .int .i64 ck.2] 27)
  obtain ⟨p, hp⟩ : ∃ p, p = w3.heap.size := ⟨_, rfl⟩
  rw [← hp] at B1 ⊢
  clear hp
  generalize w3.alloc (.cells #[.int .i64 ck.1, .int .i64 ck.2] 27) = w4 at B1 hb4 ⊢
  refine (HR.out w4 hb4).mono ?_
  rintro e w5 ⟨rfl, b5⟩
  obtain ⟨c6, c0, c1, z0, z1⟩ := B1.later b5
  have Hb5 : Hid (Below w.heap.size w w5) := below_next hb4 b5
  clear b5 hb4 B1
  go_wp2
  go_ret
  exact ⟨rfl, Hb5.out⟩
end Go.Proofs.YtgdegbmakbfaaaaDoor
