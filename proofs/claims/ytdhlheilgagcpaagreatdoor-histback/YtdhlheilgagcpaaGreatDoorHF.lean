/- The contract of what wakes a statement: the examples. Conditions: the tables lie in memory. -/
import Derived.Test.YtdhlheilgagcpaaGreatDoorHC
import Derived.Test.YtdhlheilgagcpaaGreatDoorBK
namespace Go.Proofs.YtdhlheilgagcpaaGreatDoor
open Go.RowKit Go.PlainAid Ln
set_option linter.unusedVariables false
set_option linter.unusedSimpArgs false

theorem ex_none : hR (tx ⟨#[]⟩) = ([], 0, 0) := hR_ok (t := []) rfl (fun i hi => absurd hi (Nat.not_lt_zero i))
theorem ex_bad : hR (tx ⟨#[53, 32, 97, 32, 111, 107]⟩) = ([], 2, 1) := by
  have h : (cutL 10 [53, 32, 97, 32, 111, 107]).2 ≠ [] ∧ (cutL 10 [53, 32, 97, 32, 111, 107]).1.length = 0 := by decide
  have := hR_split (t := [53, 32, 97, 32, 111, 107]) h.1
  rw [h.2] at this
  exact this
theorem hparse_short (s : ByteArray) (w : World) (ht : Tbs w) (hz : s.size ≤ 900000) : Calls Tryz.prog 6 #[.string s] w fun e w' => PHist w (tx s) e w' :=
  hparse_any s w ht (by omega) (fun l hl => by have := line_le hl; rw [tx_len] at this; omega)

set_option maxHeartbeats 1600000 in
theorem wakes_h (w : World) (ht : Tbs w) : Calls Tryz.prog 5 #[] w fun e w' => e = .returned (.bool true) ∧ Below w.heap.size w w' := by
  have HT : Hid (Tbs w) := ht
  have h1 := fun w' (hb : Below w.heap.size w w') => hparse_short ⟨#[]⟩ w' (HT.out.later hb) (by decide)
  have h2 := fun w' (hb : Below w.heap.size w w') => hparse_short ⟨#[53, 32, 97, 32, 111, 107]⟩ w' (HT.out.later hb) (by decide)
  unfold PHist at h1 h2
  rw [ex_none] at h1
  rw [ex_bad] at h2
  clear ht
  have hq := eqF
  have hg := eqgF
  have hs := eqfB_self
  go_enter Tryz.func5, Tryz.ntmps5
  go_wp2_with fail
  refine (h1 _ (Below.refl _ _)).mono ?_
  rintro e w1 ⟨v, ys, rfl, hm, ho, _, _, hb1⟩
  obtain rfl : ys = [] := List.map_eq_nil_iff.1 hm
  obtain ⟨a, c, rfl⟩ := ho.form
  clear hm ho
  go_wp2_with fail
  have B1 := FBox.new w1 0 0 26
  have hb1' := below_more hb1 (.cells #[.int .i64 0, .int .i64 0] 26)
  obtain ⟨p, hp⟩ : ∃ p, p = w1.heap.size := ⟨_, rfl⟩
  rw [← hp] at B1 ⊢
  clear hp hb1
  generalize w1.alloc (.cells #[.int .i64 0, .int .i64 0] 26) = w2 at B1 hb1' ⊢
  refine (h2 _ hb1').mono ?_
  rintro e w3 ⟨v, ys, rfl, hm, ho, _, _, hb3⟩
  obtain rfl : ys = [] := List.map_eq_nil_iff.1 hm
  obtain ⟨a', c', rfl⟩ := ho.form
  clear hm ho
  replace B1 := B1.later hb3
  have B2 := FBox.new w3 2 1 26
  have B3 := B1.later (below_more (Below.refl _ _) (.cells #[.int .i64 2, .int .i64 1] 26))
  have hb4 := below_more (below_next hb1' hb3) (.cells #[.int .i64 2, .int .i64 1] 26)
  clear hb1' hb3 B1
  obtain ⟨c6, c0, c1, z0, z1⟩ := B2
  obtain ⟨d6, d0, d1, y0, y1⟩ := B3
  go_wp2
  go_ret
  exact ⟨rfl, hb4⟩
end Go.Proofs.YtdhlheilgagcpaaGreatDoor
