/- The walk of HistParses. Conditions: the tables lie in memory. -/
import Derived.Test.YtdhlheilgagcpaaDoorHD
import Derived.Test.YtdhlheilgagcpaaDoorHE
import Derived.Test.YtdhlheilgagcpaaDoorHF
import Derived.Test.YtdhlheilgagcpaaDoorHL
namespace Go.Proofs.YtdhlheilgagcpaaDoor
open Go.RowKit Go.PlainAid Ln
set_option linter.unusedVariables false
set_option linter.unusedSimpArgs false

set_option maxHeartbeats 4000000 in
theorem law_hparses (s : ByteArray) (w : World) (ht : Tbs w) : Calls Tryd.prog 3 #[.string s] w fun e w' => e = .returned (.bool true) ∧ Below w.heap.size w w' := by
  have HT : Hid (Tbs w) := ht
  clear ht
  by_cases hz : 2000 < s.size
  · have hz' : (2000 : Int) < (s.size : Int) := by omega
    go_enter Tryd.func3, Tryd.ntmps3
    go_wp2_with fail
    refine (wakes_h _ HT.out).mono ?_
    rintro e w1 ⟨rfl, hb1⟩
    go_wp2
    go_ret
    exact ⟨rfl, hb1⟩
  have hz' : ¬ (2000 : Int) < (s.size : Int) := by omega
  have h1 := fun w' (hb : Below w.heap.size w w') => hparse_short s w' (HT.out.later hb) (by omega)
  have h2 := fun w' => rparse_h s w' (by omega)
  have hml := hR_ml (t := tx s) (by rw [tx_len]; omega)
  have hll := hR_len (tx s)
  rw [tx_len] at hll
  unfold PHist at h1
  unfold RHist at h2
  obtain ⟨q, hq⟩ : ∃ q, hR (tx s) = q := ⟨_, rfl⟩
  rw [hq] at h1 h2 hml hll
  clear hq
  obtain ⟨E, C, N⟩ := q
  simp only at h1 h2 hml hll
  have H1 : Hid (∀ w', Below w.heap.size w w' → _) := h1
  have H2 : Hid (∀ w', Calls Tryd.prog 7 #[.string s] w' _) := h2
  have HM : Hid (∀ x ∈ E, MlE x) := hml
  have HLL : Hid (E.length ≤ 1000000000000) := by show _ ≤ _; omega
  clear h1 h2 hml hll
  go_enter Tryd.func3, Tryd.ntmps3
  go_wp2_with fail
  refine (wakes_h _ HT.out).mono ?_
  rintro e w1 ⟨rfl, hb1⟩
  have Hb1 : Hid (Below w.heap.size w w1) := hb1
  clear hb1
  go_wp2_with fail
  refine (H1.out _ Hb1.out).mono ?_
  rintro e w2 ⟨v, ys, rfl, hm, ho, hl, _, hb2⟩
  have V1 : ESl w2 v E := by rw [← hm]; exact ho.esl hl
  have Hb2 : Hid (Below w.heap.size w w2) := below_next Hb1.out hb2
  obtain ⟨a, c, rfl⟩ := ho.form
  generalize ys.length = n at *
  clear hm ho hl hb2 ys
  go_wp2_with fail
  have B1 := FBox.new w2 C N 26
  have V2 : Hid (ESl (w2.alloc (.cells #[.int .i64 C, .int .i64 N] 26)) (.slice a n c) E) := V1.later (below_more (Below.refl _ _) _)
  have Hb3 : Hid (Below w.heap.size w (w2.alloc (.cells #[.int .i64 C, .int .i64 N] 26))) := below_more Hb2.out _
  obtain ⟨p, hp⟩ : ∃ p, p = w2.heap.size := ⟨_, rfl⟩
  rw [← hp] at B1 ⊢
  clear hp V1
  generalize w2.alloc (.cells #[.int .i64 C, .int .i64 N] 26) = w3 at B1 Hb3 V2 ⊢
  refine (H2.out w3).mono ?_
  rintro e w4 ⟨u, zs, rfl, hm, ho, hl, hb4⟩
  have V4 : Hid (ESl w4 u E) := by show ESl w4 u E; rw [← hm]; exact ho.esl hl
  have V3 : Hid (ESl w4 (.slice a n c) E) := V2.out.later hb4
  have Hb4 : Hid (Below w.heap.size w w4) := below_next Hb3.out hb4
  obtain ⟨a', c', rfl⟩ := ho.form
  generalize zs.length = n' at *
  obtain ⟨c6, c0, c1, z0, z1⟩ := B1.later hb4
  clear hm ho hl hb4 zs B1
  have hS := fun w' (hb : Below w4.heap.size w4 w') => same_h _ _ E w' (V3.out.later hb) (V4.out.later hb) HM.out HLL.out
  have HS : Hid (∀ w', Below w4.heap.size w4 w' → _) := hS
  clear hS
  go_wp2_with (go_at_call 8; refine (HS.out w4 (Below.refl _ _)).mono ?_; rintro e w5 ⟨rfl, hb5⟩)
  go_ret
  exact ⟨by simp, below_next Hb4.out hb5⟩
end Go.Proofs.YtdhlheilgagcpaaDoor
