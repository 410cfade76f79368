/- The walk of LineWords. No conditions. -/
import Derived.Test.YtmmlafhifnmkpaaDoorLI
import Derived.Test.YtmmlafhifnmkpaaDoorLC
import Derived.Test.YtmmlafhifnmkpaaDoorLM
import Derived.Test.YtmmlafhifnmkpaaDoorLN
namespace Go.Proofs.YtmmlafhifnmkpaaDoor
open Go.RowKit Go.PlainAid
set_option linter.unusedVariables false

set_option maxHeartbeats 4000000 in
theorem law_words (s : ByteArray) (w : World) : Calls Tryd.prog 3 #[.string s] w fun e w' => e = .returned (.bool true) ∧ Below w.heap.size w w' := by
  by_cases hs : 2000 < s.size
  · have hs' : (2000 : Int) < (s.size : Int) := by omega
    go_enter Tryd.func3, Tryd.ntmps3
    go_wp2_with fail
    refine (wakes_any _).mono ?_
    rintro e w1 ⟨rfl, hb1⟩
    go_wp2
    go_ret
    exact ⟨rfl, hb1⟩
  · have hs' : ¬ (2000 : Int) < (s.size : Int) := by omega
    have h1 := words_any s
    have h2 := rwords_any s
    have hln := pcs_len 32 (tx s)
    rw [tx_len] at hln
    go_enter Tryd.func3, Tryd.ntmps3
    go_wp2_with fail
    refine (wakes_any _).mono ?_
    rintro e w1 ⟨rfl, hb1⟩
    go_wp2_with fail
    refine (h1 _ (by omega)).mono ?_
    rintro e w2 ⟨v, hb2, ⟨hr, rfl, hv⟩ | ⟨hr, rfl⟩⟩
    · replace hb2 := below_next hb1 hb2
      have HV : Hid (SSl w2 v (pcs 32 (tx s))) := hv
      have HR : Hid ([] ∉ pcs 32 (tx s)) := hr
      obtain ⟨a, c, rfl, _⟩ := hv.form
      clear hv hr hb1
      go_wp2_with fail
      refine (h2 _ (by omega)).mono ?_
      rintro e w4 ⟨u, hb4, ⟨_, rfl, hu⟩ | ⟨hr, _⟩⟩
      case inr => exact absurd hr HR.out
      have hV := HV.out.later hb4
      replace hb4 := below_next hb2 hb4
      have hS := same_any _ _ _ _ w4 hV hu (by omega)
      rw [sameS_self] at hS
      have hJ := fun w5 (h : Below w4.heap.size w4 w5) => pjoin_any w5 _ _ (hV.later h) (by omega) (by rw [join_pcs, tx_len]; omega)
      rw [join_pcs, bs_tx] at hJ
      obtain ⟨a2, c2, rfl, _⟩ := hu.form
      clear hu hV HV HR hb2 h1 h2
      generalize (pcs 32 (tx s)).length = n at *
      go_wp2_with (first | (go_at_call 8; refine hS.mono ?_; rintro e w5 ⟨rfl, hb5⟩) | (go_at_call 9; refine (hJ _ hb5).mono ?_; rintro e w6 ⟨rfl, hb6⟩))
      go_ret
      exact ⟨rfl, below_next (below_next hb4 hb5) hb6⟩
    · replace hb2 := below_next hb1 hb2
      have HR : Hid ([] ∈ pcs 32 (tx s)) := hr
      clear hr hb1
      go_wp2_with fail
      refine (h2 _ (by omega)).mono ?_
      rintro e w4 ⟨u, hb4, ⟨hr, _, _⟩ | ⟨_, rfl⟩⟩
      · exact absurd HR.out hr
      replace hb4 := below_next hb2 hb4
      go_wp2
      go_ret
      exact ⟨rfl, hb4⟩
end Go.Proofs.YtmmlafhifnmkpaaDoor
