/- The walk of ShaSums. Conditions: the table holds the rounds' numbers. -/
import Derived.Test.YtbfbhdhffdddeaaDoorT
import Derived.Test.YtbfbhdhffdddeaaDoorU
namespace Go.Proofs.YtbfbhdhffdddeaaDoor
open Go.RowKit Hx
set_option linter.unusedVariables false

set_option maxRecDepth 100000 in
set_option maxHeartbeats 1000000 in
theorem law_sums (v : Value) (l : List Int) (w : World) (hK : Kt w) (hv : Sl w v l) (hnil : ∀ n c, v = .slice none n c → n = 0 ∧ c = 0) :
    Calls Tryd.prog 3 #[v] w fun en w' => en = .returned (.bool true) ∧ Below w.heap.size w w' := by
  obtain ⟨a, cap, hvv⟩ : ∃ a cap, v = .slice a l.length cap := by obtain ⟨a, c, h, _⟩ := hv; exact ⟨a, c, h⟩
  subst hvv
  have hlen : l.length ≤ 9223372036854775807 := by obtain ⟨_, _, _, _, h, _⟩ := hv; exact h
  obtain ⟨S, hS⟩ : ∃ S, sumB l = S := ⟨_, rfl⟩
  have h32 : S.length = 32 := by rw [← hS]; unfold sumB; rw [dgs_len]
  have hf : sumB ([l] : List (List Int)).flatten = S := by simpa using hS
  obtain ⟨L, hL⟩ : ∃ L, l.length = L := ⟨_, rfl⟩
  rw [hL] at hv hlen hnil ⊢
  have HL : Hid (l.length = L) := hL
  have HS : Hid (sumB l = S) := hS
  have HF : Hid (sumB ([l] : List (List Int)).flatten = S) := hf
  clear hL hS hf
  go_enter Tryd.func3, Tryd.ntmps3
  go_wp2_with fail
  refine (wakes_any _ hK).mono ?_
  rintro e w1 ⟨rfl, hb1⟩
  have hv1 := hv.later hb1
  have hK1 := hK.below hb1 hK.pos
  by_cases hbig : 1000 < L
  · have hbig' : (1000 : Int) < (L : Int) := by omega
    go_wp2
    go_ret
    exact ⟨rfl, hb1⟩
  · have hbig' : ¬ (1000 : Int) < (L : Int) := by omega
    go_wp2_with fail
    have p1 := psl_one hv1 (.cells #[.slice a L cap] 22) ⟨_, rfl⟩
    have hb2 : Below w.heap.size w (w1.alloc (.cells #[.slice a L cap] 22)) := hb1.alloc (by have := hb1.size; omega) _
    generalize w1.alloc (.cells #[.slice a L cap] 22) = w2 at p1 hb2 ⊢
    have hK2 := hK.below hb2 hK.pos
    have hv2 := hv.later hb2
    refine (sum_any _ [l] w2 hK2 p1 (by have := HL.out; simp; omega)).mono ?_
    rintro e w3 ⟨rfl, hb3⟩
    rw [HF.out]
    have hv3 := hv2.later hb3
    have hb4 := below_next hb2 hb3
    clear p1 hK2 hv2 hb2 hb3 hv1 hK1
    go_wp2_with fail
    refine (rsum_any _ l w3 hv3 hnil (by have := HL.out; omega)).mono ?_
    rintro e w5 ⟨rfl, hb5⟩
    rw [HS.out]
    have hb6 := below_next hb4 hb5
    clear hb4 hb5 hv3 hv hK hb1
    have e1 := fun (w : World) => eqg24 S (.tmp 11) (.tmp 13) w
    have e2 := fun (w : World) => eq24 S h32 w
    go_wp2
    go_ret
    exact ⟨rfl, hb6⟩
end Go.Proofs.YtbfbhdhffdddeaaDoor
