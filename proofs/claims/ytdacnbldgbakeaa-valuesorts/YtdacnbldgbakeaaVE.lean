/- The contract of what wakes a statement: the examples. No conditions. -/
import Derived.Test.YtdacnbldgbakeaaVD
namespace Go.Proofs.Ytdacnbldgbakeaa
open Go.RowKit Go.PlainAid
set_option linter.unusedVariables false

theorem ex_yes : parR ⟨#[84]⟩ = (3, 1, noB, 0) := parR_yes (by rw [ByteArray.toList_eq])
theorem ex_word : parR ⟨#[116, 49]⟩ = (2, 0, ⟨#[116, 49]⟩, 0) := parR_word (by rw [ByteArray.toList_eq]; decide) (by rw [ByteArray.toList_eq]; decide) (by rw [ByteArray.toList_eq]; decide) (by decide)
theorem ex_bad : parR ⟨#[49, 116]⟩ = (0, 0, noB, 2) := by
  have h : (sgnR ⟨#[49, 116]⟩).2 = 2 := by decide
  rw [parR_bad (by rw [ByteArray.toList_eq]; decide) (by rw [ByteArray.toList_eq]; decide) (by rw [ByteArray.toList_eq]; decide) (by decide) (by rw [h]; decide), h]
theorem eqvB_self (k n : Int) (s : ByteArray) : eqvB k n s k n s = true := by unfold eqvB; simp
theorem eqvB_empty (k n : Int) : eqvB k n noB k n ⟨#[]⟩ = true := eqvB_self k n noB

set_option maxHeartbeats 1600000 in
theorem wakes_any (w : World) : Calls Try.prog 6 #[] w fun e w' => e = .returned (.bool true) ∧ Below w.heap.size w w' := by
  have h1 := vparse_any ⟨#[84]⟩
  have h2 := vparse_any ⟨#[116, 49]⟩
  have h3 := vparse_any ⟨#[49, 116]⟩
  rw [ex_yes] at h1
  rw [ex_word] at h2
  rw [ex_bad] at h3
  unfold ansV at h1 h2 h3
  have hq := eqV
  have hg := eqgV
  have e1 := eqvB_empty
  have e2 := eqvB_self
  go_enter Try.func6, Try.ntmps6
  go_wp2_with fail
  refine (h1 _ (by decide)).mono ?_
  rintro e w1 ⟨rfl, hb1⟩
  go_wp2_with fail
  have B1 := VBox.new w1 3 1 noB 25
  have hb1' := below_more hb1 (.cells #[.int .i64 3, .int .i64 1, .string noB] 25)
  obtain ⟨p, hp⟩ : ∃ p, p = w1.heap.size := ⟨_, rfl⟩
  rw [← hp] at B1 ⊢
  clear hp hb1
  generalize w1.alloc (.cells #[.int .i64 3, .int .i64 1, .string noB] 25) = w2 at B1 hb1' ⊢
  refine (h2 _ (by decide)).mono ?_
  rintro e w3 ⟨rfl, hb3⟩
  replace B1 := B1.later hb3
  replace hb3 := below_next hb1' hb3
  go_wp2_with fail
  have B2 := VBox.new w3 2 0 ⟨#[116, 49]⟩ 25
  have hb4 := below_more hb3 (.cells #[.int .i64 2, .int .i64 0, .string ⟨#[116, 49]⟩] 25)
  replace B1 := B1.later (below_more (Below.refl _ w3) (.cells #[.int .i64 2, .int .i64 0, .string ⟨#[116, 49]⟩] 25))
  obtain ⟨q, hqq⟩ : ∃ q, q = w3.heap.size := ⟨_, rfl⟩
  rw [← hqq] at B2 ⊢
  clear hqq hb3
  generalize w3.alloc (.cells #[.int .i64 2, .int .i64 0, .string ⟨#[116, 49]⟩] 25) = w4 at B1 B2 hb4 ⊢
  refine (h3 _ (by decide)).mono ?_
  rintro e w5 ⟨rfl, hb5⟩
  replace B1 := B1.later hb5
  replace B2 := B2.later hb5
  replace hb5 := below_next hb4 hb5
  obtain ⟨c6, c0, c1, c2, z0, z1, z2⟩ := B1
  obtain ⟨d6, d0, d1, d2, y0, y1, y2⟩ := B2
  go_wp2
  go_ret
  exact ⟨rfl, by first | exact hb5 | exact below_more hb5 _⟩
end Go.Proofs.Ytdacnbldgbakeaa
