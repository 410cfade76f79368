/- The walk of MacSums. Conditions: the table holds the rounds' numbers. -/
import Derived.Test.YtidonnilklplhaaDoorMJ
import Derived.Test.YtidonnilklplhaaDoorMH
import Derived.Test.YtidonnilklplhaaDoorU
namespace Go.Proofs.YtidonnilklplhaaDoor
open Go.RowKit Hx
set_option linter.unusedVariables false

theorem few_two {a b : List Int} (h : Few [a, b]) : a.length ≤ 300 ∧ b.length ≤ 300 := ⟨h.2 0 (by simp), h.2 1 (by simp)⟩
theorem sl_form {w : World} {v : Value} {xs : List Int} (h : Sl w v xs) : ∃ a n c, v = .slice a n c := by obtain ⟨a, c, h, _⟩ := h; exact ⟨a, _, c, h⟩

set_option maxRecDepth 100000 in
set_option maxHeartbeats 1000000 in
theorem law_sums (v u : Value) (key bs : List Int) (w : World) (hK : Kt w) (hv : Sl w v key) (hu : Sl w u bs) (hnv : ∀ n c, v = .slice none n c → n = 0 ∧ c = 0) (hnu : ∀ n c, u = .slice none n c → n = 0 ∧ c = 0) :
    Calls Tryd.prog 3 #[v, u] w fun en w' => en = .returned (.bool true) ∧ Below w.heap.size w w' := by
  have hk0 := hK.pos
  obtain ⟨a, na, ca, rfl⟩ := sl_form hv
  obtain ⟨b, nb, cb, rfl⟩ := sl_form hu
  obtain ⟨S, hS⟩ : ∃ S, sealB key bs = S := ⟨_, rfl⟩
  have h32 : S.length = 32 := by rw [← hS]; exact sealB_len _ _
  have HS : Hid (sealB key bs = S) := hS
  have HF : Hid (sealB key ([bs] : List (List Int)).flatten = S) := by show _ = _; rw [← hS]; simp
  clear hS
  go_enter Tryd.func3, Tryd.ntmps3
  go_wp2_with fail
  refine (wakes_any _ hK).mono ?_
  rintro e w1 ⟨rfl, hb1⟩
  have v1 := hv.later hb1
  have u1 := hu.later hb1
  go_wp2_with fail
  have p2 := psl_two v1 u1 22
  have hb2 : Below w1.heap.size w1 (w1.alloc (.cells #[.slice a na ca, .slice b nb cb] 22)) := (Below.refl _ _).alloc (Nat.le_refl _) _
  generalize w1.alloc (.cells #[.slice a na ca, .slice b nb cb] 22) = w2 at p2 hb2 ⊢
  have hB2 := below_next hb1 hb2
  refine (great_any _ [key, bs] w2 p2).mono ?_
  rintro e w3 ⟨bb, rfl, hf, rfl⟩
  cases bb with
  | true =>
    go_wp2
    go_ret
    exact ⟨rfl, hB2⟩
  | false =>
    obtain ⟨hk3, hb3⟩ := few_two (hf rfl)
    have v2 := v1.later hb2
    have u2 := u1.later hb2
    clear v1 u1 hb1 hb2 p2 hf
    go_wp2_with fail
    have p3 := psl_one u2 (.cells #[.slice b nb cb] 22) ⟨_, rfl⟩
    have hb3' : Below w3.heap.size w3 (w3.alloc (.cells #[.slice b nb cb] 22)) := (Below.refl _ _).alloc (Nat.le_refl _) _
    generalize w3.alloc (.cells #[.slice b nb cb] 22) = w4 at p3 hb3' ⊢
    have hB4 := below_next hB2 hb3'
    refine (msum_any _ _ key [bs] w4 (hK.below hB4 hk0) (v2.later hb3') p3 (by omega) (by simp; omega)).mono ?_
    rintro e w5 ⟨rfl, hb5⟩
    rw [HF.out]
    have v5 := (v2.later hb3').later hb5
    have u5 := (u2.later hb3').later hb5
    have hB5 := below_next hB4 hb5
    clear p3 v2 u2 hb3' hb5 hB4 hB2
    go_wp2_with fail
    refine (rmsum_any _ _ key bs w5 v5 hnv u5 hnu (by omega) (by omega)).mono ?_
    rintro e w6 ⟨rfl, hb6⟩
    rw [HS.out]
    have hB6 := below_next hB5 hb6
    clear v5 u5 hb6 hB5 hv hu hnv hnu
    have e1 := fun (w : World) => eqg24 S (.tmp 15) (.tmp 18) w
    have e2 := fun (w : World) => eq24 S h32 w
    go_wp2
    go_ret
    exact ⟨rfl, hB6⟩
end Go.Proofs.YtidonnilklplhaaDoor
