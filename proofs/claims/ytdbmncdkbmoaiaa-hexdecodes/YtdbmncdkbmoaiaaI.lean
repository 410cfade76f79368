/- The contract of wakes: the document's examples hold, whatever lies in memory. No conditions. -/
import Derived.Test.YtdbmncdkbmoaiaaH
import Derived.Test.YtdbmncdkbmoaiaaF
namespace Go.Proofs.Ytdbmncdkbmoaiaa
open Go.RowKit Go.PlainAid
set_option linter.unusedVariables false

theorem Sl.lit (w : World) (xs : List Int) (hx : ∀ x ∈ xs, 0 ≤ x ∧ x ≤ 255) (hl : xs.length ≤ 100) : Sl (w.alloc (.cells (cells8 xs).toArray 5)) (.slice (some ⟨w.heap.size, 0, none⟩) xs.length xs.length) xs := by
  refine Sl.of_own (base := 0) ?_ hx (by omega)
  have := World.ownsRow_lit (base := 0) (e := 5) (size := 1) w (cells8 xs).toArray xs.length (Nat.zero_le _) (by unfold maxLen; omega) (by simp [cells8])
  simpa [Own] using this

/-- one call behind another -/
theorem below_next {w a b : World} (h : Below w.heap.size w a) (k : Below a.heap.size a b) : Below w.heap.size w b := h.trans (k.mono h.size)
/-- a new block -/
theorem below_more {w a : World} (h : Below w.heap.size w a) (o : Obj) : Below w.heap.size w (a.alloc o) := h.alloc h.size o

theorem bad_okD : ¬ okD ⟨#[48, 65]⟩ := by
  intro h
  have h1 := h.2 1 (by decide)
  have h2 : dig (bt ⟨#[48, 65]⟩ 1) = -1 := by decide
  omega
theorem enc_ex : strOfNums (enc [10, 255]) = ⟨#[48, 97, 102, 102]⟩ := by decide
theorem big_ex : bigB 258 (szB 3) = [0, 1, 2] := by decide
theorem same_ex : sameB [0, 1, 2] [0, 1, 2] = true := by decide

set_option maxHeartbeats 800000 in
theorem wakes_any (w : World) : Calls Try.prog 8 #[] w fun e w' => e = .returned (.bool true) ∧ Below w.heap.size w w' := by
  go_enter Try.func8, Try.ntmps8
  go_wp2_with fail
  go_at_call 10
  refine (decode_any ⟨#[48, 65]⟩ _ (by decide)).mono ?_
  rintro e w1 ⟨⟨v1, hP⟩, hb1⟩
  rcases hP with ⟨h, _⟩ | ⟨_, rfl, hv1⟩
  · exact absurd h bad_okD
  clear hv1
  go_wp2_with fail
  have s1 := Sl.lit w1 [10, 255] (by decide) (by decide)
  refine (encode_any _ [10, 255] _ s1 (by decide)).mono ?_
  rintro e w2 ⟨he, hb2⟩
  rw [enc_ex] at he
  subst he
  go_wp2_with fail
  refine (big_any 258 3 _ (by decide) (by decide)).mono ?_
  rintro e w3 ⟨v3, rfl, hv3, hb3⟩
  rw [big_ex] at hv3
  have HV : Hid (Sl w3 v3 [0, 1, 2]) := hv3
  clear hv3 s1
  go_wp2_with fail
  refine (same_any _ _ [0, 1, 2] [0, 1, 2] _ (HV.out.later ((Below.refl _ _).alloc (Nat.le_refl _) _)) (Sl.lit w3 [0, 1, 2] (by decide) (by decide))).mono ?_
  rintro e w4 ⟨he, hb4⟩
  rw [same_ex] at he
  subst he
  go_wp2
  go_ret
  exact ⟨rfl, below_next (below_more (below_next (below_next (below_more hb1 _) hb2) hb3) _) hb4⟩
end Go.Proofs.Ytdbmncdkbmoaiaa
