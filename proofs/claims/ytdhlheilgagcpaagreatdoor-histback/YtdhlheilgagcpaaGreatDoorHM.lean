/- What a history's text is as events, or its first fault: plain mathematics. No conditions. -/
import Derived.Test.YtdhlheilgagcpaaGreatDoorEH
import Derived.Test.YtdhlheilgagcpaaGreatDoorBH
namespace Go.Proofs.YtdhlheilgagcpaaGreatDoor
open Go.RowKit Go.PlainAid Ln
set_option linter.unusedVariables false
set_option linter.unusedSimpArgs false

/-- what line k comes to: its own fault, or that there are too many -/
def cdE (L : List (List UInt8)) (k : Nat) : Int := if k < 4096 then (pE (nt L k)).2 else 5
/-- no fault in the first n lines -/
def okTo (L : List (List UInt8)) (n : Nat) : Prop := ∀ i, i < n → cdE L i = 0
def evs (L : List (List UInt8)) : List Ev := L.map fun l => (pE l).1
/-- the first line at fault, or how many there are -/
def fstE (L : List (List UInt8)) : Nat := (List.range L.length).findIdx fun k => decide (cdE L k ≠ 0)
/-- the events, the fault, its line -/
def hR (t : List UInt8) : List Ev × Int × Int :=
  if (cutL 10 t).2 = [] then (if fstE (cutL 10 t).1 < (cutL 10 t).1.length then ([], cdE (cutL 10 t).1 (fstE (cutL 10 t).1), (fstE (cutL 10 t).1 : Int) + 1) else (evs (cutL 10 t).1, 0, 0))
  else ([], 2, ((cutL 10 t).1.length : Int) + 1)

theorem fst_at {L : List (List UInt8)} {k : Nat} (hk : k < L.length) (ho : okTo L k) (hc : cdE L k ≠ 0) : fstE L = k := by
  unfold fstE
  rw [List.findIdx_eq (by simpa using hk)]
  refine ⟨by simpa using hc, fun j hj => ?_⟩
  simpa using ho j hj
theorem fst_none {L : List (List UInt8)} (ho : okTo L L.length) : fstE L = L.length := by
  unfold fstE
  rw [List.findIdx_eq_length_of_false]
  · simp
  · intro x hx
    simp at hx
    simpa using ho x hx
theorem fst_cases (L : List (List UInt8)) : (∃ k, k < L.length ∧ okTo L k ∧ cdE L k ≠ 0) ∨ okTo L L.length := by
  have key : ∀ n, n ≤ L.length → (∃ k, k < L.length ∧ okTo L k ∧ cdE L k ≠ 0) ∨ okTo L n := by
    intro n
    induction n with
    | zero => exact fun _ => .inr fun i hi => absurd hi (Nat.not_lt_zero i)
    | succ n ih =>
      intro hn
      rcases ih (by omega) with h | h
      · exact .inl h
      · by_cases hc : cdE L n = 0
        · refine .inr fun i hi => ?_
          by_cases e : i = n
          · rw [e]; exact hc
          · exact h i (by omega)
        · exact .inl ⟨n, by omega, h, hc⟩
  exact key _ (Nat.le_refl _)
theorem hR_split {t : List UInt8} (h : (cutL 10 t).2 ≠ []) : hR t = ([], 2, ((cutL 10 t).1.length : Int) + 1) := by unfold hR; rw [if_neg h]
theorem hR_bad {t : List UInt8} {k : Nat} (h : (cutL 10 t).2 = []) (hk : k < (cutL 10 t).1.length) (ho : okTo (cutL 10 t).1 k) (hc : cdE (cutL 10 t).1 k ≠ 0) : hR t = ([], cdE (cutL 10 t).1 k, (k : Int) + 1) := by
  unfold hR; rw [if_pos h, fst_at hk ho hc, if_pos hk]
theorem hR_ok {t : List UInt8} (h : (cutL 10 t).2 = []) (ho : okTo (cutL 10 t).1 (cutL 10 t).1.length) : hR t = (evs (cutL 10 t).1, 0, 0) := by
  unfold hR; rw [if_pos h, fst_none ho, if_neg (Nat.lt_irrefl _)]
/-- the three ways that a text may go -/
theorem hR_cases (t : List UInt8) : ((cutL 10 t).2 ≠ [] ∧ hR t = ([], 2, ((cutL 10 t).1.length : Int) + 1)) ∨
    (∃ k, (cutL 10 t).2 = [] ∧ k < (cutL 10 t).1.length ∧ okTo (cutL 10 t).1 k ∧ cdE (cutL 10 t).1 k ≠ 0 ∧ hR t = ([], cdE (cutL 10 t).1 k, (k : Int) + 1)) ∨
    ((cutL 10 t).2 = [] ∧ okTo (cutL 10 t).1 (cutL 10 t).1.length ∧ hR t = (evs (cutL 10 t).1, 0, 0)) := by
  by_cases h : (cutL 10 t).2 = []
  · rcases fst_cases (cutL 10 t).1 with ⟨k, h1, h2, h3⟩ | h1
    · exact .inr (.inl ⟨k, h, h1, h2, h3, hR_bad h h1 h2 h3⟩)
    · exact .inr (.inr ⟨h, h1, hR_ok h h1⟩)
  · exact .inl ⟨h, hR_split h⟩
theorem hR_fault {t : List UInt8} (h : (hR t).2.1 ≠ 0) : (hR t).1 = [] ∧ ∃ n : Nat, (hR t).2.2 = (n : Int) + 1 ∧ n ≤ (cutL 10 t).1.length := by
  rcases hR_cases t with ⟨_, e⟩ | ⟨k, _, h1, _, _, e⟩ | ⟨_, _, e⟩
  · rw [e]; exact ⟨rfl, _, rfl, Nat.le_refl _⟩
  · rw [e]; exact ⟨rfl, k, rfl, by omega⟩
  · rw [e] at h; exact absurd rfl h
theorem hR_good {t : List UInt8} (h : (hR t).2.1 = 0) : (cutL 10 t).2 = [] ∧ okTo (cutL 10 t).1 (cutL 10 t).1.length ∧ hR t = (evs (cutL 10 t).1, 0, 0) := by
  rcases hR_cases t with ⟨_, e⟩ | ⟨k, _, _, _, h3, e⟩ | ⟨h1, h2, e⟩
  · rw [e] at h; exact absurd (show (2 : Int) = 0 from h) (by decide)
  · rw [e] at h; exact absurd h h3
  · exact ⟨h1, h2, e⟩
theorem nt_in {L : List (List UInt8)} {k : Nat} (h : k < L.length) : nt L k ∈ L := by rw [nt_eq L k h]; exact List.getElem_mem h
theorem line_le {t l : List UInt8} (h : l ∈ (cutL 10 t).1) : l.length ≤ t.length := pcs_le 10 t l (by unfold pcs; simp [h])
theorem evs_take (L : List (List UInt8)) (k : Nat) (h : k < L.length) : evs (L.take (k + 1)) = evs (L.take k) ++ [(pE (nt L k)).1] := by
  unfold evs
  rw [List.take_add_one, nt_some L k h, List.map_append]; rfl
theorem evs_len (L : List (List UInt8)) : (evs L).length = L.length := by simp [evs]
theorem okTo_succ {L : List (List UInt8)} {k : Nat} (h : okTo L k) (hc : cdE L k = 0) : okTo L (k + 1) := fun i hi => by
  by_cases e : i = k
  · rw [e]; exact hc
  · exact h i (by omega)
theorem cdE_lt {L : List (List UInt8)} {k : Nat} (h : k < 4096) : cdE L k = (pE (nt L k)).2 := if_pos h
theorem cdE_ge {L : List (List UInt8)} {k : Nat} (h : ¬ k < 4096) : cdE L k = 5 := if_neg h
theorem okTo_lt {L : List (List UInt8)} {k : Nat} (h : okTo L k) : k ≤ 4096 := by
  rcases Nat.lt_or_ge 4096 k with hk | hk
  · have := h 4096 hk
    rw [cdE_ge (Nat.lt_irrefl _)] at this
    exact absurd this (by decide)
  · exact hk
/-- one text behind another -/
theorem cut_two {a : List UInt8} (b : List UInt8) (h : (cutL 10 a).2 = []) : cutL 10 (a ++ b) = ((cutL 10 a).1 ++ (cutL 10 b).1, (cutL 10 b).2) := by
  have e : cutL 10 (a ++ b) = b.foldl (stp 10) (cutL 10 a) := by unfold cutL; rw [List.foldl_append]
  have e2 : cutL 10 a = ((cutL 10 a).1, []) := Prod.ext rfl h
  rw [e, e2, foldl_shift]; rfl
theorem cdE_left {A : List (List UInt8)} (B : List (List UInt8)) {k : Nat} (h : k < A.length) : cdE (A ++ B) k = cdE A k := by
  unfold cdE
  have : nt (A ++ B) k = nt A k := by
    unfold nt; rw [List.getD_eq_getElem?_getD, List.getD_eq_getElem?_getD, List.getElem?_append_left h]
  rw [this]
theorem cdE_right (A B : List (List UInt8)) {k : Nat} (h : A.length + k < 4096) : cdE (A ++ B) (A.length + k) = cdE B k := by
  rw [cdE_lt h, cdE_lt (by omega)]
  have : nt (A ++ B) (A.length + k) = nt B k := by
    unfold nt; rw [List.getD_eq_getElem?_getD, List.getD_eq_getElem?_getD, List.getElem?_append_right (by omega), Nat.add_sub_cancel_left]
  rw [this]
theorem okTo_two {A B : List (List UInt8)} {k : Nat} (ha : okTo A A.length) (hb : okTo B k) (h : A.length + k ≤ 4096) : okTo (A ++ B) (A.length + k) := by
  intro i hi
  by_cases e : i < A.length
  · rw [cdE_left B e]; exact ha i e
  · obtain ⟨j, rfl⟩ : ∃ j, i = A.length + j := ⟨i - A.length, by omega⟩
    rw [cdE_right A B (by omega)]; exact hb j (by omega)
theorem hR_two {a b : List UInt8} (ha : (hR a).2.1 = 0) (hl : (cutL 10 a).1.length + (cutL 10 b).1.length ≤ 4096) :
    ((hR b).2.1 = 0 → hR (a ++ b) = ((hR a).1 ++ (hR b).1, 0, 0)) ∧ ((hR b).2.1 ≠ 0 → hR (a ++ b) = ([], (hR b).2.1, (hR b).2.2 + ((hR a).1.length : Int))) := by
  obtain ⟨a1, a2, a3⟩ := hR_good ha
  have hc := cut_two b a1
  have c1 : (cutL 10 (a ++ b)).1 = (cutL 10 a).1 ++ (cutL 10 b).1 := by rw [hc]
  have c2 : (cutL 10 (a ++ b)).2 = (cutL 10 b).2 := by rw [hc]
  have hla : (hR a).1.length = (cutL 10 a).1.length := by rw [a3]; exact evs_len _
  refine ⟨fun hb => ?_, fun hb => ?_⟩
  · obtain ⟨b1, b2, b3⟩ := hR_good hb
    have h := hR_ok (t := a ++ b) (by rw [c2]; exact b1) (by rw [c1, List.length_append]; exact okTo_two a2 b2 hl)
    rw [h, c1, a3, b3]
    simp [evs]
  · rw [hla]
    rcases hR_cases b with ⟨b1, e⟩ | ⟨k, b1, h1, h2, h3, e⟩ | ⟨_, _, e⟩
    · rw [hR_split (t := a ++ b) (by rw [c2]; exact b1), c1, e, List.length_append]
      simp only [Prod.mk.injEq, true_and]; omega
    · have h := hR_bad (t := a ++ b) (k := (cutL 10 a).1.length + k) (by rw [c2]; exact b1) (by rw [c1, List.length_append]; omega) (by rw [c1]; exact okTo_two a2 h2 (by omega)) (by rw [c1, cdE_right _ _ (by omega)]; exact h3)
      rw [h, c1, cdE_right _ _ (by omega), e]
      simp only [Prod.mk.injEq, true_and]; omega
    · rw [e] at hb; exact absurd rfl hb
end Go.Proofs.YtdhlheilgagcpaaGreatDoor
