/- Plain mathematics: the first fault of a line's words, case by case; which type a word is. No conditions. -/
import Derived.Test.YtdhlheilgagcpaaGreatDoorEI
namespace Go.Proofs.YtdhlheilgagcpaaGreatDoor
open Go.RowKit Go.PlainAid Ln
set_option linter.unusedVariables false

theorem e3_eq (L : List (List UInt8)) : e3 0 L = kp (tkF 0 (eT L).2 (L.drop 1)) (mf (decide (0 < eY L))) := by unfold e3; rw [kp_0, tail1]
theorem tail3 (L : List (List UInt8)) : L.tail.tail.tail = L.drop 3 := by rcases L with _ | ⟨a, _ | ⟨b, _ | ⟨c, r⟩⟩⟩ <;> rfl
theorem tail2 (L : List (List UInt8)) : L.tail.tail = L.drop 2 := by rcases L with _ | ⟨a, _ | ⟨b, r⟩⟩ <;> rfl
theorem l3_eq (L : List (List UInt8)) : l3 L = L.drop 3 := tail3 L
theorem l6_eq (L : List (List UInt8)) : l6 L = (L.drop 3).drop 3 := by unfold l6; rw [l3_eq, tail3]
theorem eY_eq (L : List (List UInt8)) : eY L = wI tn 5 (hdW (L.drop 2)) := by unfold eY; rw [tail2]
theorem eT_eq (L : List (List UInt8)) : eT L = cntR (hdW (L.drop 0)) 9223372036854775807 := rfl
/-- a fault ahead of what the type asks for stays -/
theorem eF_e3 {L : List (List UInt8)} (h : e3 0 L ≠ 0) : eF 0 L = e3 0 L := by
  unfold eF
  split
  · rw [cF_ne h, aF_ne h, kp_ne h]
  · split
    · exact rF_ne h _ _
    · exact kp_ne h _
theorem eF_time {L : List (List UInt8)} (h : (eT L).2 ≠ 0) : eF 0 L = (eT L).2 := by
  have e : e3 0 L = (eT L).2 := by rw [e3_eq, tkF_ne h, kp_ne h]
  rw [eF_e3 (by rw [e]; exact h), e]
theorem eF_client {L : List (List UInt8)} (h0 : (eT L).2 = 0) (h : nE (hdW (L.drop 1)) ≠ 0) : eF 0 L = nE (hdW (L.drop 1)) := by
  have e : e3 0 L = nE (hdW (L.drop 1)) := by rw [e3_eq, h0, tkF_name 0 (by decide), kp_ne h]
  rw [eF_e3 (by rw [e]; exact h), e]
theorem e3_type {L : List (List UInt8)} (h0 : (eT L).2 = 0) (h : nE (hdW (L.drop 1)) = 0) : e3 0 L = mf (decide (0 < eY L)) := by
  rw [e3_eq, h0, tkF_name 0 (by decide), h, kp_0]
theorem eF_type {L : List (List UInt8)} (h0 : (eT L).2 = 0) (h : nE (hdW (L.drop 1)) = 0) (hy : eY L = 0) : eF 0 L = 2 := by
  have e : e3 0 L = 2 := by rw [e3_type h0 h, hy]; rfl
  rw [eF_e3 (by rw [e]; decide), e]
theorem e3_zero {L : List (List UInt8)} (h0 : (eT L).2 = 0) (h : nE (hdW (L.drop 1)) = 0) (hy : 0 < eY L) : e3 0 L = 0 := by
  rw [e3_type h0 h, decide_eq_true hy]; rfl
theorem eF_invoke {L : List (List UInt8)} (h3 : e3 0 L = 0) (hy : eY L = 1) : eF 0 L = vF (L.drop 3) := by
  unfold eF vF
  rw [if_pos hy, h3, l6_eq, l3_eq]
theorem eF_ok {L : List (List UInt8)} (h3 : e3 0 L = 0) (hy : eY L = 2) : eF 0 L = rF 0 (L.drop 3) (L.drop 3).length := by
  unfold eF
  rw [if_neg (by omega), if_pos hy, h3, l3_eq]
theorem eF_else {L : List (List UInt8)} (h3 : e3 0 L = 0) (h1 : ¬ eY L = 1) (h2 : ¬ eY L = 2) : eF 0 L = mf (!decide (0 < (L.drop 3).length)) := by
  unfold eF
  rw [if_neg h1, if_neg h2, h3, l3_eq, kp_0]
theorem eY_lt (L : List (List UInt8)) : eY L < 5 := by
  rw [eY_eq]
  rcases isW_wI tn 5 (hdW (L.drop 2)) with ⟨h, _⟩ | ⟨h, _⟩ <;> omega
theorem eY_none {L : List (List UInt8)} (h : L.length ≤ 2) : eY L = 0 := by rw [eY_eq, hdW_none L 2 h]; exact t_empty
/-- which word a type's number is -/
theorem ty_of (S : ByteArray) (k : Nat) (hk : 0 < k) (h5 : k < 5) : ((tn (k : Int)).toList == S.toList) = decide (wI tn 5 S = k) := by
  by_cases h : wI tn 5 S = k
  · rw [decide_eq_true h]
    rcases isW_wI tn 5 S with ⟨_, h2⟩ | ⟨h2, _⟩
    · rw [h] at h2; exact h2
    · omega
  · rw [decide_eq_false h]
    cases hb : ((tn (k : Int)).toList == S.toList)
    · rfl
    · exact absurd (isW_eq apart_t (.inl ⟨h5, hb⟩)).symm h
end Go.Proofs.YtdhlheilgagcpaaGreatDoor
