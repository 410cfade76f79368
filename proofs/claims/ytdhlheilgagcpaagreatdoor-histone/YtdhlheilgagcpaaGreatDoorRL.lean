/- First faults are two; the walk of EventOne. Conditions: the tables lie in memory. -/
import Derived.Test.YtdhlheilgagcpaaGreatDoorRE
import Derived.Test.YtdhlheilgagcpaaGreatDoorEK
namespace Go.Proofs.YtdhlheilgagcpaaGreatDoor
open Go.RowKit Go.PlainAid Ln
set_option linter.unusedVariables false
set_option linter.unusedSimpArgs false

def ok3 (e : Int) : Prop := e = 0 ∨ e = 2 ∨ e = 3
theorem kp3 {f e : Int} (h1 : ok3 f) (h2 : ok3 e) : ok3 (kp f e) := by
  unfold kp; split
  · exact h2
  · exact h1
theorem mf3 (b : Bool) : ok3 (mf b) := by
  cases b
  · exact .inr (.inl rfl)
  · exact .inl rfl
theorem cnt3 (s : ByteArray) (m : Int) : ok3 (cntR s m).2 := by
  unfold cntR
  split
  · split
    · exact .inl rfl
    · exact .inr (.inr rfl)
  · exact .inr (.inl rfl)
theorem sgn3 (s : ByteArray) : ok3 (sgnR s).2 := by
  by_cases hm : bt s 0 = 45
  · by_cases h : okD (tl s)
    · by_cases h0 : valN (tl s) (tl s).size = 0
      · rw [sgnR_nought hm h h0]; exact .inr (.inl rfl)
      · by_cases h1 : (valN (tl s) (tl s).size : Int) ≤ 9223372036854775808
        · rw [sgnR_neg hm h h1 h0]; exact .inl rfl
        · rw [sgnR_great hm h h1]; exact .inr (.inr rfl)
    · rw [sgnR_bad hm h]; exact .inr (.inl rfl)
  · rw [sgnR_plain hm]; exact cnt3 _ _
theorem par3 (s : ByteArray) : ok3 (parR s).2.2.2 := by
  by_cases h1 : s.toList = [126]
  · rw [parR_none h1]; exact .inl rfl
  by_cases h2 : s.toList = [84]
  · rw [parR_yes h2]; exact .inl rfl
  by_cases h3 : s.toList = [70]
  · rw [parR_no h3]; exact .inl rfl
  by_cases h4 : wordP s
  · rw [parR_word h1 h2 h3 h4]; exact .inl rfl
  by_cases h5 : (sgnR s).2 = 0
  · rw [parR_num h1 h2 h3 h4 h5]; exact .inl rfl
  · rw [parR_bad h1 h2 h3 h4 h5]; exact sgn3 s
theorem tk3 {d f : Int} {L : List (List UInt8)} (h : ok3 f) : ok3 (tkF d f L) := kp3 (kp3 h (par3 _)) (mf3 _)
theorem aF3 {ds : List Int} {f : Int} {L : List (List UInt8)} (h : ok3 f) : ∀ k, ok3 (aF ds f L k)
  | 0 => h
  | k + 1 => tk3 (aF3 h k)
theorem rF3 {f : Int} {L : List (List UInt8)} (h : ok3 f) : ∀ k, ok3 (rF f L k)
  | 0 => h
  | k + 1 => kp3 (rF3 h k) (par3 _)
theorem cF3 {f : Int} {L : List (List UInt8)} (h : ok3 f) : ok3 (cF f L) := kp3 (tk3 (kp3 h (mf3 _))) (mf3 _)
theorem e33 {f : Int} {L : List (List UInt8)} (h : ok3 f) : ok3 (e3 f L) := kp3 (tk3 (kp3 h (cnt3 _ _))) (mf3 _)
theorem eF3 (L : List (List UInt8)) : ok3 (eF 0 L) := by
  have h0 : ok3 0 := .inl rfl
  unfold eF
  split
  · exact kp3 (aF3 (cF3 (e33 h0)) _) (mf3 _)
  · split
    · exact rF3 (e33 h0) _
    · exact kp3 (e33 h0) (mf3 _)
theorem pE_fault {l : List UInt8} (h : (pE l).2 ≠ 0) : (pE l).1 = noEv ∧ ((pE l).2 = 2 ∨ (pE l).2 = 3) := by
  unfold pE at h ⊢
  split
  · rename_i c
    rw [if_pos c] at h
    exact absurd rfl h
  · rename_i c
    rw [if_neg c] at h
    split
    · rename_i d
      rw [if_pos d] at h
      exact ⟨rfl, (eF3 _).resolve_left h⟩
    · exact ⟨rfl, .inl rfl⟩
theorem pE_r (l : List UInt8) (h : l.length ≤ 800000) : (pE l).1.r.length ≤ 900000 := by
  have h1 := pcs_len 32 (noteR l).1
  have h2 := note_le l
  unfold pE
  split
  · show (eEv _).r.length ≤ _
    unfold eEv
    split
    · exact Nat.zero_le _
    · split
      · show (aV _ _).length ≤ _
        rw [aV_len, l3_eq, List.length_drop]; omega
      · exact Nat.zero_le _
  · split <;> exact Nat.zero_le _
theorem right_aO {x : Ev} (h : rightE x = true) : ∀ i, i < x.a.length → rV (nv x.a i) = true := by
  intro i hi
  simp only [rightE, Bool.and_eq_true] at h
  have h4 := h.2
  unfold typB at h4
  split at h4
  · simp only [Bool.and_eq_true] at h4
    exact takes_rV ((fitsL_t h4.1.2.2).2 i hi)
  · split at h4
    · simp only [Bool.and_eq_true, nonB, decide_eq_true_eq] at h4
      have := h4.1.2.2.2.2.2; omega
    · split at h4
      · simp only [Bool.and_eq_true, nonB, decide_eq_true_eq] at h4
        have := h4.1.2.2.2.2.2; omega
      · cases h4
theorem right_rO {x : Ev} (h : rightE x = true) : ∀ i, i < x.r.length → rV (nv x.r i) = true := by
  intro i hi
  simp only [rightE, Bool.and_eq_true] at h
  have h4 := h.2
  unfold typB at h4
  split at h4
  · simp only [Bool.and_eq_true, decide_eq_true_eq] at h4
    have := h4.2; omega
  · split at h4
    · simp only [Bool.and_eq_true] at h4
      exact all_rV h4.2 i hi
    · split at h4
      · simp only [Bool.and_eq_true, decide_eq_true_eq] at h4
        have := h4.2; omega
      · cases h4
theorem right_sz {x : Ev} (h : rightE x = true) (hr : x.r.length ≤ 900000) : SzE x := by
  have hc : rV x.c = true := by
    simp only [rightE, Bool.and_eq_true] at h
    exact name_rV h.1.1.2
  have hk : x.k.2.2.size ≤ 40 := by
    simp only [rightE, Bool.and_eq_true] at h
    have h4 := h.2
    unfold typB at h4
    split at h4
    · simp only [Bool.and_eq_true] at h4
      exact right_size (name_rV h4.1.1)
    · split at h4
      · simp only [Bool.and_eq_true, nonB, decide_eq_true_eq] at h4
        have := h4.1.2.2.2.2.1; omega
      · split at h4
        · simp only [Bool.and_eq_true, nonB, decide_eq_true_eq] at h4
          have := h4.1.2.2.2.2.1; omega
        · cases h4
  have h1 := right_size hc
  have h2 := a_len h
  exact ⟨by omega, by omega, fun i hi => by have := right_size (right_aO h i hi); omega, fun i hi => by have := right_size (right_rO h i hi); omega, by omega, by omega⟩
end Go.Proofs.YtdhlheilgagcpaaGreatDoor
