/- Plain mathematics of first faults; the contract of the document's name. Conditions: the text is at most 2^62 bytes. Plain mathematics: the first fault of a line's words, case by case; which type a word is. No conditions. -/
import Derived.Test.YtdhlheilgagcpaaGreatDoorEH
import Derived.Test.YtdhlheilgagcpaaGreatDoorBP
namespace Go.Proofs.YtdhlheilgagcpaaGreatDoor
open Go.RowKit Go.PlainAid Ln
set_option linter.unusedVariables false
set_option linter.unusedSimpArgs false

theorem kp_ne {f : Int} (h : f ≠ 0) (e : Int) : kp f e = f := if_neg h
theorem kp_0 (e : Int) : kp 0 e = e := if_pos rfl
theorem mf_t : mf true = 0 := rfl
theorem mf_f : mf false = 2 := rfl
theorem hdW_at (L : List (List UInt8)) (i : Nat) (h : i < L.length) : hdW (L.drop i) = bs (nt L i) := by
  unfold hdW nt
  rw [List.headD_eq_head?_getD, List.head?_drop]; rfl
theorem hdW_none (L : List (List UInt8)) (i : Nat) (h : L.length ≤ i) : hdW (L.drop i) = ⟨#[]⟩ := by
  rw [List.drop_eq_nil_of_le h]; rfl
theorem tail1 (L : List (List UInt8)) : L.tail = L.drop 1 := by cases L <;> rfl
theorem tail_d (L : List (List UInt8)) (i : Nat) : (L.drop i).tail = L.drop (i + 1) := List.tail_drop
theorem par_empty : (parR ⟨#[]⟩).2.2.2 = 2 := by decide +kernel
theorem cnt_empty : (cntR ⟨#[]⟩ 9223372036854775807).2 = 2 := by decide +kernel
theorem m_empty : wI mn 11 ⟨#[]⟩ = 0 := by decide +kernel
theorem o_empty : wI on 14 ⟨#[]⟩ = 0 := by decide +kernel
theorem t_empty : wI tn 5 ⟨#[]⟩ = 0 := by decide +kernel
theorem fi_zero (m : Int) : fi m 0 = false := by
  rcases fr_cases m 0 with ⟨k, hk, h1, h2, _⟩ | ⟨_, _, h⟩
  · have : ∀ k, k < 24 → (rwA k).o ≠ 0 := by decide +kernel
    exact absurd h2 (this k hk)
  · exact h
theorem tkF_ne {f : Int} (h : f ≠ 0) (d : Int) (L : List (List UInt8)) : tkF d f L = f := by unfold tkF; rw [kp_ne h, kp_ne h]
theorem tkF_0 (d : Int) (L : List (List UInt8)) : tkF d 0 L = kp (parR (hdW L)).2.2.2 (mf (takesB d (vOf L).1 (vOf L).2.1 (vOf L).2.2)) := by unfold tkF; rw [kp_0]; rfl
theorem aF_ne {f : Int} (h : f ≠ 0) (ds : List Int) (L : List (List UInt8)) : ∀ k, aF ds f L k = f
  | 0 => rfl
  | k + 1 => by rw [aF, aF_ne h ds L k, tkF_ne h]
theorem aF_stay {ds : List Int} {f : Int} {L : List (List UInt8)} {k : Nat} (h : aF ds f L k ≠ 0) : ∀ n, aF ds f L (k + n) = aF ds f L k
  | 0 => rfl
  | n + 1 => by rw [← Nat.add_assoc, aF, aF_stay h n, tkF_ne h]
theorem aF_le {ds : List Int} {f : Int} {L : List (List UInt8)} {k n : Nat} (h : aF ds f L k ≠ 0) (hk : k ≤ n) : aF ds f L n = aF ds f L k := by
  have := aF_stay h (n - k)
  rwa [show k + (n - k) = n by omega] at this
theorem rF_ne {f : Int} (h : f ≠ 0) (L : List (List UInt8)) : ∀ k, rF f L k = f
  | 0 => rfl
  | k + 1 => by rw [rF, rF_ne h L k, kp_ne h]
theorem rF_stay {f : Int} {L : List (List UInt8)} {k : Nat} (h : rF f L k ≠ 0) : ∀ n, rF f L (k + n) = rF f L k
  | 0 => rfl
  | n + 1 => by rw [← Nat.add_assoc, rF, rF_stay h n, kp_ne h]
theorem rF_le {f : Int} {L : List (List UInt8)} {k n : Nat} (h : rF f L k ≠ 0) (hk : k ≤ n) : rF f L n = rF f L k := by
  have := rF_stay h (n - k)
  rwa [show k + (n - k) = n by omega] at this
theorem cF_ne {f : Int} (h : f ≠ 0) (L : List (List UInt8)) : cF f L = f := by unfold cF; rw [kp_ne h, tkF_ne h, kp_ne h]

/-- the first fault of what stands behind the type of an Invoke -/
def vF (M : List (List UInt8)) : Int := kp (aF (cD M) (cF 0 M) (M.drop 3) (cD M).length) (mf (!decide (0 < ((M.drop 3).drop (cD M).length).length)))
theorem vF_of {M : List (List UInt8)} (h : cF 0 M ≠ 0) : vF M = cF 0 M := by unfold vF; rw [aF_ne h, kp_ne h]
theorem cF_model {M : List (List UInt8)} (h : cM M = 0) : cF 0 M = 2 := by
  unfold cF; rw [h, kp_0]
  show kp (tkF 1 2 _) _ = 2
  rw [tkF_ne (by decide), kp_ne (by decide)]
theorem cF_key {M : List (List UInt8)} (h : 0 < cM M) (hk : tkF 1 0 (M.drop 1) ≠ 0) : cF 0 M = tkF 1 0 (M.drop 1) := by
  unfold cF; rw [decide_eq_true h, kp_0, mf_t, tail1, kp_ne hk]
theorem cF_can {M : List (List UInt8)} (h : 0 < cM M) (hk : tkF 1 0 (M.drop 1) = 0) : cF 0 M = mf (fi (cM M) (cO M)) := by
  unfold cF; rw [decide_eq_true h, kp_0, mf_t, tail1, hk, kp_0]

/-- the error of a word as a name -/
def nE (s : ByteArray) : Int := kp (parR s).2.2.2 (mf (nameB (parR s).1 (parR s).2.1 (parR s).2.2.1))
theorem tkF_name (d : Int) (hd : 0 ≤ d ∧ d ≤ 4) (L : List (List UInt8)) : tkF d 0 L = nE (hdW L) := by rw [tkF_0, takesB_n hd]; rfl
end Go.Proofs.YtdhlheilgagcpaaGreatDoor
namespace Go.Proofs.YtdhlheilgagcpaaGreatDoor
open Go.RowKit Go.PlainAid Ln
set_option linter.unusedVariables false

theorem e3_eq (L : List (List UInt8)) : e3 0 L = kp (tkF 0 (eT L).2 (L.drop 1)) (mf (decide (0 < eY L))) := by unfold e3; rw [kp_0, tail1]
theorem tail3 (L : List (List UInt8)) : L.tail.tail.tail = L.drop 3 := by rcases L with _ | ⟨a, _ | ⟨b, _ | ⟨c, r⟩⟩⟩ <;> rfl
theorem tail2 (L : List (List UInt8)) : L.tail.tail = L.drop 2 := by rcases L with _ | ⟨a, _ | ⟨b, r⟩⟩ <;> rfl
theorem l3_eq (L : List (List UInt8)) : l3 L = L.drop 3 := tail3 L
theorem l6_eq (L : List (List UInt8)) : l6 L = (L.drop 3).drop 3 := by unfold l6; rw [l3_eq, tail3]
theorem eY_eq (L : List (List UInt8)) : eY L = wI tn 5 (hdW (L.drop 2)) := by unfold eY; rw [tail2]
theorem eT_eq (L : List (List UInt8)) : eT L = cntR (hdW (L.drop 0)) 9223372036854775807 := rfl
/-- a fault ahead of what the type asks for stays -/
theorem eF_e3 {L : List (List UInt8)} (h : e3 0 L ≠ 0) : eF 0 L = e3 0 L := by
  unfold eF
  split
  · rw [cF_ne h, aF_ne h, kp_ne h]
  · split
    · exact rF_ne h _ _
    · exact kp_ne h _
theorem eF_time {L : List (List UInt8)} (h : (eT L).2 ≠ 0) : eF 0 L = (eT L).2 := by
  have e : e3 0 L = (eT L).2 := by rw [e3_eq, tkF_ne h, kp_ne h]
  rw [eF_e3 (by rw [e]; exact h), e]
theorem eF_client {L : List (List UInt8)} (h0 : (eT L).2 = 0) (h : nE (hdW (L.drop 1)) ≠ 0) : eF 0 L = nE (hdW (L.drop 1)) := by
  have e : e3 0 L = nE (hdW (L.drop 1)) := by rw [e3_eq, h0, tkF_name 0 (by decide), kp_ne h]
  rw [eF_e3 (by rw [e]; exact h), e]
theorem e3_type {L : List (List UInt8)} (h0 : (eT L).2 = 0) (h : nE (hdW (L.drop 1)) = 0) : e3 0 L = mf (decide (0 < eY L)) := by
  rw [e3_eq, h0, tkF_name 0 (by decide), h, kp_0]
theorem eF_type {L : List (List UInt8)} (h0 : (eT L).2 = 0) (h : nE (hdW (L.drop 1)) = 0) (hy : eY L = 0) : eF 0 L = 2 := by
  have e : e3 0 L = 2 := by rw [e3_type h0 h, hy]; rfl
  rw [eF_e3 (by rw [e]; decide), e]
theorem e3_zero {L : List (List UInt8)} (h0 : (eT L).2 = 0) (h : nE (hdW (L.drop 1)) = 0) (hy : 0 < eY L) : e3 0 L = 0 := by
  rw [e3_type h0 h, decide_eq_true hy]; rfl
theorem eF_invoke {L : List (List UInt8)} (h3 : e3 0 L = 0) (hy : eY L = 1) : eF 0 L = vF (L.drop 3) := by
  unfold eF vF
  rw [if_pos hy, h3, l6_eq, l3_eq]
theorem eF_ok {L : List (List UInt8)} (h3 : e3 0 L = 0) (hy : eY L = 2) : eF 0 L = rF 0 (L.drop 3) (L.drop 3).length := by
  unfold eF
  rw [if_neg (by omega), if_pos hy, h3, l3_eq]
theorem eF_else {L : List (List UInt8)} (h3 : e3 0 L = 0) (h1 : ¬ eY L = 1) (h2 : ¬ eY L = 2) : eF 0 L = mf (!decide (0 < (L.drop 3).length)) := by
  unfold eF
  rw [if_neg h1, if_neg h2, h3, l3_eq, kp_0]
theorem eY_lt (L : List (List UInt8)) : eY L < 5 := by
  rw [eY_eq]
  rcases isW_wI tn 5 (hdW (L.drop 2)) with ⟨h, _⟩ | ⟨h, _⟩ <;> omega
theorem eY_none {L : List (List UInt8)} (h : L.length ≤ 2) : eY L = 0 := by rw [eY_eq, hdW_none L 2 h]; exact t_empty
/-- which word a type's number is -/
theorem ty_of (S : ByteArray) (k : Nat) (hk : 0 < k) (h5 : k < 5) : ((tn (k : Int)).toList == S.toList) = decide (wI tn 5 S = k) := by
  by_cases h : wI tn 5 S = k
  · rw [decide_eq_true h]
    rcases isW_wI tn 5 S with ⟨_, h2⟩ | ⟨h2, _⟩
    · rw [h] at h2; exact h2
    · omega
  · rw [decide_eq_false h]
    cases hb : ((tn (k : Int)).toList == S.toList)
    · rfl
    · exact absurd (isW_eq apart_t (.inl ⟨h5, hb⟩)).symm h
end Go.Proofs.YtdhlheilgagcpaaGreatDoor
