/- Plain mathematics of first faults; the contract of the document's name. Conditions: the text is at most 2^62 bytes. -/
import Derived.Test.YtdhlheilgagcpaaGreatDoorEH
import Derived.Test.YtdhlheilgagcpaaGreatDoorBP
namespace Go.Proofs.YtdhlheilgagcpaaGreatDoor
open Go.RowKit Go.PlainAid Ln
set_option linter.unusedVariables false
set_option linter.unusedSimpArgs false

theorem kp_ne {f : Int} (h : f ≠ 0) (e : Int) : kp f e = f := if_neg h
theorem kp_0 (e : Int) : kp 0 e = e := if_pos rfl
theorem mf_t : mf true = 0 := rfl
theorem mf_f : mf false = 2 := rfl
theorem hdW_at (L : List (List UInt8)) (i : Nat) (h : i < L.length) : hdW (L.drop i) = bs (nt L i) := by
  unfold hdW nt
  rw [List.headD_eq_head?_getD, List.head?_drop]; rfl
theorem hdW_none (L : List (List UInt8)) (i : Nat) (h : L.length ≤ i) : hdW (L.drop i) = ⟨#[]⟩ := by
  rw [List.drop_eq_nil_of_le h]; rfl
theorem tail1 (L : List (List UInt8)) : L.tail = L.drop 1 := by cases L <;> rfl
theorem tail_d (L : List (List UInt8)) (i : Nat) : (L.drop i).tail = L.drop (i + 1) := List.tail_drop
theorem par_empty : (parR ⟨#[]⟩).2.2.2 = 2 := by decide +kernel
theorem cnt_empty : (cntR ⟨#[]⟩ 9223372036854775807).2 = 2 := by decide +kernel
theorem m_empty : wI mn 11 ⟨#[]⟩ = 0 := by decide +kernel
theorem o_empty : wI on 14 ⟨#[]⟩ = 0 := by decide +kernel
theorem t_empty : wI tn 5 ⟨#[]⟩ = 0 := by decide +kernel
theorem fi_zero (m : Int) : fi m 0 = false := by
  rcases fr_cases m 0 with ⟨k, hk, h1, h2, _⟩ | ⟨_, _, h⟩
  · have : ∀ k, k < 24 → (rwA k).o ≠ 0 := by decide +kernel
    exact absurd h2 (this k hk)
  · exact h
theorem tkF_ne {f : Int} (h : f ≠ 0) (d : Int) (L : List (List UInt8)) : tkF d f L = f := by unfold tkF; rw [kp_ne h, kp_ne h]
theorem tkF_0 (d : Int) (L : List (List UInt8)) : tkF d 0 L = kp (parR (hdW L)).2.2.2 (mf (takesB d (vOf L).1 (vOf L).2.1 (vOf L).2.2)) := by unfold tkF; rw [kp_0]; rfl
theorem aF_ne {f : Int} (h : f ≠ 0) (ds : List Int) (L : List (List UInt8)) : ∀ k, aF ds f L k = f
  | 0 => rfl
  | k + 1 => by rw [aF, aF_ne h ds L k, tkF_ne h]
theorem aF_stay {ds : List Int} {f : Int} {L : List (List UInt8)} {k : Nat} (h : aF ds f L k ≠ 0) : ∀ n, aF ds f L (k + n) = aF ds f L k
  | 0 => rfl
  | n + 1 => by rw [← Nat.add_assoc, aF, aF_stay h n, tkF_ne h]
theorem aF_le {ds : List Int} {f : Int} {L : List (List UInt8)} {k n : Nat} (h : aF ds f L k ≠ 0) (hk : k ≤ n) : aF ds f L n = aF ds f L k := by
  have := aF_stay h (n - k)
  rwa [show k + (n - k) = n by omega] at this
theorem rF_ne {f : Int} (h : f ≠ 0) (L : List (List UInt8)) : ∀ k, rF f L k = f
  | 0 => rfl
  | k + 1 => by rw [rF, rF_ne h L k, kp_ne h]
theorem rF_stay {f : Int} {L : List (List UInt8)} {k : Nat} (h : rF f L k ≠ 0) : ∀ n, rF f L (k + n) = rF f L k
  | 0 => rfl
  | n + 1 => by rw [← Nat.add_assoc, rF, rF_stay h n, kp_ne h]
theorem rF_le {f : Int} {L : List (List UInt8)} {k n : Nat} (h : rF f L k ≠ 0) (hk : k ≤ n) : rF f L n = rF f L k := by
  have := rF_stay h (n - k)
  rwa [show k + (n - k) = n by omega] at this
theorem cF_ne {f : Int} (h : f ≠ 0) (L : List (List UInt8)) : cF f L = f := by unfold cF; rw [kp_ne h, tkF_ne h, kp_ne h]

/-- the first fault of what stands behind the type of an Invoke -/
def vF (M : List (List UInt8)) : Int := kp (aF (cD M) (cF 0 M) (M.drop 3) (cD M).length) (mf (!decide (0 < ((M.drop 3).drop (cD M).length).length)))
theorem vF_of {M : List (List UInt8)} (h : cF 0 M ≠ 0) : vF M = cF 0 M := by unfold vF; rw [aF_ne h, kp_ne h]
theorem cF_model {M : List (List UInt8)} (h : cM M = 0) : cF 0 M = 2 := by
  unfold cF; rw [h, kp_0]
  show kp (tkF 1 2 _) _ = 2
  rw [tkF_ne (by decide), kp_ne (by decide)]
theorem cF_key {M : List (List UInt8)} (h : 0 < cM M) (hk : tkF 1 0 (M.drop 1) ≠ 0) : cF 0 M = tkF 1 0 (M.drop 1) := by
  unfold cF; rw [decide_eq_true h, kp_0, mf_t, tail1, kp_ne hk]
theorem cF_can {M : List (List UInt8)} (h : 0 < cM M) (hk : tkF 1 0 (M.drop 1) = 0) : cF 0 M = mf (fi (cM M) (cO M)) := by
  unfold cF; rw [decide_eq_true h, kp_0, mf_t, tail1, hk, kp_0]

/-- the error of a word as a name -/
def nE (s : ByteArray) : Int := kp (parR s).2.2.2 (mf (nameB (parR s).1 (parR s).2.1 (parR s).2.2.1))
theorem tkF_name (d : Int) (hd : 0 ≤ d ∧ d ≤ 4) (L : List (List UInt8)) : tkF d 0 L = nE (hdW L) := by rw [tkF_0, takesB_n hd]; rfl
end Go.Proofs.YtdhlheilgagcpaaGreatDoor
