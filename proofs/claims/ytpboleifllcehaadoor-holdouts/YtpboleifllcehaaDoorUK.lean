/- That what comes out may come out; what came out, written over. No conditions. -/
import Derived.Test.YtpboleifllcehaaDoorUJ
namespace Go.Proofs.YtpboleifllcehaaDoor
open Go.RowKit Go.PlainAid Ln Go.Sort
set_option linter.unusedVariables false
set_option linter.unusedSimpArgs false

/-- nothing, or a name; its text is short -/
def KeptV (x : Val) : Prop := (x = noV ∨ nV x = true) ∧ x.2.2.size ≤ 100
theorem kept_noV : KeptV noV := ⟨.inl rfl, Nat.zero_le _⟩
def namesRw (r : Rw) : Bool := decide (ownM r.m = true → ∀ d ∈ r.inn, 0 ≤ d ∧ d ≤ 4)
theorem namesRw_all (m o : Int) : namesRw (fr m o) = true := fr_all (p := namesRw) (by kernel_rfl) m o
/-- what is handed in are names -/
theorem may_names {m : Int} {d : Dd} (hm : ownM m = true) (h : mayD m d = true) {i : Nat} (hi : i < d.a.length) : nV (nv d.a i) = true := by
  unfold mayD at h
  simp only [Bool.and_eq_true] at h
  obtain ⟨_, hf, hl⟩ := h
  obtain ⟨e1, e2⟩ := fr_m hf
  have k := of_decide_eq_true (namesRw_all m d.o : decide _ = true)
  rw [e1] at k
  have hlen := fitsL_len' hl
  have hd := k hm (nth (fr m d.o).inn i) (by rw [nth_eq _ i (by omega)]; exact List.getElem_mem _)
  have := fitsL_at hl hi
  rw [takesB_n hd] at this
  exact this
theorem kept_nx {m : Int} {x : Val} {d : Dd} (hm : ownM m = true) (h : mayD m d = true) (hx : KeptV x) (hf : FewD d) : KeptV (nxV m x d) := by
  have key : ∀ i, i < d.a.length → KeptV (nv d.a i) := fun i hi => ⟨.inr (may_names hm h hi), hf.2.2 i hi⟩
  rcases may_cases hm h with ⟨a, b⟩ | ⟨a, _, b⟩ | ⟨a, b, _⟩
  · rw [nxV_o (by omega) (by omega)]; exact hx
  · rw [nxV_3 a]
    split
    · exact key 1 (by omega)
    · exact hx
  · by_cases h9 : m = 9
    · rw [nxV_9 a h9]
      split
      · exact key 0 (by omega)
      · exact hx
    · rw [nxV_1 a h9]; exact key 0 (by omega)
/-- what these models' signs say of what comes out -/
def outRw (r : Rw) : Bool := decide (ownM r.m = true → (r.o = 2 → r.out.length = 1 ∧ r.c = 1 ∧ 0 ≤ nth r.out 0 ∧ nth r.out 0 ≤ 4) ∧ (r.o = 3 → r.out = [6] ∧ r.c = 0) ∧ (r.o = 1 → r.out.length = 0 ∧ r.c = 0))
theorem outRw_all (m o : Int) : outRw (fr m o) = true := fr_all (p := outRw) (by kernel_rfl) m o
theorem outs_one {r : Rw} {x : Val} (hl : r.out.length = 1) (hc : ¬ r.c = 2) (h : letsB r.c (nth r.out 0) x.1 x.2.1 x.2.2 = true) : outsOK r [x] = true := by
  unfold outsOK
  rw [Bool.and_eq_true]
  refine ⟨?_, decide_eq_true fun i hi => ?_⟩
  · unfold manyB; rw [if_neg hc]; exact decide_eq_true (by rw [hl]; rfl)
  · have e : i = 0 := by simpa using hi
    subst e
    unfold letV domI
    rw [hl]
    exact h
theorem yes_lets (b : Bool) : letsB 0 6 (yesV b).1 (yesV b).2.1 (yesV b).2.2 = true := by cases b <;> kernel_rfl
theorem outs_fit {m : Int} {x : Val} {d : Dd} (hm : ownM m = true) (h : mayD m d = true) (hx : KeptV x) : (fi m d.o && outsOK (fr m d.o) (outD x d)) = true := by
  have hc := may_cases hm h
  unfold mayD at h
  simp only [Bool.and_eq_true] at h
  obtain ⟨_, hf, hl⟩ := h
  obtain ⟨e1, e2⟩ := fr_m hf
  have k := of_decide_eq_true (outRw_all m d.o : decide _ = true)
  rw [e1, e2] at k
  obtain ⟨k2, k3, k1⟩ := k hm
  rw [hf, Bool.true_and]
  rcases hc with ⟨a, _⟩ | ⟨a, _, _⟩ | ⟨a, _, _⟩
  · rw [outD_2 a]
    obtain ⟨q1, q2, q3⟩ := k2 a
    refine outs_one q1 (by omega) ?_
    unfold letsB
    rw [q2, takesB_n q3]
    rcases hx.1 with e | e
    · rw [e]; kernel_rfl
    · rw [show nameB x.1 x.2.1 x.2.2 = true from e, Bool.true_or]
  · rw [outD_3 a]
    obtain ⟨q1, q2⟩ := k3 a
    refine outs_one (by rw [q1]; rfl) (by omega) ?_
    rw [q1, q2]
    exact yes_lets _
  · rw [outD_o (by omega) (by omega)]
    obtain ⟨q1, q2⟩ := k1 a
    unfold outsOK
    rw [Bool.and_eq_true]
    refine ⟨?_, decide_eq_true fun i hi => absurd hi (Nat.not_lt_zero i)⟩
    unfold manyB; rw [if_neg (by omega)]; exact decide_eq_true (by rw [q1]; rfl)
theorem out_sz {x : Val} {d : Dd} (hx : KeptV x) : SzV (outD x d) := by
  unfold outD
  split
  · exact sz1 _ (by have := hx.2; omega)
  · split
    · exact sz1 _ (Nat.zero_le _)
    · exact sz0
/-- a row that the call owns lies in a block of its own -/
theorem own_block {w : World} {B : Nat} {v : Value} {xs : List Val} (h : OwnV w B v xs) : (v = .slice none 0 0 ∧ xs = []) ∨ ∃ g c cs, v = .slice (some ⟨g, 0, none⟩) xs.length c ∧ B ≤ g ∧ xs.length ≤ c ∧ Blk w g cs 25 ∧ xs.length * 3 ≤ cs.length := by
  obtain ⟨h1, h2⟩ := h
  rcases h2 with ⟨rfl, h0⟩ | ⟨g, cap, cur, rfl, hb, hg, hn, hc, hs, ht⟩
  · exact .inl ⟨rfl, List.eq_nil_of_length_eq_zero h0⟩
  · refine .inr ⟨g, cap, cur.toList, rfl, hb, hn, ?_, ?_⟩
    · unfold Blk; rw [hg]
    · have : cur.toList.length = cap * 3 := by simpa using hs
      rw [this]; exact Nat.mul_le_mul_right 3 hn
theorem infoI1 : (Tryd.prog.info? 3).map (·.size) = some 1 := by kernel_rfl
end Go.Proofs.YtpboleifllcehaaDoor
