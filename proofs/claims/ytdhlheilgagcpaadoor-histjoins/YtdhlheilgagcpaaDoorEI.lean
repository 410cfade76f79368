/- Plain mathematics of first faults; the contract of the document's name. Conditions: the text is at most 2^62 bytes. -/
import Derived.Test.YtdhlheilgagcpaaDoorEH
import Derived.Test.YtdhlheilgagcpaaDoorBP
namespace Go.Proofs.YtdhlheilgagcpaaDoor
open Go.RowKit Go.PlainAid Ln
set_option linter.unusedVariables false
set_option linter.unusedSimpArgs false

theorem kp_ne {f : Int} (h : f ≠ 0) (e : Int) : kp f e = f := if_neg h
theorem kp_0 (e : Int) : kp 0 e = e := if_pos rfl
theorem mf_t : mf true = 0 := rfl
theorem mf_f : mf false = 2 := rfl
theorem hdW_at (L : List (List UInt8)) (i : Nat) (h : i < L.length) : hdW (L.drop i) = bs (nt L i) := by
  unfold hdW nt
  rw [List.headD_eq_head?_getD, List.head?_drop]; rfl
theorem hdW_none (L : List (List UInt8)) (i : Nat) (h : L.length ≤ i) : hdW (L.drop i) = ⟨#[]⟩ := by
  rw [List.drop_eq_nil_of_le h]; rfl
theorem tail1 (L : List (List UInt8)) : L.tail = L.drop 1 := by cases L <;> rfl
theorem tail_d (L : List (List UInt8)) (i : Nat) : (L.drop i).tail = L.drop (i + 1) := List.tail_drop
theorem par_empty : (parR ⟨#[]⟩).2.2.2 = 2 := by decide +kernel
theorem cnt_empty : (cntR ⟨#[]⟩ 9223372036854775807).2 = 2 := by decide +kernel
theorem m_empty : wI mn 11 ⟨#[]⟩ = 0 := by decide +kernel
theorem o_empty : wI on 14 ⟨#[]⟩ = 0 := by decide +kernel
theorem t_empty : wI tn 5 ⟨#[]⟩ = 0 := by decide +kernel
theorem fi_zero (m : Int) : fi m 0 = false := by
  rcases fr_cases m 0 with ⟨k, hk, h1, h2, _⟩ | ⟨_, _, h⟩
  · have : ∀ k, k < 24 → (rwA k).o ≠ 0 := by decide +kernel
    exact absurd h2 (this k hk)
  · exact h
theorem tkF_ne {f : Int} (h : f ≠ 0) (d : Int) (L : List (List UInt8)) : tkF d f L = f := by unfold tkF; rw [kp_ne h, kp_ne h]
theorem tkF_0 (d : Int) (L : List (List UInt8)) : tkF d 0 L = kp (parR (hdW L)).2.2.2 (mf (takesB d (vOf L).1 (vOf L).2.1 (vOf L).2.2)) := by unfold tkF; rw [kp_0]; rfl
theorem aF_ne {f : Int} (h : f ≠ 0) (ds : List Int) (L : List (List UInt8)) : ∀ k, aF ds f L k = f
  | 0 => rfl
  | k + 1 => by rw [aF, aF_ne h ds L k, tkF_ne h]
theorem aF_stay {ds : List Int} {f : Int} {L : List (List UInt8)} {k : Nat} (h : aF ds f L k ≠ 0) : ∀ n, aF ds f L (k + n) = aF ds f L k
  | 0 => rfl
  | n + 1 => by rw [← Nat.add_assoc, aF, aF_stay h n, tkF_ne h]
theorem aF_le {ds : List Int} {f : Int} {L : List (List UInt8)} {k n : Nat} (h : aF ds f L k ≠ 0) (hk : k ≤ n) : aF ds f L n = aF ds f L k := by
  have := aF_stay h (n - k)
  rwa [show k + (n - k) = n by omega] at this
theorem rF_ne {f : Int} (h : f ≠ 0) (L : List (List UInt8)) : ∀ k, rF f L k = f
  | 0 => rfl
  | k + 1 => by rw [rF, rF_ne h L k, kp_ne h]
theorem rF_stay {f : Int} {L : List (List UInt8)} {k : Nat} (h : rF f L k ≠ 0) : ∀ n, rF f L (k + n) = rF f L k
  | 0 => rfl
  | n + 1 => by rw [← Nat.add_assoc, rF, rF_stay h n, kp_ne h]
theorem rF_le {f : Int} {L : List (List UInt8)} {k n : Nat} (h : rF f L k ≠ 0) (hk : k ≤ n) : rF f L n = rF f L k := by
  have := rF_stay h (n - k)
  rwa [show k + (n - k) = n by omega] at this
theorem cF_ne {f : Int} (h : f ≠ 0) (L : List (List UInt8)) : cF f L = f := by unfold cF; rw [kp_ne h, tkF_ne h, kp_ne h]

/-- the first fault of what stands behind the type of an Invoke -/
def vF (M : List (List UInt8)) : Int := kp (aF (cD M) (cF 0 M) (M.drop 3) (cD M).length) (mf (!decide (0 < ((M.drop 3).drop (cD M).length).length)))
theorem vF_of {M : List (List UInt8)} (h : cF 0 M ≠ 0) : vF M = cF 0 M := by unfold vF; rw [aF_ne h, kp_ne h]
theorem cF_model {M : List (List UInt8)} (h : cM M = 0) : cF 0 M = 2 := by
  unfold cF; rw [h, kp_0]
  show kp (tkF 1 2 _) _ = 2
  rw [tkF_ne (by decide), kp_ne (by decide)]
theorem cF_key {M : List (List UInt8)} (h : 0 < cM M) (hk : tkF 1 0 (M.drop 1) ≠ 0) : cF 0 M = tkF 1 0 (M.drop 1) := by
  unfold cF; rw [decide_eq_true h, kp_0, mf_t, tail1, kp_ne hk]
theorem cF_can {M : List (List UInt8)} (h : 0 < cM M) (hk : tkF 1 0 (M.drop 1) = 0) : cF 0 M = mf (fi (cM M) (cO M)) := by
  unfold cF; rw [decide_eq_true h, kp_0, mf_t, tail1, hk, kp_0]

/-- the error of a word as a name -/
def nE (s : ByteArray) : Int := kp (parR s).2.2.2 (mf (nameB (parR s).1 (parR s).2.1 (parR s).2.2.1))
theorem tkF_name (d : Int) (hd : 0 ≤ d ∧ d ≤ 4) (L : List (List UInt8)) : tkF d 0 L = nE (hdW L) := by rw [tkF_0, takesB_n hd]; rfl
set_option maxHeartbeats 1000000 in
theorem rname_any (s : ByteArray) (w : World) (hz : s.size ≤ 4611686018427387904) :
    Calls Tryd.prog 21 #[.string s] w fun e w' => e = .returned (.tuple #[.agg #[.int .i64 (parR s).1, .int .i64 (parR s).2.1, .string (parR s).2.2.1], .int .i64 (nE s)]) ∧ Below w.heap.size w w' := by
  have hC := fun w => vrparse_any s w hz
  have hz2 := parR_sz hz
  unfold ansV at hC
  unfold nE
  generalize parR s = r at *
  obtain ⟨rk, rn, rs, re⟩ := r
  simp only at hC hz2 ⊢
  have hT := fun w => name_any rk rn rs w hz2
  have B0 := Blk.new w (vls 0 0 ⟨#[]⟩) 38
  by_cases he : re = 0
  · have he' : (re == 0) = true := by simp [he]
    cases hb : nameB rk rn rs
    · rw [hb] at hT
      rw [he, kp_0, mf_f]
      subst he
      clear he'
      go_enter Tryd.func21, Tryd.ntmps21
      go_wp2_with fail
      refine (hC _).mono ?_
      rintro e w1 ⟨rfl, b1⟩
      have B1 : Blk w1 w.heap.size (vls 0 0 ⟨#[]⟩) 38 := B0.later b1
      have bel : Below w.heap.size w w1 := below_next (below_more (Below.refl _ _) _) b1
      have B2 : Blk (w1.alloc (.cells #[.int .i64 rk, .int .i64 rn, .string rs] 38)) w1.heap.size (vls rk rn rs) 38 := Blk.new w1 (vls rk rn rs) 38
      have B3 : Blk (w1.alloc (.cells #[.int .i64 rk, .int .i64 rn, .string rs] 38)) w.heap.size (vls 0 0 ⟨#[]⟩) 38 := B1.alloc _
      have bel2 : Below w.heap.size w (w1.alloc (.cells #[.int .i64 rk, .int .i64 rn, .string rs] 38)) := below_more bel _
      clear B0 B1 bel b1
      go_wp2_with fail
      refine (hT _).mono ?_
      rintro e w3 ⟨rfl, b3⟩
      have B4 := B2.later b3
      have B5 := B3.later b3
      have bel3 := below_next bel2 b3
      clear B2 B3 bel2 b3
      go_wp2_with (first
        | ((with_reducible refine wp_loadB 38 (.tmp 4) w1.heap.size 0 (vls rk rn rs) (vls rk rn rs) 38 _ Tryd.underlying38 ?_ ?_ ?_ ?_ B4 (fun j v hv => by rw [Nat.zero_add]; exact hv) ?_); (exact rfl); (exact sizeV); (exact ⟨rfl, rfl⟩); (exact rfl))
        | ((with_reducible refine wp_storeB 38 (.tmp 2) (.tmp 18) w.heap.size 0 (vls rk rn rs) (vls 0 0 ⟨#[]⟩) 38 ?_ ?_ (vls_one _ _ _) ?_ ?_ ?_ B5 ?_); (exact sizeV); (exact Nat.le_refl 3); (exact ⟨rfl, rfl⟩); (exact rfl); (exact rfl); (intro w4 B6 o4)))
      replace B6 : Blk w4 w.heap.size (vls rk rn rs) 38 := by simpa using B6
      refine ret_blk2 rfl w.heap.size (vls rk rn rs) 38 _ (.int .i64 2) Tryd.underlying38 rfl sizeV rfl B6 rfl rfl ?_
      exact ⟨rfl, below_oth bel3 o4 (Nat.le_refl _) (Nat.le_refl _) bel3.size⟩
    · rw [hb] at hT
      rw [he, kp_0, mf_t]
      subst he
      clear he'
      go_enter Tryd.func21, Tryd.ntmps21
      go_wp2_with fail
      refine (hC _).mono ?_
      rintro e w1 ⟨rfl, b1⟩
      have B1 : Blk w1 w.heap.size (vls 0 0 ⟨#[]⟩) 38 := B0.later b1
      have bel : Below w.heap.size w w1 := below_next (below_more (Below.refl _ _) _) b1
      have B2 : Blk (w1.alloc (.cells #[.int .i64 rk, .int .i64 rn, .string rs] 38)) w1.heap.size (vls rk rn rs) 38 := Blk.new w1 (vls rk rn rs) 38
      have B3 : Blk (w1.alloc (.cells #[.int .i64 rk, .int .i64 rn, .string rs] 38)) w.heap.size (vls 0 0 ⟨#[]⟩) 38 := B1.alloc _
      have bel2 : Below w.heap.size w (w1.alloc (.cells #[.int .i64 rk, .int .i64 rn, .string rs] 38)) := below_more bel _
      clear B0 B1 bel b1
      go_wp2_with fail
      refine (hT _).mono ?_
      rintro e w3 ⟨rfl, b3⟩
      have B4 := B2.later b3
      have B5 := B3.later b3
      have bel3 := below_next bel2 b3
      clear B2 B3 bel2 b3
      go_wp2_with (first
        | ((with_reducible refine wp_loadB 38 (.tmp 4) w1.heap.size 0 (vls rk rn rs) (vls rk rn rs) 38 _ Tryd.underlying38 ?_ ?_ ?_ ?_ B4 (fun j v hv => by rw [Nat.zero_add]; exact hv) ?_); (exact rfl); (exact sizeV); (exact ⟨rfl, rfl⟩); (exact rfl))
        | ((with_reducible refine wp_storeB 38 (.tmp 2) (.tmp 18) w.heap.size 0 (vls rk rn rs) (vls 0 0 ⟨#[]⟩) 38 ?_ ?_ (vls_one _ _ _) ?_ ?_ ?_ B5 ?_); (exact sizeV); (exact Nat.le_refl 3); (exact ⟨rfl, rfl⟩); (exact rfl); (exact rfl); (intro w4 B6 o4)))
      replace B6 : Blk w4 w.heap.size (vls rk rn rs) 38 := by simpa using B6
      refine ret_blk2 rfl w.heap.size (vls rk rn rs) 38 _ (.int .i64 0) Tryd.underlying38 rfl sizeV rfl B6 rfl rfl ?_
      exact ⟨rfl, below_oth bel3 o4 (Nat.le_refl _) (Nat.le_refl _) bel3.size⟩
  · have he' : (re == 0) = false := by simp [he]
    rw [kp_ne he]
    clear he hT
    go_enter Tryd.func21, Tryd.ntmps21
    go_wp2_with fail
    refine (hC _).mono ?_
    rintro e w1 ⟨rfl, b1⟩
    have B1 : Blk w1 w.heap.size (vls 0 0 ⟨#[]⟩) 38 := B0.later b1
    have bel : Below w.heap.size w w1 := below_next (below_more (Below.refl _ _) _) b1
    have B2 : Blk (w1.alloc (.cells #[.int .i64 rk, .int .i64 rn, .string rs] 38)) w1.heap.size (vls rk rn rs) 38 := Blk.new w1 (vls rk rn rs) 38
    have B3 : Blk (w1.alloc (.cells #[.int .i64 rk, .int .i64 rn, .string rs] 38)) w.heap.size (vls 0 0 ⟨#[]⟩) 38 := B1.alloc _
    have bel2 : Below w.heap.size w (w1.alloc (.cells #[.int .i64 rk, .int .i64 rn, .string rs] 38)) := below_more bel _
    clear B0 B1 bel b1
    go_wp2_with (first
      | ((with_reducible refine wp_loadB 38 (.tmp 4) w1.heap.size 0 (vls rk rn rs) (vls rk rn rs) 38 _ Tryd.underlying38 ?_ ?_ ?_ ?_ B2 (fun j v hv => by rw [Nat.zero_add]; exact hv) ?_); (exact rfl); (exact sizeV); (exact ⟨rfl, rfl⟩); (exact rfl))
      | ((with_reducible refine wp_storeB 38 (.tmp 2) (.tmp 18) w.heap.size 0 (vls rk rn rs) (vls 0 0 ⟨#[]⟩) 38 ?_ ?_ (vls_one _ _ _) ?_ ?_ ?_ B3 ?_); (exact sizeV); (exact Nat.le_refl 3); (exact ⟨rfl, rfl⟩); (exact rfl); (exact rfl); (intro w4 B6 o4)))
    replace B6 : Blk w4 w.heap.size (vls rk rn rs) 38 := by simpa using B6
    refine ret_blk2 rfl w.heap.size (vls rk rn rs) 38 _ (.int .i64 re) Tryd.underlying38 rfl sizeV rfl B6 rfl rfl ?_
    exact ⟨rfl, below_oth bel2 o4 (Nat.le_refl _) (Nat.le_refl _) bel2.size⟩
end Go.Proofs.YtdhlheilgagcpaaDoor
