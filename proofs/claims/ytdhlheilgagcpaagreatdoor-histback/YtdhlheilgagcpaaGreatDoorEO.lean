/- Plain mathematics: what is told of words without a fault is right and has these words; a right event is told again from its line; what is told of a line is right and has just this line; a line's length. No conditions. -/
import Derived.Test.YtdhlheilgagcpaaGreatDoorEM
namespace Go.Proofs.YtdhlheilgagcpaaGreatDoor
open Go.RowKit Go.PlainAid Ln
set_option linter.unusedVariables false
set_option linter.unusedSimpArgs false

theorem par_z {s : ByteArray} (h : (parR s).2.2.2 = 0) : rightP (parR s).1 (parR s).2.1 (parR s).2.2.1 ∧ prt (parR s).1 (parR s).2.1 (parR s).2.2.1 = s ∧ (-9223372036854775808 ≤ (parR s).2.1 ∧ (parR s).2.1 ≤ 9223372036854775807) := by
  have e : parR s = ((parR s).1, (parR s).2.1, (parR s).2.2.1, 0) := Prod.ext rfl (Prod.ext rfl (Prod.ext rfl h))
  obtain ⟨h1, h2, h3, _⟩ := prt_par e
  exact ⟨h1, h2, h3⟩
theorem tk_z {d f : Int} {L : List (List UInt8)} (h : tkF d f L = 0) : f = 0 ∧ (parR (hdW L)).2.2.2 = 0 ∧ takesB d (vOf L).1 (vOf L).2.1 (vOf L).2.2 = true := by
  unfold tkF at h
  obtain ⟨h1, h2⟩ := kp_z h
  obtain ⟨h3, h4⟩ := kp_z h1
  exact ⟨h3, h4, mf_z h2⟩
theorem pv_of {L : List (List UInt8)} (h : (parR (hdW L)).2.2.2 = 0) : rV (vOf L) = true ∧ bdV (vOf L) ∧ bs (pv (vOf L)) = hdW L ∧ L ≠ [] := by
  obtain ⟨h1, h2, h3⟩ := par_z h
  refine ⟨decide_eq_true h1, h3, ?_, fun e => ?_⟩
  · show bs (tx (prt _ _ _)) = _
    rw [bs_tx]; exact h2
  · rw [e] at h
    have h4 : (parR (hdW [])).2.2.2 = 2 := par_empty
    rw [h4] at h
    exact absurd h (by decide)
theorem pv_hd {a : List UInt8} {r : List (List UInt8)} (h : (parR (hdW (a :: r))).2.2.2 = 0) : pv (vOf (a :: r)) = a := bs_inj (pv_of h).2.2.1
theorem isW_tx {f : Int → ByteArray} {n k : Nat} {a : List UInt8} (h : wI f n (bs a) = k) (hk : 0 < k) : k < n ∧ tx (f (k : Int)) = a := by
  rcases isW_wI f n (bs a) with ⟨h1, h2⟩ | ⟨h1, _⟩
  · rw [h] at h1 h2
    refine ⟨h1, ?_⟩
    have := eq_of_beq h2
    rw [bs_toList, tx_toList] at this
    exact this
  · omega
theorem aF_z {ds : List Int} {f : Int} {L : List (List UInt8)} {n : Nat} (h : aF ds f L n = 0) (k : Nat) (hk : k ≤ n) : aF ds f L k = 0 := by
  by_cases e : aF ds f L k = 0
  · exact e
  · have := aF_le e hk
    rw [h] at this
    exact absurd this.symm e
theorem rF_z {f : Int} {L : List (List UInt8)} {n : Nat} (h : rF f L n = 0) (k : Nat) (hk : k ≤ n) : rF f L k = 0 := by
  by_cases e : rF f L k = 0
  · exact e
  · have := rF_le e hk
    rw [h] at this
    exact absurd this.symm e
theorem aF_all {ds : List Int} {N : List (List UInt8)} {n : Nat} (h : aF ds 0 N n = 0) (i : Nat) (hi : i < n) : (parR (hdW (N.drop i))).2.2.2 = 0 ∧ takesB (nth ds i) (vOf (N.drop i)).1 (vOf (N.drop i)).2.1 (vOf (N.drop i)).2.2 = true := by
  have := aF_z h (i + 1) hi
  rw [aF] at this
  exact (tk_z this).2
theorem rF_all {N : List (List UInt8)} {n : Nat} (h : rF 0 N n = 0) (i : Nat) (hi : i < n) : (parR (hdW (N.drop i))).2.2.2 = 0 := by
  have := rF_z h (i + 1) hi
  rw [rF] at this
  exact (kp_z this).2
theorem aV_pv {N : List (List UInt8)} {n : Nat} (hn : N.length = n) (h : ∀ i, i < n → (parR (hdW (N.drop i))).2.2.2 = 0) : (aV N n).map pv = N := by
  unfold aV
  refine List.ext_getElem (by simp [hn]) fun i h1 h2 => ?_
  rw [List.getElem_map, List.getElem_map, List.getElem_range]
  have h3 := h i (by omega)
  rw [List.drop_eq_getElem_cons h2] at h3 ⊢
  exact pv_hd h3
theorem nv_aV (N : List (List UInt8)) (n i : Nat) (h : i < n) : nv (aV N n) i = vOf (N.drop i) := by
  rw [nv_eq _ i (by rw [aV_len]; exact h)]
  unfold aV
  rw [List.getElem_map, List.getElem_range]
theorem len_par {N : List (List UInt8)} {i : Nat} (h : (parR (hdW (N.drop i))).2.2.2 = 0) : i < N.length := by
  rcases Nat.lt_or_ge i N.length with h' | h'
  · exact h'
  · exact absurd (List.drop_eq_nil_of_le h') (pv_of h).2.2.2
theorem aV_all {N : List (List UInt8)} {n : Nat} (h : ∀ i, i < n → (parR (hdW (N.drop i))).2.2.2 = 0) : (aV N n).all rV = true ∧ ∀ i, i < (aV N n).length → bdV (nv (aV N n) i) := by
  refine ⟨List.all_eq_true.2 fun v hv => ?_, fun i hi => ?_⟩
  · unfold aV at hv
    obtain ⟨i, hi, rfl⟩ := List.mem_map.1 hv
    exact (pv_of (h i (List.mem_range.1 hi))).1
  · rw [aV_len] at hi
    rw [nv_aV N n i hi]
    exact (pv_of (h i hi)).2.1
theorem bdV_no : bdV (0, 0, noB) := by unfold bdV; decide

set_option maxHeartbeats 1000000 in
theorem wds_eE {L : List (List UInt8)} (h : eF 0 L = 0) (nd : Bool) (n : ByteArray) (hn : noteB nd n = true) :
    rightE { eEv L with nd := nd, n := n } = true ∧ wds { eEv L with nd := nd, n := n } = L ∧ bdE { eEv L with nd := nd, n := n } := by
  have h3 : e3 0 L = 0 := by
    by_cases e : e3 0 L = 0
    · exact e
    · rw [eF_e3 e] at h; exact absurd h e
  have h3' := h3
  unfold e3 at h3'
  obtain ⟨g1, g2⟩ := kp_z h3'
  obtain ⟨g3, g4, g5⟩ := tk_z g1
  rw [kp_0] at g3
  have g6 : 0 < eY L := of_decide_eq_true (mf_z g2)
  clear h3' g1 g2
  rcases L with _ | ⟨a, _ | ⟨b, _ | ⟨c, M⟩⟩⟩
  · exact absurd g6 (by show ¬ 0 < wI tn 5 ⟨#[]⟩; rw [t_empty]; omega)
  · exact absurd g6 (by show ¬ 0 < wI tn 5 ⟨#[]⟩; rw [t_empty]; omega)
  · exact absurd g6 (by show ¬ 0 < wI tn 5 ⟨#[]⟩; rw [t_empty]; omega)
  obtain ⟨t0, t1, t2⟩ := txt_cnt (show cntR (bs a) 9223372036854775807 = ((eT (a :: b :: c :: M)).1, 0) from Prod.ext rfl g3)
  replace g4 : (parR (hdW (b :: c :: M))).2.2.2 = 0 := g4
  obtain ⟨c1, c2, _, _⟩ := pv_of g4
  have c3 := pv_hd g4
  obtain ⟨y, hy⟩ : ∃ y, eY (a :: b :: c :: M) = y := ⟨_, rfl⟩
  have hy' : wI tn 5 (bs c) = y := hy
  rw [hy] at g6
  obtain ⟨y5, hc⟩ := isW_tx hy' g6
  have hname : nV (vOf (b :: c :: M)) = true := by
    have := g5
    rw [takesB_n (by decide)] at this
    exact this
  have htx : tx (txt (eT (a :: b :: c :: M)).1) = a := by rw [t2]; rfl
  by_cases y1 : y = 1
  · subst y1
    unfold eF at h
    rw [if_pos hy, h3] at h
    obtain ⟨p1, p2⟩ := kp_z h
    replace p1 : aF (cD M) (cF 0 M) M.tail.tail.tail (cD M).length = 0 := p1
    replace p2 : mf (!decide (0 < (M.tail.tail.tail.drop (cD M).length).length)) = 0 := p2
    have q : cF 0 M = 0 := by
      by_cases e : cF 0 M = 0
      · exact e
      · rw [aF_ne e] at p1; exact absurd p1 e
    rw [q] at p1
    unfold cF at q
    obtain ⟨q1, q2⟩ := kp_z q
    obtain ⟨q3, q4, q5⟩ := tk_z q1
    rw [kp_0] at q3
    have q6 : 0 < cM M := of_decide_eq_true (mf_z q3)
    have q7 : fi (cM M) (cO M) = true := mf_z q2
    clear q q1 q2 q3
    have hE : eEv (a :: b :: c :: M) = ⟨(eT (a :: b :: c :: M)).1, vOf (b :: c :: M), 1, cM M, vOf M.tail, cO M, aV M.tail.tail.tail (cD M).length, [], false, noB⟩ := by
      unfold eEv; rw [if_pos hy]; rfl
    rw [hE]
    clear hE h
    rcases M with _ | ⟨d, _ | ⟨k, _ | ⟨o, N⟩⟩⟩
    · exact absurd q6 (by show ¬ 0 < wI mn 11 ⟨#[]⟩; rw [m_empty]; omega)
    · exact absurd rfl (pv_of q4).2.2.2
    · have e : cO [d, k] = 0 := o_empty
      rw [e, show ((0 : Nat) : Int) = 0 from rfl, fi_zero] at q7
      cases q7
    replace q4 : (parR (hdW (k :: o :: N))).2.2.2 = 0 := q4
    replace p1 : aF (cD (d :: k :: o :: N)) 0 N (cD (d :: k :: o :: N)).length = 0 := p1
    replace p2 : mf (!decide (0 < (N.drop (cD (d :: k :: o :: N)).length).length)) = 0 := p2
    have q8 : 0 < cO (d :: k :: o :: N) := by
      rcases Nat.eq_zero_or_pos (cO (d :: k :: o :: N)) with e | e
      · rw [e, show ((0 : Nat) : Int) = 0 from rfl, fi_zero] at q7; cases q7
      · exact e
    obtain ⟨_, hd⟩ := isW_tx (f := mn) (n := 11) (a := d) (k := cM (d :: k :: o :: N)) rfl q6
    obtain ⟨_, ho⟩ := isW_tx (f := on) (n := 14) (a := o) (k := cO (d :: k :: o :: N)) rfl q8
    obtain ⟨k1, k2, _, _⟩ := pv_of q4
    have k3 := pv_hd q4
    have hcD : cD (d :: k :: o :: N) = (fr (cM (d :: k :: o :: N)) (cO (d :: k :: o :: N))).inn := rfl
    generalize cD (d :: k :: o :: N) = ds at *
    have p3 := mf_z p2
    simp only [Bool.not_eq_true', decide_eq_false_iff_not, List.length_drop] at p3
    have all := aF_all p1
    have hN : N.length = ds.length := by
      rcases Nat.eq_zero_or_pos ds.length with e | e
      · omega
      · have := len_par (all (ds.length - 1) (by omega)).1
        omega
    have hA := aV_all (N := N) (n := ds.length) fun i hi => (all i hi).1
    have hP := aV_pv hN fun i hi => (all i hi).1
    have hkey : nV (vOf (k :: o :: N)) = true := by
      have := q5
      rw [takesB_n (by decide)] at this
      exact this
    have hfit : fitsL (fr (cM (d :: k :: o :: N)) (cO (d :: k :: o :: N))).inn (aV N ds.length) = true := by
      rw [← hcD]
      refine fitsL_all (aV_len _ _) fun i hi => ?_
      rw [aV_len] at hi
      rw [nv_aV _ _ _ hi]
      exact (all i hi).2
    refine ⟨?_, ?_, t1, c2, k2, hA.2, fun i hi => absurd hi (Nat.not_lt_zero i)⟩
    · have hty : typB (⟨(eT (a :: b :: c :: d :: k :: o :: N)).1, vOf (b :: c :: d :: k :: o :: N), 1, cM (d :: k :: o :: N), vOf (k :: o :: N), cO (d :: k :: o :: N), aV N ds.length, [], nd, n⟩ : Ev) = true := by
        unfold typB
        dsimp only
        rw [if_pos rfl, hkey, q7, hfit]; rfl
      unfold rightE
      simp only [Bool.and_eq_true, decide_eq_true_eq]
      exact ⟨⟨⟨t0, hname⟩, hn⟩, hty⟩
    · show tx (txt (eT (a :: b :: c :: d :: k :: o :: N)).1) :: pv (vOf (b :: c :: d :: k :: o :: N)) :: tx (tn ((1 : Nat) : Int)) :: ([tx (mn (cM (d :: k :: o :: N) : Int)), pv (vOf (k :: o :: N)), tx (on (cO (d :: k :: o :: N) : Int))] ++ ((aV N ds.length).map pv ++ [].map pv)) = _
      rw [htx, c3, hc, hd, k3, ho, hP]
      simp
  · have hy1 : ¬ eY (a :: b :: c :: M) = 1 := by omega
    by_cases y2 : y = 2
    · subst y2
      unfold eF at h
      rw [if_neg hy1, if_pos hy, h3] at h
      replace h : rF 0 M M.length = 0 := h
      have hE : eEv (a :: b :: c :: M) = ⟨(eT (a :: b :: c :: M)).1, vOf (b :: c :: M), 2, 0, (0, 0, noB), 0, [], aV M M.length, false, noB⟩ := by
        unfold eEv; rw [if_neg hy1, if_pos hy]; rfl
      rw [hE]
      clear hE
      have all := rF_all h
      have hA := aV_all all
      have hP := aV_pv rfl all
      refine ⟨?_, ?_, t1, c2, bdV_no, fun i hi => absurd hi (Nat.not_lt_zero i), hA.2⟩
      · have hty : typB (⟨(eT (a :: b :: c :: M)).1, vOf (b :: c :: M), 2, 0, (0, 0, noB), 0, [], aV M M.length, nd, n⟩ : Ev) = true := by
          unfold typB
          dsimp only
          rw [if_neg (by decide), if_pos rfl, hA.1]; rfl
        unfold rightE
        simp only [Bool.and_eq_true, decide_eq_true_eq]
        exact ⟨⟨⟨t0, hname⟩, hn⟩, hty⟩
      · show tx (txt (eT (a :: b :: c :: M)).1) :: pv (vOf (b :: c :: M)) :: tx (tn ((2 : Nat) : Int)) :: ([] ++ ([].map pv ++ (aV M M.length).map pv)) = _
        rw [htx, c3, hc, hP]
        simp
    · have hy2 : ¬ eY (a :: b :: c :: M) = 2 := by omega
      unfold eF at h
      rw [if_neg hy1, if_neg hy2, h3, kp_0] at h
      have p3 := mf_z h
      obtain rfl : M = [] := by
        refine List.eq_nil_of_length_eq_zero ?_
        have : ¬ 0 < M.length := of_decide_eq_false (by have := p3; rw [Bool.not_eq_true'] at this; exact this)
        omega
      have hE : eEv [a, b, c] = ⟨(eT [a, b, c]).1, vOf [b, c], (y : Int), 0, (0, 0, noB), 0, [], [], false, noB⟩ := by
        unfold eEv; rw [if_neg hy1, if_neg hy2, hy]; rfl
      rw [hE]
      clear hE
      have z1 : ¬ (y : Int) = 1 := by omega
      have z2 : ¬ (y : Int) = 2 := by omega
      have z3 : (y : Int) = 3 ∨ (y : Int) = 4 := by omega
      refine ⟨?_, ?_, t1, c2, bdV_no, fun i hi => absurd hi (Nat.not_lt_zero i), fun i hi => absurd hi (Nat.not_lt_zero i)⟩
      · have hty : typB (⟨(eT [a, b, c]).1, vOf [b, c], (y : Int), 0, (0, 0, noB), 0, [], [], nd, n⟩ : Ev) = true := by
          unfold typB
          dsimp only
          rw [if_neg z1, if_neg z2, if_pos z3]; rfl
        unfold rightE
        simp only [Bool.and_eq_true, decide_eq_true_eq]
        exact ⟨⟨⟨t0, hname⟩, hn⟩, hty⟩
      · unfold wds
        dsimp only
        rw [if_neg z1, htx, c3, hc]
        simp
end Go.Proofs.YtdhlheilgagcpaaGreatDoor
