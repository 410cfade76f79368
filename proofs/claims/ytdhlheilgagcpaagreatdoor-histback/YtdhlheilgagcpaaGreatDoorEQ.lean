/- Plain mathematics: a right event is told again from its line; what is told of a line is right and has just this line; a line's length. No conditions. -/
import Derived.Test.YtdhlheilgagcpaaGreatDoorEO
namespace Go.Proofs.YtdhlheilgagcpaaGreatDoor
open Go.RowKit Go.PlainAid Ln
set_option linter.unusedVariables false
set_option linter.unusedSimpArgs false

/-- what all parts of a right event have, all its words have -/
theorem wds_all {P : List UInt8 → Prop} {x : Ev} (h : rightE x = true) (hb : bdE x) (p1 : P (tx (txt x.t))) (p2 : ∀ v, rV v = true → bdV v → P (pv v)) (p3 : ∀ u : Nat, u < 5 → 0 < u → P (tx (tn (u : Int)))) (p4 : ∀ k, k < 24 → P (tx (mn (rwA k).m)) ∧ P (tx (on (rwA k).o))) : ∀ l ∈ wds x, P l := by
  obtain ⟨t, c, y, m, k, o, a, r, nd, n⟩ := x
  simp only [rightE, Bool.and_eq_true, decide_eq_true_eq] at h
  obtain ⟨⟨⟨h1, h2⟩, h3⟩, h4⟩ := h
  obtain ⟨b1, b2, b3, b4, b5⟩ := hb
  dsimp only at b1 b2 b3 b4 b5 p1
  unfold typB at h4
  dsimp only at h2 h4
  have key : ∀ u : Nat, u < 5 → 0 < u → ∀ M Q : List (List UInt8), (∀ l ∈ M, P l) → (∀ l ∈ Q, P l) → ∀ l ∈ tx (txt t) :: pv c :: tx (tn (u : Int)) :: (M ++ Q), P l := by
    intro u hu hu' M Q hP hQ l hl
    rcases List.mem_cons.1 hl with rfl | hl
    · exact p1
    rcases List.mem_cons.1 hl with rfl | hl
    · exact p2 _ (name_rV h2) b2
    rcases List.mem_cons.1 hl with rfl | hl
    · exact p3 u hu hu'
    rcases List.mem_append.1 hl with hl | hl
    · exact hP l hl
    · exact hQ l hl
  have vals : ∀ xs : List Val, (∀ i, i < xs.length → rV (nv xs i) = true) → (∀ i, i < xs.length → bdV (nv xs i)) → ∀ l ∈ xs.map pv, P l := by
    intro xs hx hx' l hl
    obtain ⟨v, hv, rfl⟩ := List.mem_map.1 hl
    obtain ⟨i, hi, rfl⟩ := List.getElem_of_mem hv
    have e1 := hx i hi
    have e2 := hx' i hi
    rw [nv_eq xs i hi] at e1 e2
    exact p2 _ e1 e2
  have none : ∀ l ∈ ([] : List (List UInt8)), P l := fun l hl => by cases hl
  unfold wds
  dsimp only
  by_cases y1 : y = 1
  · subst y1
    rw [if_pos rfl] at h4 ⊢
    simp only [Bool.and_eq_true, decide_eq_true_eq] at h4
    obtain ⟨⟨k1, k2, k3⟩, k4⟩ := h4
    obtain rfl : r = [] := List.eq_nil_of_length_eq_zero k4
    obtain ⟨f1, f2⟩ := fitsL_t k3
    rcases fr_cases m o with ⟨j, hj, e1, e2, e3', e4⟩ | ⟨_, _, h⟩
    case inr => rw [h] at k2; cases k2
    obtain ⟨s5, s6⟩ := p4 j hj
    rw [e1] at s5
    rw [e2] at s6
    refine key 1 (by decide) (by decide) _ _ (fun l hl => ?_) (fun l hl => ?_)
    · simp only [List.mem_cons, List.not_mem_nil, or_false] at hl
      rcases hl with rfl | rfl | rfl
      · exact s5
      · exact p2 _ (name_rV k1) b3
      · exact s6
    · rw [List.map_nil, List.append_nil] at hl
      exact vals a (fun i hi => takes_rV (f2 i hi)) b4 l hl
  rw [if_neg y1] at h4 ⊢
  by_cases y2 : y = 2
  · subst y2
    rw [if_pos rfl] at h4
    simp only [Bool.and_eq_true, nonB, decide_eq_true_eq] at h4
    obtain ⟨⟨k1, k2, k3, k4, k5, k6⟩, k7⟩ := h4
    obtain rfl : a = [] := List.eq_nil_of_length_eq_zero k6
    exact key 2 (by decide) (by decide) _ _ none (fun l hl => vals r (all_rV k7) b5 l hl)
  rw [if_neg y2] at h4
  by_cases y3 : y = 3 ∨ y = 4
  · rw [if_pos y3] at h4
    simp only [Bool.and_eq_true, nonB, decide_eq_true_eq] at h4
    obtain ⟨⟨k1, k2, k3, k4, k5, k6⟩, k7⟩ := h4
    obtain rfl : a = [] := List.eq_nil_of_length_eq_zero k6
    obtain rfl : r = [] := List.eq_nil_of_length_eq_zero k7
    rcases y3 with rfl | rfl
    · exact key 3 (by decide) (by decide) _ _ none none
    · exact key 4 (by decide) (by decide) _ _ none none
  · rw [if_neg y3] at h4; cases h4
theorem wds_ok {x : Ev} (h : rightE x = true) (hb : bdE x) : ∀ l ∈ wds x, okW l :=
  wds_all h hb (okW_txt _) (fun v hv _ => okW_val hv) (fun u hu hu' => okW_of ((type_rows u hu).2 hu')) (fun k hk => ⟨okW_of (sign_rows k hk).2.2.2.2.1, okW_of (sign_rows k hk).2.2.2.2.2.1⟩)
/-- at most two values are handed in -/
theorem a_len {x : Ev} (h : rightE x = true) : x.a.length ≤ 2 := by
  obtain ⟨t, c, y, m, k, o, a, r, nd, n⟩ := x
  simp only [rightE, Bool.and_eq_true, decide_eq_true_eq] at h
  obtain ⟨_, h4⟩ := h
  unfold typB at h4
  dsimp only at h4 ⊢
  by_cases y1 : y = 1
  · rw [if_pos y1] at h4
    simp only [Bool.and_eq_true, decide_eq_true_eq] at h4
    have e := (fitsL_t h4.1.2.2).1
    have := fr_all (p := fun r => decide (r.inn.length ≤ 2)) rfl m o
    simp at this
    omega
  rw [if_neg y1] at h4
  by_cases y2 : y = 2
  · rw [if_pos y2] at h4
    simp only [Bool.and_eq_true, nonB, decide_eq_true_eq] at h4
    have := h4.1.2.2.2.2.2
    omega
  rw [if_neg y2] at h4
  by_cases y3 : y = 3 ∨ y = 4
  · rw [if_pos y3] at h4
    simp only [Bool.and_eq_true, nonB, decide_eq_true_eq] at h4
    have := h4.1.2.2.2.2.2
    omega
  · rw [if_neg y3] at h4; cases h4

theorem joinTail_free {c : UInt8} (hc : c ≠ 32) : ∀ L : List (List UInt8), (∀ l ∈ L, c ∉ l) → c ∉ Lib.joinTail [32] L
  | [], _ => by simp [Lib.joinTail]
  | y :: r, h => by
    have e : Lib.joinTail [32] (y :: r) = ([32] ++ y) ++ Lib.joinTail [32] r := by simp [Lib.joinTail]
    have h1 := joinTail_free hc r fun l hl => h l (List.mem_cons_of_mem _ hl)
    have h2 := h y List.mem_cons_self
    rw [e]
    simp only [List.mem_append, List.mem_cons, List.not_mem_nil, or_false]
    rintro ((e | e) | e)
    · exact hc e
    · exact h2 e
    · exact h1 e
theorem join_free {c : UInt8} (hc : c ≠ 32) (L : List (List UInt8)) (h : ∀ l ∈ L, c ∉ l) : c ∉ Lib.join L [32] := by
  cases L with
  | nil => simp [Lib.join]
  | cons y r =>
    rw [Lib.join_cons, List.mem_append]
    rintro (e | e)
    · exact h y List.mem_cons_self e
    · exact joinTail_free hc r (fun l hl => h l (List.mem_cons_of_mem _ hl)) e
theorem joinTail_len {m : Nat} : ∀ L : List (List UInt8), (∀ l ∈ L, l.length ≤ m) → (Lib.joinTail [32] L).length ≤ L.length * (m + 1)
  | [], _ => by simp [Lib.joinTail]
  | y :: r, h => by
    have e : Lib.joinTail [32] (y :: r) = ([32] ++ y) ++ Lib.joinTail [32] r := by simp [Lib.joinTail]
    have h1 := joinTail_len r fun l hl => h l (List.mem_cons_of_mem _ hl)
    have h2 := h y List.mem_cons_self
    rw [e]
    simp only [List.length_append, List.length_cons, List.length_nil, Nat.succ_mul, Nat.add_mul] at h1 ⊢
    omega
theorem join_len {m : Nat} (L : List (List UInt8)) (h : ∀ l ∈ L, l.length ≤ m) : (Lib.join L [32]).length ≤ L.length * (m + 1) := by
  cases L with
  | nil => simp [Lib.join]
  | cons y r =>
    have h1 := joinTail_len r fun l hl => h l (List.mem_cons_of_mem _ hl)
    have h2 := h y List.mem_cons_self
    rw [Lib.join_cons, List.length_append]
    simp only [List.length_cons, Nat.succ_mul] at h1 ⊢
    omega

theorem noteR_line {W : List (List UInt8)} (h : ∀ l ∈ W, okW l) {nd : Bool} {n : ByteArray} (hn : noteB nd n = true) :
    noteR (Lib.join W [32] ++ (if nd = true then 32 :: 59 :: tx n else [])) = (Lib.join W [32], tx n, nd, true) := by
  have h59 : (59 : UInt8) ∉ Lib.join W [32] := join_free (by decide) W fun l hl e => ((h l hl).2 59 e).2 rfl
  unfold noteB at hn
  cases nd
  · rw [if_neg (by decide), decide_eq_true_eq] at hn
    rw [if_neg (by decide), List.append_nil, noteR_none _ h59]
    obtain rfl : n = noB := empty_of_size hn
    rfl
  · rw [if_pos rfl, decide_eq_true_eq] at hn
    rw [if_pos rfl, show Lib.join W [32] ++ 32 :: 59 :: tx n = (Lib.join W [32] ++ [32]) ++ 59 :: tx n by simp]
    rw [noteR_good _ _ (by simp [h59]) ⟨by simp, by rw [tx_len]; exact hn.1, hn.2⟩, List.dropLast_concat]
theorem pcs_line {W : List (List UInt8)} (h0 : W ≠ []) (h : ∀ l ∈ W, okW l) : pcs 32 (Lib.join W [32]) = W :=
  pcs_join 32 W h0 fun l hl e => ((h l hl).2 32 e).1 rfl
/-- a right event is told again from its line -/
theorem read_line {x : Ev} (h : rightE x = true) (hb : bdE x) : pE (lineE x) = (x, 0) := by
  have hW := wds_ok h hb
  have hn : noteB x.nd x.n = true := by
    have := h
    simp only [rightE, Bool.and_eq_true] at this
    exact this.1.2
  obtain ⟨e1, e2⟩ := eE_wds h hb
  unfold pE lineE
  rw [noteR_line hW hn]
  dsimp only
  rw [pcs_line (by unfold wds; simp) hW, if_pos ⟨rfl, fun e => (hW [] e).1 rfl, e1⟩, e2, bs_tx]
/-- what is told of a line is right and has just this line -/
theorem line_read {l : List UInt8} {x : Ev} (h : pE l = (x, 0)) : rightE x = true ∧ lineE x = l ∧ bdE x := by
  unfold pE at h
  split at h
  · rename_i hc
    obtain ⟨c1, c2, c3⟩ := hc
    have hx := congrArg Prod.fst h
    dsimp only at hx
    subst hx
    clear h
    rcases cut_cases 59 l with ⟨h1, _⟩ | ⟨a, b, rfl, h2, _⟩
    · rw [noteR_none l h1] at c1 c2 c3 ⊢
      dsimp only at c2 c3 ⊢
      obtain ⟨r1, r2, r3⟩ := wds_eE c3 false (bs []) (by decide)
      refine ⟨r1, ?_, r3⟩
      unfold lineE
      rw [r2]
      dsimp only
      rw [join_pcs]; simp
    · by_cases hp : noteP a b
      · rw [noteR_good a b h2 hp] at c1 c2 c3 ⊢
        dsimp only at c2 c3 ⊢
        obtain ⟨p1, p2, p3⟩ := hp
        obtain ⟨r1, r2, r3⟩ := wds_eE c3 true (bs b) (by unfold noteB; rw [if_pos rfl]; exact decide_eq_true ⟨p2, p3⟩)
        refine ⟨r1, ?_, r3⟩
        unfold lineE
        rw [r2]
        dsimp only
        rw [join_pcs, if_pos rfl, tx_bs]
        obtain ⟨a', rfl⟩ := List.getLast?_eq_some_iff.1 p1
        rw [List.dropLast_concat]; simp
      · rw [noteR_bad a b h2 hp] at c1
        exact absurd c1 (by decide)
  · rename_i hc
    split at h
    · rename_i hd
      have e := congrArg Prod.snd h
      exact absurd ⟨hd.1, hd.2, e⟩ hc
    · have e := congrArg Prod.snd h
      exact absurd (show (2 : Int) = 0 from e) (by decide)

/-! ### sizes -/
theorem right_size {v : Val} (h : rV v = true) : v.2.2.size ≤ 40 := by
  have hp : rightP v.1 v.2.1 v.2.2 := of_decide_eq_true h
  rcases hp with ⟨_, _, h⟩ | ⟨_, h⟩ | ⟨_, _, _, h, _⟩ | ⟨_, _, h⟩ <;> omega
theorem pv_len {v : Val} (h : rV v = true) (hb : bdV v) : (pv v).length ≤ 61 := by
  have h1 := right_size h
  have h2 := prt_size v.1 v.2.1 v.2.2 hb
  unfold pv
  rw [tx_len]; omega
theorem tn_len : ∀ k : Nat, k < 5 → (tx (tn (k : Int))).length ≤ 61 := by decide +kernel
theorem mn_len : ∀ k, k < 24 → (tx (mn (rwA k).m)).length ≤ 61 ∧ (tx (on (rwA k).o)).length ≤ 61 := by decide +kernel
theorem wds_len {x : Ev} (h : rightE x = true) (hb : bdE x) : (∀ l ∈ wds x, l.length ≤ 61) ∧ (wds x).length ≤ x.r.length + 8 := by
  have h0 : 0 ≤ x.t := by
    have := h
    simp only [rightE, Bool.and_eq_true, decide_eq_true_eq] at this
    exact this.1.1.1
  refine ⟨wds_all h hb ?_ (fun v h1 h2 => pv_len h1 h2) (fun u hu _ => tn_len u hu) mn_len, ?_⟩
  · rw [tx_len]
    have := txt_size x.t (by omega) hb.1
    omega
  · have := a_len h
    unfold wds
    simp only [List.length_cons, List.length_append, List.length_map]
    split <;> simp <;> omega
theorem line_len {x : Ev} (h : rightE x = true) (hb : bdE x) (hr : x.r.length ≤ 2001) : (lineE x).length ≤ 900000 := by
  obtain ⟨h1, h2⟩ := wds_len h hb
  have h3 := join_len (wds x) h1
  have hn : noteB x.nd x.n = true := by
    have := h
    simp only [rightE, Bool.and_eq_true] at this
    exact this.1.2
  have h4 : (wds x).length * (61 + 1) ≤ 2009 * 62 := Nat.mul_le_mul_right _ (by omega)
  unfold lineE
  unfold noteB at hn
  rw [List.length_append]
  split
  · rename_i e
    rw [if_pos e, decide_eq_true_eq] at hn
    simp only [List.length_cons, tx_len]
    omega
  · simp only [List.length_nil]; omega
end Go.Proofs.YtdhlheilgagcpaaGreatDoor
