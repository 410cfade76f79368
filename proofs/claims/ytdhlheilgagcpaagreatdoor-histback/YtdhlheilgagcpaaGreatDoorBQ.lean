/- Plain mathematics: a right event and its line, as lists; a right event is told again from its line's words; what is told of words without a fault is right and has these words. No conditions. Plain mathematics: what is told of words without a fault is right and has these words; a right event is told again from its line; what is told of a line is right and has just this line; a line's length. No conditions. Plain mathematics: a right event is told again from its line; what is told of a line is right and has just this line; a line's length. No conditions. -/
import Derived.Test.YtdhlheilgagcpaaGreatDoorBJ
import Derived.Test.YtdhlheilgagcpaaGreatDoorVQ
import Derived.Test.YtdhlheilgagcpaaGreatDoorLN
namespace Go.Proofs.YtdhlheilgagcpaaGreatDoor
open Go.RowKit Go.PlainAid Ln
set_option linter.unusedVariables false
set_option linter.unusedSimpArgs false

/-- a value's text, as a list; is it right, is it a name; its number is one of 64 bits -/
def pv (v : Val) : List UInt8 := tx (prt v.1 v.2.1 v.2.2)
def rV (v : Val) : Bool := rightB v.1 v.2.1 v.2.2
def nV (v : Val) : Bool := nameB v.1 v.2.1 v.2.2
def bdV (v : Val) : Prop := -9223372036854775808 ≤ v.2.1 ∧ v.2.1 ≤ 9223372036854775807
/-- a right note -/
def noteB (nd : Bool) (n : ByteArray) : Bool := if nd = true then decide (n.size ≤ 100 ∧ (10 : UInt8) ∉ tx n) else decide (n.size = 0)
/-- nothing of what an Invoke alone has -/
def nonB (x : Ev) : Bool := decide (x.m = 0 ∧ x.o = 0 ∧ x.k.1 = 0 ∧ x.k.2.1 = 0 ∧ x.k.2.2.size = 0 ∧ x.a.length = 0)
/-- right for its type -/
def typB (x : Ev) : Bool :=
  if x.y = 1 then nV x.k && (fi x.m x.o && fitsL (fr x.m x.o).inn x.a) && decide (x.r.length = 0)
  else if x.y = 2 then nonB x && x.r.all rV
  else if x.y = 3 ∨ x.y = 4 then nonB x && decide (x.r.length = 0)
  else false
/-- a right event -/
def rightE (x : Ev) : Bool := decide (0 ≤ x.t) && nV x.c && noteB x.nd x.n && typB x
/-- its words, its line -/
def wds (x : Ev) : List (List UInt8) := tx (txt x.t) :: pv x.c :: tx (tn x.y) :: ((if x.y = 1 then [tx (mn x.m), pv x.k, tx (on x.o)] else []) ++ (x.a.map pv ++ x.r.map pv))
def lineE (x : Ev) : List UInt8 := Lib.join (wds x) [32] ++ (if x.nd = true then 32 :: 59 :: tx x.n else [])
/-- its numbers are of 64 bits -/
def bdE (x : Ev) : Prop := x.t ≤ 9223372036854775807 ∧ bdV x.c ∧ bdV x.k ∧ (∀ i, i < x.a.length → bdV (nv x.a i)) ∧ (∀ i, i < x.r.length → bdV (nv x.r i))

/-! ### words of a line -/
def okW (l : List UInt8) : Prop := l ≠ [] ∧ ∀ b ∈ l, b ≠ 32 ∧ b ≠ 59
def okWb (l : List UInt8) : Bool := !l.isEmpty && l.all fun b => (b != 32 && b != 59)
theorem okW_of {l : List UInt8} (h : okWb l = true) : okW l := by
  unfold okWb at h
  simp only [Bool.and_eq_true, Bool.not_eq_true', List.all_eq_true, bne_iff_ne, ne_eq] at h
  refine ⟨fun e => ?_, h.2⟩
  rw [e] at h; simp at h
theorem okW_dec (u : Nat) : okW (Lib.decDigits u) := by
  obtain ⟨h1, _, h3, _⟩ := dec_all u
  refine ⟨fun e => by rw [e] at h3; simp at h3, fun b hb => ?_⟩
  have := h1 b hb
  refine ⟨fun e => ?_, fun e => ?_⟩ <;> (subst e; revert this; decide)
theorem okW_txt (n : Int) : okW (tx (txt n)) := by
  show okW (Lib.itoa n)
  by_cases h : n < 0
  · rw [itoa_neg h]
    obtain ⟨h1, h2⟩ := okW_dec n.natAbs
    refine ⟨by simp, fun b hb => ?_⟩
    rcases List.mem_cons.1 hb with rfl | hb
    · exact ⟨by decide, by decide⟩
    · exact h2 b hb
  · rw [itoa_pos h]; exact okW_dec _
theorem okW_word {s : ByteArray} (h : wordP s) : okW (tx s) := by
  obtain ⟨h0, _, _, h3⟩ := h
  refine ⟨fun e => by have := tx_len s; rw [e] at this; simp at this; omega, fun b hb => ?_⟩
  obtain ⟨i, hi, rfl⟩ := List.getElem_of_mem hb
  have hi' : i < s.size := by rw [← tx_len]; exact hi
  have := h3 i hi'
  rw [bt_tx s i _ (List.getElem?_eq_getElem hi)] at this
  refine ⟨fun e => ?_, fun e => ?_⟩ <;> (rw [e] at this; revert this; decide)
theorem okW_val {v : Val} (h : rV v = true) : okW (pv v) := by
  obtain ⟨k, n, s⟩ := v
  have hp : rightP k n s := of_decide_eq_true h
  show okW (tx (prt k n s))
  rcases hp with ⟨h1, _⟩ | ⟨h1, _⟩ | ⟨h1, h2, h3⟩ | ⟨h1, h2, h3⟩
  · subst h1; rw [prt_none (of_decide_eq_true h)]; exact okW_of (by decide)
  · subst h1; rw [prt_num (of_decide_eq_true h)]; exact okW_txt n
  · subst h1; rw [prt_word (of_decide_eq_true h)]; exact okW_word h3
  · subst h1
    by_cases e : n = 1
    · subst e; rw [prt_yes (of_decide_eq_true h)]; exact okW_of (by decide)
    · rw [prt_no (of_decide_eq_true h) e]; exact okW_of (by decide)
theorem sign_rows : ∀ k, k < 24 → (wI mn 11 (mn (rwA k).m) : Int) = (rwA k).m ∧ 0 < (rwA k).m ∧ (wI on 14 (on (rwA k).o) : Int) = (rwA k).o ∧ 0 < (rwA k).o ∧ okWb (tx (mn (rwA k).m)) = true ∧ okWb (tx (on (rwA k).o)) = true ∧ (rwA k).m < 11 ∧ (rwA k).o < 14 := by decide +kernel
theorem type_rows : ∀ k : Nat, k < 5 → wI tn 5 (tn (k : Int)) = k ∧ (0 < k → okWb (tx (tn (k : Int))) = true) := by decide +kernel

/-! ### values in words -/
theorem kp_z {f e : Int} (h : kp f e = 0) : f = 0 ∧ e = 0 := by
  unfold kp at h
  by_cases hf : f = 0
  · rw [if_pos hf] at h; exact ⟨hf, h⟩
  · rw [if_neg hf] at h; exact absurd h hf
theorem mf_z {b : Bool} (h : mf b = 0) : b = true := by
  cases b
  · exact absurd h (by decide)
  · rfl
theorem takes_rV {d : Int} {v : Val} (h : takesB d v.1 v.2.1 v.2.2 = true) : rV v = true := by
  unfold takesB at h
  rw [Bool.and_eq_true] at h
  exact h.1
theorem name_rV {v : Val} (h : nV v = true) : rV v = true := by
  unfold nV nameB at h
  rw [Bool.and_eq_true] at h
  exact h.1
theorem hdW_cons (a : List UInt8) (r : List (List UInt8)) : hdW (a :: r) = bs a := rfl
theorem par_pv {v : Val} (h : rV v = true) (hb : bdV v) (r : List (List UInt8)) : parR (hdW (pv v :: r)) = (v.1, v.2.1, v.2.2, 0) := by
  show parR (bs (tx (prt v.1 v.2.1 v.2.2))) = _
  rw [bs_tx]; exact par_prt (of_decide_eq_true h) hb
theorem vOf_pv {v : Val} (h : rV v = true) (hb : bdV v) (r : List (List UInt8)) : vOf (pv v :: r) = v := by unfold vOf; rw [par_pv h hb]
theorem tk_pv {v : Val} (d : Int) (h : rV v = true) (hb : bdV v) (r : List (List UInt8)) : tkF d 0 (pv v :: r) = mf (takesB d v.1 v.2.1 v.2.2) := by
  rw [tkF_0, par_pv h hb, vOf_pv h hb, kp_0]
theorem drop_pv (xs : List Val) (i : Nat) (h : i < xs.length) : (xs.map pv).drop i = pv (nv xs i) :: (xs.map pv).drop (i + 1) := by
  rw [List.drop_eq_getElem_cons (by simpa using h), List.getElem_map, nv_eq xs i h]
theorem aF_map {ds : List Int} {xs : List Val} (ht : ∀ i, i < xs.length → takesB (nth ds i) (nv xs i).1 (nv xs i).2.1 (nv xs i).2.2 = true) (hb : ∀ i, i < xs.length → bdV (nv xs i)) : ∀ k, k ≤ xs.length → aF ds 0 (xs.map pv) k = 0
  | 0, _ => rfl
  | k + 1, hk => by
    rw [aF, aF_map ht hb k (by omega), drop_pv xs k (by omega), tk_pv _ (takes_rV (ht k (by omega))) (hb k (by omega)), ht k (by omega)]; rfl
theorem rF_map {xs : List Val} (hr : ∀ i, i < xs.length → rV (nv xs i) = true) (hb : ∀ i, i < xs.length → bdV (nv xs i)) : ∀ k, k ≤ xs.length → rF 0 (xs.map pv) k = 0
  | 0, _ => rfl
  | k + 1, hk => by rw [rF, rF_map hr hb k (by omega), drop_pv xs k (by omega), par_pv (hr k (by omega)) (hb k (by omega)), kp_0]
theorem aV_map {xs : List Val} (hr : ∀ i, i < xs.length → rV (nv xs i) = true) (hb : ∀ i, i < xs.length → bdV (nv xs i)) : aV (xs.map pv) xs.length = xs := by
  unfold aV
  refine List.ext_getElem (by simp) fun i h1 h2 => ?_
  rw [List.getElem_map, List.getElem_range, drop_pv xs i h2, vOf_pv (hr i h2) (hb i h2), nv_eq xs i h2]
theorem all_rV {xs : List Val} (h : xs.all rV = true) (i : Nat) (hi : i < xs.length) : rV (nv xs i) = true := by
  rw [nv_eq xs i hi]; exact List.all_eq_true.1 h _ (List.getElem_mem hi)

/-! ### a number's text -/
theorem cnt_txt {t : Int} (h0 : 0 ≤ t) (h1 : t ≤ 9223372036854775807) : cntR (txt t) 9223372036854775807 = (t, 0) := by
  have hk : okD (txt t) := (ok_list _).2 (by rw [txt_list, itoa_pos (by omega)]; exact dec_ok _)
  rw [← sgnR_plain (plain_ok hk)]; exact read_txt t (by omega) h1
theorem txt_cnt {s : ByteArray} {n : Int} (h : cntR s 9223372036854775807 = (n, 0)) : 0 ≤ n ∧ n ≤ 9223372036854775807 ∧ txt n = s := by
  by_cases hk : okD s
  · have ht := txt_read ((sgnR_plain (plain_ok hk)).trans h)
    by_cases hv : (valN s s.size : Int) ≤ 9223372036854775807
    · rw [cntR_good hk hv] at h
      have e := congrArg Prod.fst h
      simp only at e
      exact ⟨by omega, by omega, ht⟩
    · rw [cntR_great hk hv] at h
      have e := congrArg Prod.snd h
      exact absurd (show (3 : Int) = 0 from e) (by decide)
  · rw [cntR_bad _ hk] at h
    have e := congrArg Prod.snd h
    exact absurd (show (2 : Int) = 0 from e) (by decide)

/-! ### a right event is told again -/
theorem front {t : Int} {c : Val} {y : Nat} (h0 : 0 ≤ t) (h1 : t ≤ 9223372036854775807) (hc : nV c = true) (hb : bdV c) (hy : y < 5) (hp : 0 < y) (M : List (List UInt8)) :
    eT (tx (txt t) :: pv c :: tx (tn (y : Int)) :: M) = (t, 0) ∧ vOf (List.tail (tx (txt t) :: pv c :: tx (tn (y : Int)) :: M)) = c ∧ eY (tx (txt t) :: pv c :: tx (tn (y : Int)) :: M) = y ∧ e3 0 (tx (txt t) :: pv c :: tx (tn (y : Int)) :: M) = 0 := by
  have a1 : eT (tx (txt t) :: pv c :: tx (tn (y : Int)) :: M) = (t, 0) := by
    show cntR (bs (tx (txt t))) _ = _
    rw [bs_tx]; exact cnt_txt h0 h1
  have a3 : eY (tx (txt t) :: pv c :: tx (tn (y : Int)) :: M) = y := by
    show wI tn 5 (bs (tx (tn (y : Int)))) = y
    rw [bs_tx]; exact (type_rows y hy).1
  refine ⟨a1, vOf_pv (name_rV hc) hb _, a3, ?_⟩
  unfold e3
  rw [a1, a3, decide_eq_true hp]
  show kp (tkF 0 (kp 0 0) (pv c :: _)) 0 = 0
  rw [kp_0, tk_pv 0 (name_rV hc) hb, takesB_n (by decide)]
  show kp (mf (nV c)) 0 = 0
  rw [hc]; rfl
theorem fitsL_t {ds : List Int} {xs : List Val} (h : fitsL ds xs = true) : xs.length = ds.length ∧ ∀ i, i < xs.length → takesB (nth ds i) (nv xs i).1 (nv xs i).2.1 (nv xs i).2.2 = true := of_decide_eq_true h
theorem eE_wds {x : Ev} (h : rightE x = true) (hb : bdE x) : eF 0 (wds x) = 0 ∧ eEv (wds x) = { x with nd := false, n := noB } := by
  obtain ⟨t, c, y, m, k, o, a, r, nd, n⟩ := x
  simp only [rightE, Bool.and_eq_true, decide_eq_true_eq] at h
  obtain ⟨⟨⟨h1, h2⟩, h3⟩, h4⟩ := h
  obtain ⟨b1, b2, b3, b4, b5⟩ := hb
  dsimp only at b1 b2 b3 b4 b5
  unfold typB at h4
  dsimp only at h4
  unfold wds
  dsimp only
  by_cases y1 : y = 1
  · subst y1
    rw [if_pos rfl] at h4 ⊢
    simp only [Bool.and_eq_true, decide_eq_true_eq] at h4
    obtain ⟨⟨k1, k2, k3⟩, k4⟩ := h4
    obtain rfl : r = [] := List.eq_nil_of_length_eq_zero k4
    obtain ⟨f1, f2⟩ := fitsL_t k3
    have hra : ∀ i, i < a.length → rV (nv a i) = true := fun i hi => takes_rV (f2 i hi)
    rcases fr_cases m o with ⟨j, hj, e1, e2, e3', e4⟩ | ⟨_, _, h⟩
    case inr => rw [h] at k2; cases k2
    obtain ⟨s1, s2, s3, s4, _⟩ := sign_rows j hj
    rw [e1] at s1 s2
    rw [e2] at s3 s4
    obtain ⟨a1, a2, a3, a4⟩ := front (t := t) (c := c) (y := 1) h1 b1 h2 b2 (by decide) (by decide) ([tx (mn m), pv k, tx (on o)] ++ (a.map pv ++ [].map pv))
    generalize hL : tx (txt t) :: pv c :: tx (tn ((1 : Nat) : Int)) :: ([tx (mn m), pv k, tx (on o)] ++ (a.map pv ++ [].map pv)) = L at a1 a2 a3 a4
    have hl3 : l3 L = tx (mn m) :: pv k :: tx (on o) :: a.map pv := by rw [← hL]; show _ = _; simp [l3]
    have hl6 : l6 L = a.map pv := by unfold l6; rw [hl3]; rfl
    have hcM : (cM (l3 L) : Int) = m := by rw [hl3]; show (wI mn 11 (bs (tx (mn m))) : Int) = m; rw [bs_tx]; exact s1
    have hcO : (cO (l3 L) : Int) = o := by rw [hl3]; show (wI on 14 (bs (tx (on o))) : Int) = o; rw [bs_tx]; exact s3
    have hcD : cD (l3 L) = (fr m o).inn := by unfold cD; rw [hcM, hcO]
    have hk : vOf (l3 L).tail = k := by rw [hl3]; exact vOf_pv (name_rV k1) b3 _
    have hcF : cF 0 (l3 L) = 0 := by
      unfold cF
      rw [hcM, hcO, k2, decide_eq_true (by omega : 0 < cM (l3 L)), hl3]
      show kp (tkF 1 (kp 0 0) (pv k :: _)) 0 = 0
      rw [kp_0, tk_pv 1 (name_rV k1) b3, takesB_n (by decide)]
      show kp (mf (nV k)) 0 = 0
      rw [k1]; rfl
    have haF := aF_map f2 b4 a.length (Nat.le_refl _)
    unfold eF eEv
    rw [if_pos a3, if_pos a3, a4, hcF, hcD, hl6, ← f1, haF, a1, a2, hcM, hcO, hk, aV_map hra b4]
    refine ⟨?_, rfl⟩
    rw [List.drop_eq_nil_of_le (by simp)]
    rfl
  rw [if_neg y1] at h4 ⊢
  by_cases y2 : y = 2
  · subst y2
    rw [if_pos rfl] at h4
    simp only [Bool.and_eq_true, nonB, decide_eq_true_eq] at h4
    obtain ⟨⟨k1, k2, k3, k4, k5, k6⟩, k7⟩ := h4
    obtain rfl : a = [] := List.eq_nil_of_length_eq_zero k6
    obtain ⟨kk, kn, ks⟩ := k
    simp only at k3 k4 k5
    obtain rfl : ks = noB := empty_of_size k5
    subst k1 k2 k3 k4
    obtain ⟨a1, a2, a3, a4⟩ := front (t := t) (c := c) (y := 2) h1 b1 h2 b2 (by decide) (by decide) ([] ++ ([].map pv ++ r.map pv))
    generalize hL : tx (txt t) :: pv c :: tx (tn ((2 : Nat) : Int)) :: ([] ++ ([].map pv ++ r.map pv)) = L at a1 a2 a3 a4
    have hl3 : l3 L = r.map pv := by rw [← hL]; rfl
    have hne : ¬ eY L = 1 := by omega
    unfold eF eEv
    rw [if_neg hne, if_neg hne, if_pos a3, if_pos a3, a4, hl3, a1, a2]
    rw [show (r.map pv).length = r.length by simp, rF_map (all_rV k7) b5 r.length (Nat.le_refl _), aV_map (all_rV k7) b5]
    exact ⟨rfl, rfl⟩
  rw [if_neg y2] at h4
  by_cases y3 : y = 3 ∨ y = 4
  · rw [if_pos y3] at h4
    simp only [Bool.and_eq_true, nonB, decide_eq_true_eq] at h4
    obtain ⟨⟨k1, k2, k3, k4, k5, k6⟩, k7⟩ := h4
    obtain rfl : a = [] := List.eq_nil_of_length_eq_zero k6
    obtain rfl : r = [] := List.eq_nil_of_length_eq_zero k7
    obtain ⟨kk, kn, ks⟩ := k
    simp only at k3 k4 k5
    obtain rfl : ks = noB := empty_of_size k5
    subst k1 k2 k3 k4
    obtain ⟨u, rfl, hu, hu'⟩ : ∃ u : Nat, y = (u : Int) ∧ u < 5 ∧ 2 < u := by
      rcases y3 with rfl | rfl
      · exact ⟨3, rfl, by decide, by decide⟩
      · exact ⟨4, rfl, by decide, by decide⟩
    obtain ⟨a1, a2, a3, a4⟩ := front (t := t) (c := c) (y := u) h1 b1 h2 b2 hu (by omega) ([] ++ ([].map pv ++ [].map pv))
    generalize hL : tx (txt t) :: pv c :: tx (tn (u : Int)) :: ([] ++ ([].map pv ++ [].map pv)) = L at a1 a2 a3 a4
    have hl3 : l3 L = [] := by rw [← hL]; rfl
    have hne : ¬ eY L = 1 := by omega
    have hne2 : ¬ eY L = 2 := by omega
    unfold eF eEv
    rw [if_neg hne, if_neg hne, if_neg hne2, if_neg hne2, a4, hl3, a1, a2, a3]
    exact ⟨rfl, rfl⟩
  · rw [if_neg y3] at h4; cases h4
end Go.Proofs.YtdhlheilgagcpaaGreatDoor
namespace Go.Proofs.YtdhlheilgagcpaaGreatDoor
open Go.RowKit Go.PlainAid Ln
set_option linter.unusedVariables false
set_option linter.unusedSimpArgs false

theorem par_z {s : ByteArray} (h : (parR s).2.2.2 = 0) : rightP (parR s).1 (parR s).2.1 (parR s).2.2.1 ∧ prt (parR s).1 (parR s).2.1 (parR s).2.2.1 = s ∧ (-9223372036854775808 ≤ (parR s).2.1 ∧ (parR s).2.1 ≤ 9223372036854775807) := by
  have e : parR s = ((parR s).1, (parR s).2.1, (parR s).2.2.1, 0) := Prod.ext rfl (Prod.ext rfl (Prod.ext rfl h))
  obtain ⟨h1, h2, h3, _⟩ := prt_par e
  exact ⟨h1, h2, h3⟩
theorem tk_z {d f : Int} {L : List (List UInt8)} (h : tkF d f L = 0) : f = 0 ∧ (parR (hdW L)).2.2.2 = 0 ∧ takesB d (vOf L).1 (vOf L).2.1 (vOf L).2.2 = true := by
  unfold tkF at h
  obtain ⟨h1, h2⟩ := kp_z h
  obtain ⟨h3, h4⟩ := kp_z h1
  exact ⟨h3, h4, mf_z h2⟩
theorem pv_of {L : List (List UInt8)} (h : (parR (hdW L)).2.2.2 = 0) : rV (vOf L) = true ∧ bdV (vOf L) ∧ bs (pv (vOf L)) = hdW L ∧ L ≠ [] := by
  obtain ⟨h1, h2, h3⟩ := par_z h
  refine ⟨decide_eq_true h1, h3, ?_, fun e => ?_⟩
  · show bs (tx (prt _ _ _)) = _
    rw [bs_tx]; exact h2
  · rw [e] at h
    have h4 : (parR (hdW [])).2.2.2 = 2 := par_empty
    rw [h4] at h
    exact absurd h (by decide)
theorem pv_hd {a : List UInt8} {r : List (List UInt8)} (h : (parR (hdW (a :: r))).2.2.2 = 0) : pv (vOf (a :: r)) = a := bs_inj (pv_of h).2.2.1
theorem isW_tx {f : Int → ByteArray} {n k : Nat} {a : List UInt8} (h : wI f n (bs a) = k) (hk : 0 < k) : k < n ∧ tx (f (k : Int)) = a := by
  rcases isW_wI f n (bs a) with ⟨h1, h2⟩ | ⟨h1, _⟩
  · rw [h] at h1 h2
    refine ⟨h1, ?_⟩
    have := eq_of_beq h2
    rw [bs_toList, tx_toList] at this
    exact this
  · omega
theorem aF_z {ds : List Int} {f : Int} {L : List (List UInt8)} {n : Nat} (h : aF ds f L n = 0) (k : Nat) (hk : k ≤ n) : aF ds f L k = 0 := by
  by_cases e : aF ds f L k = 0
  · exact e
  · have := aF_le e hk
    rw [h] at this
    exact absurd this.symm e
theorem rF_z {f : Int} {L : List (List UInt8)} {n : Nat} (h : rF f L n = 0) (k : Nat) (hk : k ≤ n) : rF f L k = 0 := by
  by_cases e : rF f L k = 0
  · exact e
  · have := rF_le e hk
    rw [h] at this
    exact absurd this.symm e
theorem aF_all {ds : List Int} {N : List (List UInt8)} {n : Nat} (h : aF ds 0 N n = 0) (i : Nat) (hi : i < n) : (parR (hdW (N.drop i))).2.2.2 = 0 ∧ takesB (nth ds i) (vOf (N.drop i)).1 (vOf (N.drop i)).2.1 (vOf (N.drop i)).2.2 = true := by
  have := aF_z h (i + 1) hi
  rw [aF] at this
  exact (tk_z this).2
theorem rF_all {N : List (List UInt8)} {n : Nat} (h : rF 0 N n = 0) (i : Nat) (hi : i < n) : (parR (hdW (N.drop i))).2.2.2 = 0 := by
  have := rF_z h (i + 1) hi
  rw [rF] at this
  exact (kp_z this).2
theorem aV_pv {N : List (List UInt8)} {n : Nat} (hn : N.length = n) (h : ∀ i, i < n → (parR (hdW (N.drop i))).2.2.2 = 0) : (aV N n).map pv = N := by
  unfold aV
  refine List.ext_getElem (by simp [hn]) fun i h1 h2 => ?_
  rw [List.getElem_map, List.getElem_map, List.getElem_range]
  have h3 := h i (by omega)
  rw [List.drop_eq_getElem_cons h2] at h3 ⊢
  exact pv_hd h3
theorem nv_aV (N : List (List UInt8)) (n i : Nat) (h : i < n) : nv (aV N n) i = vOf (N.drop i) := by
  rw [nv_eq _ i (by rw [aV_len]; exact h)]
  unfold aV
  rw [List.getElem_map, List.getElem_range]
theorem len_par {N : List (List UInt8)} {i : Nat} (h : (parR (hdW (N.drop i))).2.2.2 = 0) : i < N.length := by
  rcases Nat.lt_or_ge i N.length with h' | h'
  · exact h'
  · exact absurd (List.drop_eq_nil_of_le h') (pv_of h).2.2.2
theorem aV_all {N : List (List UInt8)} {n : Nat} (h : ∀ i, i < n → (parR (hdW (N.drop i))).2.2.2 = 0) : (aV N n).all rV = true ∧ ∀ i, i < (aV N n).length → bdV (nv (aV N n) i) := by
  refine ⟨List.all_eq_true.2 fun v hv => ?_, fun i hi => ?_⟩
  · unfold aV at hv
    obtain ⟨i, hi, rfl⟩ := List.mem_map.1 hv
    exact (pv_of (h i (List.mem_range.1 hi))).1
  · rw [aV_len] at hi
    rw [nv_aV N n i hi]
    exact (pv_of (h i hi)).2.1
theorem bdV_no : bdV (0, 0, noB) := by unfold bdV; decide

set_option maxHeartbeats 1000000 in
theorem wds_eE {L : List (List UInt8)} (h : eF 0 L = 0) (nd : Bool) (n : ByteArray) (hn : noteB nd n = true) :
    rightE { eEv L with nd := nd, n := n } = true ∧ wds { eEv L with nd := nd, n := n } = L ∧ bdE { eEv L with nd := nd, n := n } := by
  have h3 : e3 0 L = 0 := by
    by_cases e : e3 0 L = 0
    · exact e
    · rw [eF_e3 e] at h; exact absurd h e
  have h3' := h3
  unfold e3 at h3'
  obtain ⟨g1, g2⟩ := kp_z h3'
  obtain ⟨g3, g4, g5⟩ := tk_z g1
  rw [kp_0] at g3
  have g6 : 0 < eY L := of_decide_eq_true (mf_z g2)
  clear h3' g1 g2
  rcases L with _ | ⟨a, _ | ⟨b, _ | ⟨c, M⟩⟩⟩
  · exact absurd g6 (by show ¬ 0 < wI tn 5 ⟨#[]⟩; rw [t_empty]; omega)
  · exact absurd g6 (by show ¬ 0 < wI tn 5 ⟨#[]⟩; rw [t_empty]; omega)
  · exact absurd g6 (by show ¬ 0 < wI tn 5 ⟨#[]⟩; rw [t_empty]; omega)
  obtain ⟨t0, t1, t2⟩ := txt_cnt (show cntR (bs a) 9223372036854775807 = ((eT (a :: b :: c :: M)).1, 0) from Prod.ext rfl g3)
  replace g4 : (parR (hdW (b :: c :: M))).2.2.2 = 0 := g4
  obtain ⟨c1, c2, _, _⟩ := pv_of g4
  have c3 := pv_hd g4
  obtain ⟨y, hy⟩ : ∃ y, eY (a :: b :: c :: M) = y := ⟨_, rfl⟩
  have hy' : wI tn 5 (bs c) = y := hy
  rw [hy] at g6
  obtain ⟨y5, hc⟩ := isW_tx hy' g6
  have hname : nV (vOf (b :: c :: M)) = true := by
    have := g5
    rw [takesB_n (by decide)] at this
    exact this
  have htx : tx (txt (eT (a :: b :: c :: M)).1) = a := by rw [t2]; rfl
  by_cases y1 : y = 1
  · subst y1
    unfold eF at h
    rw [if_pos hy, h3] at h
    obtain ⟨p1, p2⟩ := kp_z h
    replace p1 : aF (cD M) (cF 0 M) M.tail.tail.tail (cD M).length = 0 := p1
    replace p2 : mf (!decide (0 < (M.tail.tail.tail.drop (cD M).length).length)) = 0 := p2
    have q : cF 0 M = 0 := by
      by_cases e : cF 0 M = 0
      · exact e
      · rw [aF_ne e] at p1; exact absurd p1 e
    rw [q] at p1
    unfold cF at q
    obtain ⟨q1, q2⟩ := kp_z q
    obtain ⟨q3, q4, q5⟩ := tk_z q1
    rw [kp_0] at q3
    have q6 : 0 < cM M := of_decide_eq_true (mf_z q3)
    have q7 : fi (cM M) (cO M) = true := mf_z q2
    clear q q1 q2 q3
    have hE : eEv (a :: b :: c :: M) = ⟨(eT (a :: b :: c :: M)).1, vOf (b :: c :: M), 1, cM M, vOf M.tail, cO M, aV M.tail.tail.tail (cD M).length, [], false, noB⟩ := by
      unfold eEv; rw [if_pos hy]; rfl
    rw [hE]
    clear hE h
    rcases M with _ | ⟨d, _ | ⟨k, _ | ⟨o, N⟩⟩⟩
    · exact absurd q6 (by show ¬ 0 < wI mn 11 ⟨#[]⟩; rw [m_empty]; omega)
    · exact absurd rfl (pv_of q4).2.2.2
    · have e : cO [d, k] = 0 := o_empty
      rw [e, show ((0 : Nat) : Int) = 0 from rfl, fi_zero] at q7
      cases q7
    replace q4 : (parR (hdW (k :: o :: N))).2.2.2 = 0 := q4
    replace p1 : aF (cD (d :: k :: o :: N)) 0 N (cD (d :: k :: o :: N)).length = 0 := p1
    replace p2 : mf (!decide (0 < (N.drop (cD (d :: k :: o :: N)).length).length)) = 0 := p2
    have q8 : 0 < cO (d :: k :: o :: N) := by
      rcases Nat.eq_zero_or_pos (cO (d :: k :: o :: N)) with e | e
      · rw [e, show ((0 : Nat) : Int) = 0 from rfl, fi_zero] at q7; cases q7
      · exact e
    obtain ⟨_, hd⟩ := isW_tx (f := mn) (n := 11) (a := d) (k := cM (d :: k :: o :: N)) rfl q6
    obtain ⟨_, ho⟩ := isW_tx (f := on) (n := 14) (a := o) (k := cO (d :: k :: o :: N)) rfl q8
    obtain ⟨k1, k2, _, _⟩ := pv_of q4
    have k3 := pv_hd q4
    have hcD : cD (d :: k :: o :: N) = (fr (cM (d :: k :: o :: N)) (cO (d :: k :: o :: N))).inn := rfl
    generalize cD (d :: k :: o :: N) = ds at *
    have p3 := mf_z p2
    simp only [Bool.not_eq_true', decide_eq_false_iff_not, List.length_drop] at p3
    have all := aF_all p1
    have hN : N.length = ds.length := by
      rcases Nat.eq_zero_or_pos ds.length with e | e
      · omega
      · have := len_par (all (ds.length - 1) (by omega)).1
        omega
    have hA := aV_all (N := N) (n := ds.length) fun i hi => (all i hi).1
    have hP := aV_pv hN fun i hi => (all i hi).1
    have hkey : nV (vOf (k :: o :: N)) = true := by
      have := q5
      rw [takesB_n (by decide)] at this
      exact this
    have hfit : fitsL (fr (cM (d :: k :: o :: N)) (cO (d :: k :: o :: N))).inn (aV N ds.length) = true := by
      rw [← hcD]
      refine fitsL_all (aV_len _ _) fun i hi => ?_
      rw [aV_len] at hi
      rw [nv_aV _ _ _ hi]
      exact (all i hi).2
    refine ⟨?_, ?_, t1, c2, k2, hA.2, fun i hi => absurd hi (Nat.not_lt_zero i)⟩
    · have hty : typB (⟨(eT (a :: b :: c :: d :: k :: o :: N)).1, vOf (b :: c :: d :: k :: o :: N), 1, cM (d :: k :: o :: N), vOf (k :: o :: N), cO (d :: k :: o :: N), aV N ds.length, [], nd, n⟩ : Ev) = true := by
        unfold typB
        dsimp only
        rw [if_pos rfl, hkey, q7, hfit]; rfl
      unfold rightE
      simp only [Bool.and_eq_true, decide_eq_true_eq]
      exact ⟨⟨⟨t0, hname⟩, hn⟩, hty⟩
    · show tx (txt (eT (a :: b :: c :: d :: k :: o :: N)).1) :: pv (vOf (b :: c :: d :: k :: o :: N)) :: tx (tn ((1 : Nat) : Int)) :: ([tx (mn (cM (d :: k :: o :: N) : Int)), pv (vOf (k :: o :: N)), tx (on (cO (d :: k :: o :: N) : Int))] ++ ((aV N ds.length).map pv ++ [].map pv)) = _
      rw [htx, c3, hc, hd, k3, ho, hP]
      simp
  · have hy1 : ¬ eY (a :: b :: c :: M) = 1 := by omega
    by_cases y2 : y = 2
    · subst y2
      unfold eF at h
      rw [if_neg hy1, if_pos hy, h3] at h
      replace h : rF 0 M M.length = 0 := h
      have hE : eEv (a :: b :: c :: M) = ⟨(eT (a :: b :: c :: M)).1, vOf (b :: c :: M), 2, 0, (0, 0, noB), 0, [], aV M M.length, false, noB⟩ := by
        unfold eEv; rw [if_neg hy1, if_pos hy]; rfl
      rw [hE]
      clear hE
      have all := rF_all h
      have hA := aV_all all
      have hP := aV_pv rfl all
      refine ⟨?_, ?_, t1, c2, bdV_no, fun i hi => absurd hi (Nat.not_lt_zero i), hA.2⟩
      · have hty : typB (⟨(eT (a :: b :: c :: M)).1, vOf (b :: c :: M), 2, 0, (0, 0, noB), 0, [], aV M M.length, nd, n⟩ : Ev) = true := by
          unfold typB
          dsimp only
          rw [if_neg (by decide), if_pos rfl, hA.1]; rfl
        unfold rightE
        simp only [Bool.and_eq_true, decide_eq_true_eq]
        exact ⟨⟨⟨t0, hname⟩, hn⟩, hty⟩
      · show tx (txt (eT (a :: b :: c :: M)).1) :: pv (vOf (b :: c :: M)) :: tx (tn ((2 : Nat) : Int)) :: ([] ++ ([].map pv ++ (aV M M.length).map pv)) = _
        rw [htx, c3, hc, hP]
        simp
    · have hy2 : ¬ eY (a :: b :: c :: M) = 2 := by omega
      unfold eF at h
      rw [if_neg hy1, if_neg hy2, h3, kp_0] at h
      have p3 := mf_z h
      obtain rfl : M = [] := by
        refine List.eq_nil_of_length_eq_zero ?_
        have : ¬ 0 < M.length := of_decide_eq_false (by have := p3; rw [Bool.not_eq_true'] at this; exact this)
        omega
      have hE : eEv [a, b, c] = ⟨(eT [a, b, c]).1, vOf [b, c], (y : Int), 0, (0, 0, noB), 0, [], [], false, noB⟩ := by
        unfold eEv; rw [if_neg hy1, if_neg hy2, hy]; rfl
      rw [hE]
      clear hE
      have z1 : ¬ (y : Int) = 1 := by omega
      have z2 : ¬ (y : Int) = 2 := by omega
      have z3 : (y : Int) = 3 ∨ (y : Int) = 4 := by omega
      refine ⟨?_, ?_, t1, c2, bdV_no, fun i hi => absurd hi (Nat.not_lt_zero i), fun i hi => absurd hi (Nat.not_lt_zero i)⟩
      · have hty : typB (⟨(eT [a, b, c]).1, vOf [b, c], (y : Int), 0, (0, 0, noB), 0, [], [], nd, n⟩ : Ev) = true := by
          unfold typB
          dsimp only
          rw [if_neg z1, if_neg z2, if_pos z3]; rfl
        unfold rightE
        simp only [Bool.and_eq_true, decide_eq_true_eq]
        exact ⟨⟨⟨t0, hname⟩, hn⟩, hty⟩
      · unfold wds
        dsimp only
        rw [if_neg z1, htx, c3, hc]
        simp
end Go.Proofs.YtdhlheilgagcpaaGreatDoor
namespace Go.Proofs.YtdhlheilgagcpaaGreatDoor
open Go.RowKit Go.PlainAid Ln
set_option linter.unusedVariables false
set_option linter.unusedSimpArgs false

/-- what all parts of a right event have, all its words have -/
theorem wds_all {P : List UInt8 → Prop} {x : Ev} (h : rightE x = true) (hb : bdE x) (p1 : P (tx (txt x.t))) (p2 : ∀ v, rV v = true → bdV v → P (pv v)) (p3 : ∀ u : Nat, u < 5 → 0 < u → P (tx (tn (u : Int)))) (p4 : ∀ k, k < 24 → P (tx (mn (rwA k).m)) ∧ P (tx (on (rwA k).o))) : ∀ l ∈ wds x, P l := by
  obtain ⟨t, c, y, m, k, o, a, r, nd, n⟩ := x
  simp only [rightE, Bool.and_eq_true, decide_eq_true_eq] at h
  obtain ⟨⟨⟨h1, h2⟩, h3⟩, h4⟩ := h
  obtain ⟨b1, b2, b3, b4, b5⟩ := hb
  dsimp only at b1 b2 b3 b4 b5 p1
  unfold typB at h4
  dsimp only at h2 h4
  have key : ∀ u : Nat, u < 5 → 0 < u → ∀ M Q : List (List UInt8), (∀ l ∈ M, P l) → (∀ l ∈ Q, P l) → ∀ l ∈ tx (txt t) :: pv c :: tx (tn (u : Int)) :: (M ++ Q), P l := by
    intro u hu hu' M Q hP hQ l hl
    rcases List.mem_cons.1 hl with rfl | hl
    · exact p1
    rcases List.mem_cons.1 hl with rfl | hl
    · exact p2 _ (name_rV h2) b2
    rcases List.mem_cons.1 hl with rfl | hl
    · exact p3 u hu hu'
    rcases List.mem_append.1 hl with hl | hl
    · exact hP l hl
    · exact hQ l hl
  have vals : ∀ xs : List Val, (∀ i, i < xs.length → rV (nv xs i) = true) → (∀ i, i < xs.length → bdV (nv xs i)) → ∀ l ∈ xs.map pv, P l := by
    intro xs hx hx' l hl
    obtain ⟨v, hv, rfl⟩ := List.mem_map.1 hl
    obtain ⟨i, hi, rfl⟩ := List.getElem_of_mem hv
    have e1 := hx i hi
    have e2 := hx' i hi
    rw [nv_eq xs i hi] at e1 e2
    exact p2 _ e1 e2
  have none : ∀ l ∈ ([] : List (List UInt8)), P l := fun l hl => by cases hl
  unfold wds
  dsimp only
  by_cases y1 : y = 1
  · subst y1
    rw [if_pos rfl] at h4 ⊢
    simp only [Bool.and_eq_true, decide_eq_true_eq] at h4
    obtain ⟨⟨k1, k2, k3⟩, k4⟩ := h4
    obtain rfl : r = [] := List.eq_nil_of_length_eq_zero k4
    obtain ⟨f1, f2⟩ := fitsL_t k3
    rcases fr_cases m o with ⟨j, hj, e1, e2, e3', e4⟩ | ⟨_, _, h⟩
    case inr => rw [h] at k2; cases k2
    obtain ⟨s5, s6⟩ := p4 j hj
    rw [e1] at s5
    rw [e2] at s6
    refine key 1 (by decide) (by decide) _ _ (fun l hl => ?_) (fun l hl => ?_)
    · simp only [List.mem_cons, List.not_mem_nil, or_false] at hl
      rcases hl with rfl | rfl | rfl
      · exact s5
      · exact p2 _ (name_rV k1) b3
      · exact s6
    · rw [List.map_nil, List.append_nil] at hl
      exact vals a (fun i hi => takes_rV (f2 i hi)) b4 l hl
  rw [if_neg y1] at h4 ⊢
  by_cases y2 : y = 2
  · subst y2
    rw [if_pos rfl] at h4
    simp only [Bool.and_eq_true, nonB, decide_eq_true_eq] at h4
    obtain ⟨⟨k1, k2, k3, k4, k5, k6⟩, k7⟩ := h4
    obtain rfl : a = [] := List.eq_nil_of_length_eq_zero k6
    exact key 2 (by decide) (by decide) _ _ none (fun l hl => vals r (all_rV k7) b5 l hl)
  rw [if_neg y2] at h4
  by_cases y3 : y = 3 ∨ y = 4
  · rw [if_pos y3] at h4
    simp only [Bool.and_eq_true, nonB, decide_eq_true_eq] at h4
    obtain ⟨⟨k1, k2, k3, k4, k5, k6⟩, k7⟩ := h4
    obtain rfl : a = [] := List.eq_nil_of_length_eq_zero k6
    obtain rfl : r = [] := List.eq_nil_of_length_eq_zero k7
    rcases y3 with rfl | rfl
    · exact key 3 (by decide) (by decide) _ _ none none
    · exact key 4 (by decide) (by decide) _ _ none none
  · rw [if_neg y3] at h4; cases h4
theorem wds_ok {x : Ev} (h : rightE x = true) (hb : bdE x) : ∀ l ∈ wds x, okW l :=
  wds_all h hb (okW_txt _) (fun v hv _ => okW_val hv) (fun u hu hu' => okW_of ((type_rows u hu).2 hu')) (fun k hk => ⟨okW_of (sign_rows k hk).2.2.2.2.1, okW_of (sign_rows k hk).2.2.2.2.2.1⟩)
/-- at most two values are handed in -/
theorem a_len {x : Ev} (h : rightE x = true) : x.a.length ≤ 2 := by
  obtain ⟨t, c, y, m, k, o, a, r, nd, n⟩ := x
  simp only [rightE, Bool.and_eq_true, decide_eq_true_eq] at h
  obtain ⟨_, h4⟩ := h
  unfold typB at h4
  dsimp only at h4 ⊢
  by_cases y1 : y = 1
  · rw [if_pos y1] at h4
    simp only [Bool.and_eq_true, decide_eq_true_eq] at h4
    have e := (fitsL_t h4.1.2.2).1
    have := fr_all (p := fun r => decide (r.inn.length ≤ 2)) rfl m o
    simp at this
    omega
  rw [if_neg y1] at h4
  by_cases y2 : y = 2
  · rw [if_pos y2] at h4
    simp only [Bool.and_eq_true, nonB, decide_eq_true_eq] at h4
    have := h4.1.2.2.2.2.2
    omega
  rw [if_neg y2] at h4
  by_cases y3 : y = 3 ∨ y = 4
  · rw [if_pos y3] at h4
    simp only [Bool.and_eq_true, nonB, decide_eq_true_eq] at h4
    have := h4.1.2.2.2.2.2
    omega
  · rw [if_neg y3] at h4; cases h4

theorem joinTail_free {c : UInt8} (hc : c ≠ 32) : ∀ L : List (List UInt8), (∀ l ∈ L, c ∉ l) → c ∉ Lib.joinTail [32] L
  | [], _ => by simp [Lib.joinTail]
  | y :: r, h => by
    have e : Lib.joinTail [32] (y :: r) = ([32] ++ y) ++ Lib.joinTail [32] r := by simp [Lib.joinTail]
    have h1 := joinTail_free hc r fun l hl => h l (List.mem_cons_of_mem _ hl)
    have h2 := h y List.mem_cons_self
    rw [e]
    simp only [List.mem_append, List.mem_cons, List.not_mem_nil, or_false]
    rintro ((e | e) | e)
    · exact hc e
    · exact h2 e
    · exact h1 e
theorem join_free {c : UInt8} (hc : c ≠ 32) (L : List (List UInt8)) (h : ∀ l ∈ L, c ∉ l) : c ∉ Lib.join L [32] := by
  cases L with
  | nil => simp [Lib.join]
  | cons y r =>
    rw [Lib.join_cons, List.mem_append]
    rintro (e | e)
    · exact h y List.mem_cons_self e
    · exact joinTail_free hc r (fun l hl => h l (List.mem_cons_of_mem _ hl)) e
theorem joinTail_len {m : Nat} : ∀ L : List (List UInt8), (∀ l ∈ L, l.length ≤ m) → (Lib.joinTail [32] L).length ≤ L.length * (m + 1)
  | [], _ => by simp [Lib.joinTail]
  | y :: r, h => by
    have e : Lib.joinTail [32] (y :: r) = ([32] ++ y) ++ Lib.joinTail [32] r := by simp [Lib.joinTail]
    have h1 := joinTail_len r fun l hl => h l (List.mem_cons_of_mem _ hl)
    have h2 := h y List.mem_cons_self
    rw [e]
    simp only [List.length_append, List.length_cons, List.length_nil, Nat.succ_mul, Nat.add_mul] at h1 ⊢
    omega
theorem join_len {m : Nat} (L : List (List UInt8)) (h : ∀ l ∈ L, l.length ≤ m) : (Lib.join L [32]).length ≤ L.length * (m + 1) := by
  cases L with
  | nil => simp [Lib.join]
  | cons y r =>
    have h1 := joinTail_len r fun l hl => h l (List.mem_cons_of_mem _ hl)
    have h2 := h y List.mem_cons_self
    rw [Lib.join_cons, List.length_append]
    simp only [List.length_cons, Nat.succ_mul] at h1 ⊢
    omega

theorem noteR_line {W : List (List UInt8)} (h : ∀ l ∈ W, okW l) {nd : Bool} {n : ByteArray} (hn : noteB nd n = true) :
    noteR (Lib.join W [32] ++ (if nd = true then 32 :: 59 :: tx n else [])) = (Lib.join W [32], tx n, nd, true) := by
  have h59 : (59 : UInt8) ∉ Lib.join W [32] := join_free (by decide) W fun l hl e => ((h l hl).2 59 e).2 rfl
  unfold noteB at hn
  cases nd
  · rw [if_neg (by decide), decide_eq_true_eq] at hn
    rw [if_neg (by decide), List.append_nil, noteR_none _ h59]
    obtain rfl : n = noB := empty_of_size hn
    rfl
  · rw [if_pos rfl, decide_eq_true_eq] at hn
    rw [if_pos rfl, show Lib.join W [32] ++ 32 :: 59 :: tx n = (Lib.join W [32] ++ [32]) ++ 59 :: tx n by simp]
    rw [noteR_good _ _ (by simp [h59]) ⟨by simp, by rw [tx_len]; exact hn.1, hn.2⟩, List.dropLast_concat]
theorem pcs_line {W : List (List UInt8)} (h0 : W ≠ []) (h : ∀ l ∈ W, okW l) : pcs 32 (Lib.join W [32]) = W :=
  pcs_join 32 W h0 fun l hl e => ((h l hl).2 32 e).1 rfl
/-- a right event is told again from its line -/
theorem read_line {x : Ev} (h : rightE x = true) (hb : bdE x) : pE (lineE x) = (x, 0) := by
  have hW := wds_ok h hb
  have hn : noteB x.nd x.n = true := by
    have := h
    simp only [rightE, Bool.and_eq_true] at this
    exact this.1.2
  obtain ⟨e1, e2⟩ := eE_wds h hb
  unfold pE lineE
  rw [noteR_line hW hn]
  dsimp only
  rw [pcs_line (by unfold wds; simp) hW, if_pos ⟨rfl, fun e => (hW [] e).1 rfl, e1⟩, e2, bs_tx]
/-- what is told of a line is right and has just this line -/
theorem line_read {l : List UInt8} {x : Ev} (h : pE l = (x, 0)) : rightE x = true ∧ lineE x = l ∧ bdE x := by
  unfold pE at h
  split at h
  · rename_i hc
    obtain ⟨c1, c2, c3⟩ := hc
    have hx := congrArg Prod.fst h
    dsimp only at hx
    subst hx
    clear h
    rcases cut_cases 59 l with ⟨h1, _⟩ | ⟨a, b, rfl, h2, _⟩
    · rw [noteR_none l h1] at c1 c2 c3 ⊢
      dsimp only at c2 c3 ⊢
      obtain ⟨r1, r2, r3⟩ := wds_eE c3 false (bs []) (by decide)
      refine ⟨r1, ?_, r3⟩
      unfold lineE
      rw [r2]
      dsimp only
      rw [join_pcs]; simp
    · by_cases hp : noteP a b
      · rw [noteR_good a b h2 hp] at c1 c2 c3 ⊢
        dsimp only at c2 c3 ⊢
        obtain ⟨p1, p2, p3⟩ := hp
        obtain ⟨r1, r2, r3⟩ := wds_eE c3 true (bs b) (by unfold noteB; rw [if_pos rfl]; exact decide_eq_true ⟨p2, p3⟩)
        refine ⟨r1, ?_, r3⟩
        unfold lineE
        rw [r2]
        dsimp only
        rw [join_pcs, if_pos rfl, tx_bs]
        obtain ⟨a', rfl⟩ := List.getLast?_eq_some_iff.1 p1
        rw [List.dropLast_concat]; simp
      · rw [noteR_bad a b h2 hp] at c1
        exact absurd c1 (by decide)
  · rename_i hc
    split at h
    · rename_i hd
      have e := congrArg Prod.snd h
      exact absurd ⟨hd.1, hd.2, e⟩ hc
    · have e := congrArg Prod.snd h
      exact absurd (show (2 : Int) = 0 from e) (by decide)

/-! ### sizes -/
theorem right_size {v : Val} (h : rV v = true) : v.2.2.size ≤ 40 := by
  have hp : rightP v.1 v.2.1 v.2.2 := of_decide_eq_true h
  rcases hp with ⟨_, _, h⟩ | ⟨_, h⟩ | ⟨_, _, _, h, _⟩ | ⟨_, _, h⟩ <;> omega
theorem pv_len {v : Val} (h : rV v = true) (hb : bdV v) : (pv v).length ≤ 61 := by
  have h1 := right_size h
  have h2 := prt_size v.1 v.2.1 v.2.2 hb
  unfold pv
  rw [tx_len]; omega
theorem tn_len : ∀ k : Nat, k < 5 → (tx (tn (k : Int))).length ≤ 61 := by decide +kernel
theorem mn_len : ∀ k, k < 24 → (tx (mn (rwA k).m)).length ≤ 61 ∧ (tx (on (rwA k).o)).length ≤ 61 := by decide +kernel
theorem wds_len {x : Ev} (h : rightE x = true) (hb : bdE x) : (∀ l ∈ wds x, l.length ≤ 61) ∧ (wds x).length ≤ x.r.length + 8 := by
  have h0 : 0 ≤ x.t := by
    have := h
    simp only [rightE, Bool.and_eq_true, decide_eq_true_eq] at this
    exact this.1.1.1
  refine ⟨wds_all h hb ?_ (fun v h1 h2 => pv_len h1 h2) (fun u hu _ => tn_len u hu) mn_len, ?_⟩
  · rw [tx_len]
    have := txt_size x.t (by omega) hb.1
    omega
  · have := a_len h
    unfold wds
    simp only [List.length_cons, List.length_append, List.length_map]
    split <;> simp <;> omega
theorem line_len {x : Ev} (h : rightE x = true) (hb : bdE x) (hr : x.r.length ≤ 2001) : (lineE x).length ≤ 900000 := by
  obtain ⟨h1, h2⟩ := wds_len h hb
  have h3 := join_len (wds x) h1
  have hn : noteB x.nd x.n = true := by
    have := h
    simp only [rightE, Bool.and_eq_true] at this
    exact this.1.2
  have h4 : (wds x).length * (61 + 1) ≤ 2009 * 62 := Nat.mul_le_mul_right _ (by omega)
  unfold lineE
  unfold noteB at hn
  rw [List.length_append]
  split
  · rename_i e
    rw [if_pos e, decide_eq_true_eq] at hn
    simp only [List.length_cons, tx_len]
    omega
  · simp only [List.length_nil]; omega
end Go.Proofs.YtdhlheilgagcpaaGreatDoor
