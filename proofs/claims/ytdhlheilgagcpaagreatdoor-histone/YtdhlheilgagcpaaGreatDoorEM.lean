/- Plain mathematics: a right event and its line, as lists; a right event is told again from its line's words; what is told of words without a fault is right and has these words. No conditions. -/
import Derived.Test.YtdhlheilgagcpaaGreatDoorEL
import Derived.Test.YtdhlheilgagcpaaGreatDoorVQ
import Derived.Test.YtdhlheilgagcpaaGreatDoorLN
namespace Go.Proofs.YtdhlheilgagcpaaGreatDoor
open Go.RowKit Go.PlainAid Ln
set_option linter.unusedVariables false
set_option linter.unusedSimpArgs false

/-- a value's text, as a list; is it right, is it a name; its number is one of 64 bits -/
def pv (v : Val) : List UInt8 := tx (prt v.1 v.2.1 v.2.2)
def rV (v : Val) : Bool := rightB v.1 v.2.1 v.2.2
def nV (v : Val) : Bool := nameB v.1 v.2.1 v.2.2
def bdV (v : Val) : Prop := -9223372036854775808 ≤ v.2.1 ∧ v.2.1 ≤ 9223372036854775807
/-- a right note -/
def noteB (nd : Bool) (n : ByteArray) : Bool := if nd = true then decide (n.size ≤ 100 ∧ (10 : UInt8) ∉ tx n) else decide (n.size = 0)
/-- nothing of what an Invoke alone has -/
def nonB (x : Ev) : Bool := decide (x.m = 0 ∧ x.o = 0 ∧ x.k.1 = 0 ∧ x.k.2.1 = 0 ∧ x.k.2.2.size = 0 ∧ x.a.length = 0)
/-- right for its type -/
def typB (x : Ev) : Bool :=
  if x.y = 1 then nV x.k && (fi x.m x.o && fitsL (fr x.m x.o).inn x.a) && decide (x.r.length = 0)
  else if x.y = 2 then nonB x && x.r.all rV
  else if x.y = 3 ∨ x.y = 4 then nonB x && decide (x.r.length = 0)
  else false
/-- a right event -/
def rightE (x : Ev) : Bool := decide (0 ≤ x.t) && nV x.c && noteB x.nd x.n && typB x
/-- its words, its line -/
def wds (x : Ev) : List (List UInt8) := tx (txt x.t) :: pv x.c :: tx (tn x.y) :: ((if x.y = 1 then [tx (mn x.m), pv x.k, tx (on x.o)] else []) ++ (x.a.map pv ++ x.r.map pv))
def lineE (x : Ev) : List UInt8 := Lib.join (wds x) [32] ++ (if x.nd = true then 32 :: 59 :: tx x.n else [])
/-- its numbers are of 64 bits -/
def bdE (x : Ev) : Prop := x.t ≤ 9223372036854775807 ∧ bdV x.c ∧ bdV x.k ∧ (∀ i, i < x.a.length → bdV (nv x.a i)) ∧ (∀ i, i < x.r.length → bdV (nv x.r i))

/-! ### words of a line -/
def okW (l : List UInt8) : Prop := l ≠ [] ∧ ∀ b ∈ l, b ≠ 32 ∧ b ≠ 59
def okWb (l : List UInt8) : Bool := !l.isEmpty && l.all fun b => (b != 32 && b != 59)
theorem okW_of {l : List UInt8} (h : okWb l = true) : okW l := by
  unfold okWb at h
  simp only [Bool.and_eq_true, Bool.not_eq_true', List.all_eq_true, bne_iff_ne, ne_eq] at h
  refine ⟨fun e => ?_, h.2⟩
  rw [e] at h; simp at h
theorem okW_dec (u : Nat) : okW (Lib.decDigits u) := by
  obtain ⟨h1, _, h3, _⟩ := dec_all u
  refine ⟨fun e => by rw [e] at h3; simp at h3, fun b hb => ?_⟩
  have := h1 b hb
  refine ⟨fun e => ?_, fun e => ?_⟩ <;> (subst e; revert this; decide)
theorem okW_txt (n : Int) : okW (tx (txt n)) := by
  show okW (Lib.itoa n)
  by_cases h : n < 0
  · rw [itoa_neg h]
    obtain ⟨h1, h2⟩ := okW_dec n.natAbs
    refine ⟨by simp, fun b hb => ?_⟩
    rcases List.mem_cons.1 hb with rfl | hb
    · exact ⟨by decide, by decide⟩
    · exact h2 b hb
  · rw [itoa_pos h]; exact okW_dec _
theorem okW_word {s : ByteArray} (h : wordP s) : okW (tx s) := by
  obtain ⟨h0, _, _, h3⟩ := h
  refine ⟨fun e => by have := tx_len s; rw [e] at this; simp at this; omega, fun b hb => ?_⟩
  obtain ⟨i, hi, rfl⟩ := List.getElem_of_mem hb
  have hi' : i < s.size := by rw [← tx_len]; exact hi
  have := h3 i hi'
  rw [bt_tx s i _ (List.getElem?_eq_getElem hi)] at this
  refine ⟨fun e => ?_, fun e => ?_⟩ <;> (rw [e] at this; revert this; decide)
theorem okW_val {v : Val} (h : rV v = true) : okW (pv v) := by
  obtain ⟨k, n, s⟩ := v
  have hp : rightP k n s := of_decide_eq_true h
  show okW (tx (prt k n s))
  rcases hp with ⟨h1, _⟩ | ⟨h1, _⟩ | ⟨h1, h2, h3⟩ | ⟨h1, h2, h3⟩
  · subst h1; rw [prt_none (of_decide_eq_true h)]; exact okW_of (by decide)
  · subst h1; rw [prt_num (of_decide_eq_true h)]; exact okW_txt n
  · subst h1; rw [prt_word (of_decide_eq_true h)]; exact okW_word h3
  · subst h1
    by_cases e : n = 1
    · subst e; rw [prt_yes (of_decide_eq_true h)]; exact okW_of (by decide)
    · rw [prt_no (of_decide_eq_true h) e]; exact okW_of (by decide)
theorem sign_rows : ∀ k, k < 24 → (wI mn 11 (mn (rwA k).m) : Int) = (rwA k).m ∧ 0 < (rwA k).m ∧ (wI on 14 (on (rwA k).o) : Int) = (rwA k).o ∧ 0 < (rwA k).o ∧ okWb (tx (mn (rwA k).m)) = true ∧ okWb (tx (on (rwA k).o)) = true ∧ (rwA k).m < 11 ∧ (rwA k).o < 14 := by decide +kernel
theorem type_rows : ∀ k : Nat, k < 5 → wI tn 5 (tn (k : Int)) = k ∧ (0 < k → okWb (tx (tn (k : Int))) = true) := by decide +kernel

/-! ### values in words -/
theorem kp_z {f e : Int} (h : kp f e = 0) : f = 0 ∧ e = 0 := by
  unfold kp at h
  by_cases hf : f = 0
  · rw [if_pos hf] at h; exact ⟨hf, h⟩
  · rw [if_neg hf] at h; exact absurd h hf
theorem mf_z {b : Bool} (h : mf b = 0) : b = true := by
  cases b
  · exact absurd h (by decide)
  · rfl
theorem takes_rV {d : Int} {v : Val} (h : takesB d v.1 v.2.1 v.2.2 = true) : rV v = true := by
  unfold takesB at h
  rw [Bool.and_eq_true] at h
  exact h.1
theorem name_rV {v : Val} (h : nV v = true) : rV v = true := by
  unfold nV nameB at h
  rw [Bool.and_eq_true] at h
  exact h.1
theorem hdW_cons (a : List UInt8) (r : List (List UInt8)) : hdW (a :: r) = bs a := rfl
theorem par_pv {v : Val} (h : rV v = true) (hb : bdV v) (r : List (List UInt8)) : parR (hdW (pv v :: r)) = (v.1, v.2.1, v.2.2, 0) := by
  show parR (bs (tx (prt v.1 v.2.1 v.2.2))) = _
  rw [bs_tx]; exact par_prt (of_decide_eq_true h) hb
theorem vOf_pv {v : Val} (h : rV v = true) (hb : bdV v) (r : List (List UInt8)) : vOf (pv v :: r) = v := by unfold vOf; rw [par_pv h hb]
theorem tk_pv {v : Val} (d : Int) (h : rV v = true) (hb : bdV v) (r : List (List UInt8)) : tkF d 0 (pv v :: r) = mf (takesB d v.1 v.2.1 v.2.2) := by
  rw [tkF_0, par_pv h hb, vOf_pv h hb, kp_0]
theorem drop_pv (xs : List Val) (i : Nat) (h : i < xs.length) : (xs.map pv).drop i = pv (nv xs i) :: (xs.map pv).drop (i + 1) := by
  rw [List.drop_eq_getElem_cons (by simpa using h), List.getElem_map, nv_eq xs i h]
theorem aF_map {ds : List Int} {xs : List Val} (ht : ∀ i, i < xs.length → takesB (nth ds i) (nv xs i).1 (nv xs i).2.1 (nv xs i).2.2 = true) (hb : ∀ i, i < xs.length → bdV (nv xs i)) : ∀ k, k ≤ xs.length → aF ds 0 (xs.map pv) k = 0
  | 0, _ => rfl
  | k + 1, hk => by
    rw [aF, aF_map ht hb k (by omega), drop_pv xs k (by omega), tk_pv _ (takes_rV (ht k (by omega))) (hb k (by omega)), ht k (by omega)]; rfl
theorem rF_map {xs : List Val} (hr : ∀ i, i < xs.length → rV (nv xs i) = true) (hb : ∀ i, i < xs.length → bdV (nv xs i)) : ∀ k, k ≤ xs.length → rF 0 (xs.map pv) k = 0
  | 0, _ => rfl
  | k + 1, hk => by rw [rF, rF_map hr hb k (by omega), drop_pv xs k (by omega), par_pv (hr k (by omega)) (hb k (by omega)), kp_0]
theorem aV_map {xs : List Val} (hr : ∀ i, i < xs.length → rV (nv xs i) = true) (hb : ∀ i, i < xs.length → bdV (nv xs i)) : aV (xs.map pv) xs.length = xs := by
  unfold aV
  refine List.ext_getElem (by simp) fun i h1 h2 => ?_
  rw [List.getElem_map, List.getElem_range, drop_pv xs i h2, vOf_pv (hr i h2) (hb i h2), nv_eq xs i h2]
theorem all_rV {xs : List Val} (h : xs.all rV = true) (i : Nat) (hi : i < xs.length) : rV (nv xs i) = true := by
  rw [nv_eq xs i hi]; exact List.all_eq_true.1 h _ (List.getElem_mem hi)

/-! ### a number's text -/
theorem cnt_txt {t : Int} (h0 : 0 ≤ t) (h1 : t ≤ 9223372036854775807) : cntR (txt t) 9223372036854775807 = (t, 0) := by
  have hk : okD (txt t) := (ok_list _).2 (by rw [txt_list, itoa_pos (by omega)]; exact dec_ok _)
  rw [← sgnR_plain (plain_ok hk)]; exact read_txt t (by omega) h1
theorem txt_cnt {s : ByteArray} {n : Int} (h : cntR s 9223372036854775807 = (n, 0)) : 0 ≤ n ∧ n ≤ 9223372036854775807 ∧ txt n = s := by
  by_cases hk : okD s
  · have ht := txt_read ((sgnR_plain (plain_ok hk)).trans h)
    by_cases hv : (valN s s.size : Int) ≤ 9223372036854775807
    · rw [cntR_good hk hv] at h
      have e := congrArg Prod.fst h
      simp only at e
      exact ⟨by omega, by omega, ht⟩
    · rw [cntR_great hk hv] at h
      have e := congrArg Prod.snd h
      exact absurd (show (3 : Int) = 0 from e) (by decide)
  · rw [cntR_bad _ hk] at h
    have e := congrArg Prod.snd h
    exact absurd (show (2 : Int) = 0 from e) (by decide)

/-! ### a right event is told again -/
theorem front {t : Int} {c : Val} {y : Nat} (h0 : 0 ≤ t) (h1 : t ≤ 9223372036854775807) (hc : nV c = true) (hb : bdV c) (hy : y < 5) (hp : 0 < y) (M : List (List UInt8)) :
    eT (tx (txt t) :: pv c :: tx (tn (y : Int)) :: M) = (t, 0) ∧ vOf (List.tail (tx (txt t) :: pv c :: tx (tn (y : Int)) :: M)) = c ∧ eY (tx (txt t) :: pv c :: tx (tn (y : Int)) :: M) = y ∧ e3 0 (tx (txt t) :: pv c :: tx (tn (y : Int)) :: M) = 0 := by
  have a1 : eT (tx (txt t) :: pv c :: tx (tn (y : Int)) :: M) = (t, 0) := by
    show cntR (bs (tx (txt t))) _ = _
    rw [bs_tx]; exact cnt_txt h0 h1
  have a3 : eY (tx (txt t) :: pv c :: tx (tn (y : Int)) :: M) = y := by
    show wI tn 5 (bs (tx (tn (y : Int)))) = y
    rw [bs_tx]; exact (type_rows y hy).1
  refine ⟨a1, vOf_pv (name_rV hc) hb _, a3, ?_⟩
  unfold e3
  rw [a1, a3, decide_eq_true hp]
  show kp (tkF 0 (kp 0 0) (pv c :: _)) 0 = 0
  rw [kp_0, tk_pv 0 (name_rV hc) hb, takesB_n (by decide)]
  show kp (mf (nV c)) 0 = 0
  rw [hc]; rfl
theorem fitsL_t {ds : List Int} {xs : List Val} (h : fitsL ds xs = true) : xs.length = ds.length ∧ ∀ i, i < xs.length → takesB (nth ds i) (nv xs i).1 (nv xs i).2.1 (nv xs i).2.2 = true := of_decide_eq_true h
theorem eE_wds {x : Ev} (h : rightE x = true) (hb : bdE x) : eF 0 (wds x) = 0 ∧ eEv (wds x) = { x with nd := false, n := noB } := by
  obtain ⟨t, c, y, m, k, o, a, r, nd, n⟩ := x
  simp only [rightE, Bool.and_eq_true, decide_eq_true_eq] at h
  obtain ⟨⟨⟨h1, h2⟩, h3⟩, h4⟩ := h
  obtain ⟨b1, b2, b3, b4, b5⟩ := hb
  dsimp only at b1 b2 b3 b4 b5
  unfold typB at h4
  dsimp only at h4
  unfold wds
  dsimp only
  by_cases y1 : y = 1
  · subst y1
    rw [if_pos rfl] at h4 ⊢
    simp only [Bool.and_eq_true, decide_eq_true_eq] at h4
    obtain ⟨⟨k1, k2, k3⟩, k4⟩ := h4
    obtain rfl : r = [] := List.eq_nil_of_length_eq_zero k4
    obtain ⟨f1, f2⟩ := fitsL_t k3
    have hra : ∀ i, i < a.length → rV (nv a i) = true := fun i hi => takes_rV (f2 i hi)
    rcases fr_cases m o with ⟨j, hj, e1, e2, e3', e4⟩ | ⟨_, _, h⟩
    case inr => rw [h] at k2; cases k2
    obtain ⟨s1, s2, s3, s4, _⟩ := sign_rows j hj
    rw [e1] at s1 s2
    rw [e2] at s3 s4
    obtain ⟨a1, a2, a3, a4⟩ := front (t := t) (c := c) (y := 1) h1 b1 h2 b2 (by decide) (by decide) ([tx (mn m), pv k, tx (on o)] ++ (a.map pv ++ [].map pv))
    generalize hL : tx (txt t) :: pv c :: tx (tn ((1 : Nat) : Int)) :: ([tx (mn m), pv k, tx (on o)] ++ (a.map pv ++ [].map pv)) = L at a1 a2 a3 a4
    have hl3 : l3 L = tx (mn m) :: pv k :: tx (on o) :: a.map pv := by rw [← hL]; show _ = _; simp [l3]
    have hl6 : l6 L = a.map pv := by unfold l6; rw [hl3]; rfl
    have hcM : (cM (l3 L) : Int) = m := by rw [hl3]; show (wI mn 11 (bs (tx (mn m))) : Int) = m; rw [bs_tx]; exact s1
    have hcO : (cO (l3 L) : Int) = o := by rw [hl3]; show (wI on 14 (bs (tx (on o))) : Int) = o; rw [bs_tx]; exact s3
    have hcD : cD (l3 L) = (fr m o).inn := by unfold cD; rw [hcM, hcO]
    have hk : vOf (l3 L).tail = k := by rw [hl3]; exact vOf_pv (name_rV k1) b3 _
    have hcF : cF 0 (l3 L) = 0 := by
      unfold cF
      rw [hcM, hcO, k2, decide_eq_true (by omega : 0 < cM (l3 L)), hl3]
      show kp (tkF 1 (kp 0 0) (pv k :: _)) 0 = 0
      rw [kp_0, tk_pv 1 (name_rV k1) b3, takesB_n (by decide)]
      show kp (mf (nV k)) 0 = 0
      rw [k1]; rfl
    have haF := aF_map f2 b4 a.length (Nat.le_refl _)
    unfold eF eEv
    rw [if_pos a3, if_pos a3, a4, hcF, hcD, hl6, ← f1, haF, a1, a2, hcM, hcO, hk, aV_map hra b4]
    refine ⟨?_, rfl⟩
    rw [List.drop_eq_nil_of_le (by simp)]
    rfl
  rw [if_neg y1] at h4 ⊢
  by_cases y2 : y = 2
  · subst y2
    rw [if_pos rfl] at h4
    simp only [Bool.and_eq_true, nonB, decide_eq_true_eq] at h4
    obtain ⟨⟨k1, k2, k3, k4, k5, k6⟩, k7⟩ := h4
    obtain rfl : a = [] := List.eq_nil_of_length_eq_zero k6
    obtain ⟨kk, kn, ks⟩ := k
    simp only at k3 k4 k5
    obtain rfl : ks = noB := empty_of_size k5
    subst k1 k2 k3 k4
    obtain ⟨a1, a2, a3, a4⟩ := front (t := t) (c := c) (y := 2) h1 b1 h2 b2 (by decide) (by decide) ([] ++ ([].map pv ++ r.map pv))
    generalize hL : tx (txt t) :: pv c :: tx (tn ((2 : Nat) : Int)) :: ([] ++ ([].map pv ++ r.map pv)) = L at a1 a2 a3 a4
    have hl3 : l3 L = r.map pv := by rw [← hL]; rfl
    have hne : ¬ eY L = 1 := by omega
    unfold eF eEv
    rw [if_neg hne, if_neg hne, if_pos a3, if_pos a3, a4, hl3, a1, a2]
    rw [show (r.map pv).length = r.length by simp, rF_map (all_rV k7) b5 r.length (Nat.le_refl _), aV_map (all_rV k7) b5]
    exact ⟨rfl, rfl⟩
  rw [if_neg y2] at h4
  by_cases y3 : y = 3 ∨ y = 4
  · rw [if_pos y3] at h4
    simp only [Bool.and_eq_true, nonB, decide_eq_true_eq] at h4
    obtain ⟨⟨k1, k2, k3, k4, k5, k6⟩, k7⟩ := h4
    obtain rfl : a = [] := List.eq_nil_of_length_eq_zero k6
    obtain rfl : r = [] := List.eq_nil_of_length_eq_zero k7
    obtain ⟨kk, kn, ks⟩ := k
    simp only at k3 k4 k5
    obtain rfl : ks = noB := empty_of_size k5
    subst k1 k2 k3 k4
    obtain ⟨u, rfl, hu, hu'⟩ : ∃ u : Nat, y = (u : Int) ∧ u < 5 ∧ 2 < u := by
      rcases y3 with rfl | rfl
      · exact ⟨3, rfl, by decide, by decide⟩
      · exact ⟨4, rfl, by decide, by decide⟩
    obtain ⟨a1, a2, a3, a4⟩ := front (t := t) (c := c) (y := u) h1 b1 h2 b2 hu (by omega) ([] ++ ([].map pv ++ [].map pv))
    generalize hL : tx (txt t) :: pv c :: tx (tn (u : Int)) :: ([] ++ ([].map pv ++ [].map pv)) = L at a1 a2 a3 a4
    have hl3 : l3 L = [] := by rw [← hL]; rfl
    have hne : ¬ eY L = 1 := by omega
    have hne2 : ¬ eY L = 2 := by omega
    unfold eF eEv
    rw [if_neg hne, if_neg hne, if_neg hne2, if_neg hne2, a4, hl3, a1, a2, a3]
    exact ⟨rfl, rfl⟩
  · rw [if_neg y3] at h4; cases h4
end Go.Proofs.YtdhlheilgagcpaaGreatDoor
