/- Steps of registers: plain mathematics. No conditions. -/
import Derived.Test.YtpboleifllcehaaDoorVJ
import Derived.Test.YtpboleifllcehaaDoorBA
namespace Go.Proofs.YtpboleifllcehaaDoor
open Go.RowKit Go.PlainAid Ln
set_option linter.unusedVariables false
set_option linter.unusedSimpArgs false

/-- a deed: who, what is done, what is handed in -/
structure Dd where
  c : Val
  o : Int
  a : List Val
/-- nothing -/
def noV : Val := (0, 0, noB)
/-- what is kept behind one deed more -/
def nxV (m : Int) (v : Val) (d : Dd) : Val :=
  if d.o = 1 ∧ m = 9 then (if v = noV ∨ ltV v (nv d.a 0) = true then nv d.a 0 else v)
  else if d.o = 1 then nv d.a 0
  else if d.o = 3 ∧ v = nv d.a 0 then nv d.a 1 else v
/-- what is kept behind all that was done -/
def keptE (m : Int) (past : List Dd) : Val := past.foldl (nxV m) noV
theorem keptE_nil (m : Int) : keptE m [] = noV := rfl
theorem keptE_snoc (m : Int) (past : List Dd) (d : Dd) : keptE m (past ++ [d]) = nxV m (keptE m past) d := by unfold keptE; rw [List.foldl_append]; rfl
theorem nxV_9 {m : Int} {v : Val} {d : Dd} (h : d.o = 1) (hm : m = 9) : nxV m v d = if v = noV ∨ ltV v (nv d.a 0) = true then nv d.a 0 else v := if_pos ⟨h, hm⟩
theorem nxV_1 {m : Int} {v : Val} {d : Dd} (h : d.o = 1) (hm : m ≠ 9) : nxV m v d = nv d.a 0 := by unfold nxV; rw [if_neg (fun k => hm k.2), if_pos h]
theorem nxV_3 {m : Int} {v : Val} {d : Dd} (h : d.o = 3) : nxV m v d = if v = nv d.a 0 then nv d.a 1 else v := by
  unfold nxV
  rw [if_neg (fun k => by have := k.1; omega), if_neg (by omega)]
  by_cases hv : v = nv d.a 0
  · rw [if_pos ⟨h, hv⟩, if_pos hv]
  · rw [if_neg (fun k => hv k.2), if_neg hv]
theorem nxV_o {m : Int} {v : Val} {d : Dd} (h1 : d.o ≠ 1) (h3 : d.o ≠ 3) : nxV m v d = v := by
  unfold nxV
  rw [if_neg (fun k => h1 k.1), if_neg h1, if_neg (fun k => h3 k.1)]
/-- yes or no -/
def yesV (b : Bool) : Val := (3, if b then 1 else 0, noB)
/-- what comes out of a deed -/
def outD (v : Val) (d : Dd) : List Val := if d.o = 2 then [v] else if d.o = 3 then [yesV (decide (v = nv d.a 0))] else []
theorem outD_2 {v : Val} {d : Dd} (h : d.o = 2) : outD v d = [v] := if_pos h
theorem outD_3 {v : Val} {d : Dd} (h : d.o = 3) : outD v d = [yesV (decide (v = nv d.a 0))] := by unfold outD; rw [if_neg (by omega), if_pos h]
theorem outD_o {v : Val} {d : Dd} (h2 : d.o ≠ 2) (h3 : d.o ≠ 3) : outD v d = [] := by unfold outD; rw [if_neg h2, if_neg h3]

/-! ### the greatest -/
theorem ltV_irr (x : Val) : ltV x x = false := by
  rw [ltV_cv]
  have : cv x x = 0 := (good_cv.2.2.1 x x).2 rfl
  rw [this]; rfl
/-- what a register that keeps the greatest keeps of one value more -/
def mxV (v x : Val) : Val := if v = noV ∨ ltV v x = true then x else v
theorem mxV_ge (v x : Val) : ltV (mxV v x) x = false := by
  unfold mxV
  by_cases h : v = noV ∨ ltV v x = true
  · rw [if_pos h]; exact ltV_irr x
  · rw [if_neg h]
    cases hh : ltV v x
    · rfl
    · exact absurd (.inr hh) h
/-- what is kept never falls -/
theorem mxV_up (v x : Val) (hn : ltV x noV = false ∨ v ≠ noV) : ltV (mxV v x) v = false := by
  unfold mxV
  by_cases h : v = noV ∨ ltV v x = true
  · rw [if_pos h]
    rcases h with rfl | h
    · rcases hn with h | h
      · exact h
      · exact absurd rfl h
    · rw [ltV_cv, decide_eq_true_eq] at h
      rw [ltV_cv, good_cv.2.1 v x]
      exact decide_eq_false (by omega)
  · rw [if_neg h]; exact ltV_irr v
theorem mxV_is (v x : Val) : mxV v x = x ∨ mxV v x = v := by
  unfold mxV
  split
  · exact .inl rfl
  · exact .inr rfl
theorem ltV_none {x : Val} (h : nV x = true) : ltV x noV = false := by
  have hk : x.1 = 1 ∨ x.1 = 2 := by
    unfold nV nameB at h
    simp only [Bool.and_eq_true, Bool.or_eq_true, beq_iff_eq] at h
    exact h.2
  unfold ltV noV
  rw [if_neg (by show ¬ x.1 = 0; omega)]
  exact decide_eq_false (by show ¬ x.1 < 0; omega)
/-- a write of a register that keeps the greatest -/
theorem nxV_max (v c x : Val) : nxV 9 v ⟨c, 1, [x]⟩ = mxV v x := by rw [nxV_9 rfl rfl]; rfl
theorem nxV_read (m : Int) (v c : Val) (l : List Val) : nxV m v ⟨c, 2, l⟩ = v := nxV_o (by show (2 : Int) ≠ 1; omega) (by show (2 : Int) ≠ 3; omega)
/-- the greatest of all that was written -/
def mxL (xs : List Val) : Val := xs.foldl mxV noV
theorem mxL_snoc (xs : List Val) (x : Val) : mxL (xs ++ [x]) = mxV (mxL xs) x := by unfold mxL; rw [List.foldl_append]; rfl
theorem mxL_mem (xs : List Val) : mxL xs = noV ∨ mxL xs ∈ xs := by
  have key : ∀ n, ∀ ys : List Val, ys.length = n → mxL ys = noV ∨ mxL ys ∈ ys := by
    intro n
    induction n with
    | zero => intro ys h; rw [List.length_eq_zero_iff] at h; subst h; exact .inl rfl
    | succ n ih =>
      intro ys h
      have hne : ys ≠ [] := fun e => by rw [e] at h; simp at h
      have e := List.dropLast_concat_getLast hne
      rw [← e, mxL_snoc]
      have hl : ys.dropLast.length = n := by rw [List.length_dropLast, h]; rfl
      rcases mxV_is (mxL ys.dropLast) (ys.getLast hne) with k | k
      · rw [k]; exact .inr (List.mem_append_right _ (List.mem_singleton.2 rfl))
      · rw [k]; exact (ih _ hl).imp id (List.mem_append_left _)
  exact key _ xs rfl
theorem mxL_in (xs : List Val) (x : Val) : mxL (xs ++ [x]) ∈ xs ++ [x] := by
  rw [mxL_snoc]
  by_cases h : mxL xs = noV
  · have : mxV (mxL xs) x = x := by unfold mxV; rw [if_pos (.inl h)]
    rw [this]; exact List.mem_append_right _ (List.mem_singleton.2 rfl)
  · rcases mxV_is (mxL xs) x with e | e
    · rw [e]; exact List.mem_append_right _ (List.mem_singleton.2 rfl)
    · rw [e]; exact List.mem_append_left _ ((mxL_mem xs).resolve_left h)
theorem mxL_up (xs : List Val) {x : Val} (h : nV x = true) : ltV (mxL (xs ++ [x])) (mxL xs) = false := by rw [mxL_snoc]; exact mxV_up _ _ (.inl (ltV_none h))
theorem mxL_ge (xs : List Val) (x : Val) : ltV (mxL (xs ++ [x])) x = false := by rw [mxL_snoc]; exact mxV_ge _ _
end Go.Proofs.YtpboleifllcehaaDoor
