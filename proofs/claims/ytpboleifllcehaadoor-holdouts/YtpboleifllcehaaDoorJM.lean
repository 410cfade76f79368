/- Locks and counters: plain mathematics. No conditions. -/
import Derived.Test.YtpboleifllcehaaDoorUM
namespace Go.Proofs.YtpboleifllcehaaDoor
open Go.RowKit Go.PlainAid Ln Go.Sort
set_option linter.unusedVariables false
set_option linter.unusedSimpArgs false

/-- numbers modulo 2^64, without and with a sign -/
def u64w (n : Int) : Int := n % 18446744073709551616
def i64w (n : Int) : Int := wrap64 n
theorem i64w_u (n : Int) : i64w (u64w n) = i64w n := by unfold i64w u64w wrap64; omega
theorem i64w_add (a b : Int) : i64w (i64w a + b) = i64w (a + b) := by unfold i64w wrap64; omega
theorem i64w_in (n : Int) : -9223372036854775808 ≤ i64w n ∧ i64w n ≤ 9223372036854775807 := by unfold i64w wrap64; omega
/-- who holds it behind one deed more; the number -/
def nxW (s : Val) (d : Dd) : Val := if d.o = 11 ∧ s = noV then d.c else if d.o = 12 ∧ s = d.c then noV else s
def nxN (n : Int) (d : Dd) : Int := if d.o = 4 then i64w (n + (nv d.a 0).2.1) else n
def keptW (past : List Dd) : Val := past.foldl nxW noV
def keptN (past : List Dd) : Int := past.foldl nxN 0
theorem keptW_nil : keptW [] = noV := rfl
theorem keptN_nil : keptN [] = 0 := rfl
theorem keptW_snoc (past : List Dd) (d : Dd) : keptW (past ++ [d]) = nxW (keptW past) d := by unfold keptW; rw [List.foldl_append]; rfl
theorem keptN_snoc (past : List Dd) (d : Dd) : keptN (past ++ [d]) = nxN (keptN past) d := by unfold keptN; rw [List.foldl_append]; rfl
/-- the document's sum, without a sign -/
def sumS (n : Int) (d : Dd) : Int := if d.o = 4 then u64w (n + u64w (nv d.a 0).2.1) else n
def sumU (past : List Dd) : Int := past.foldl sumS 0
theorem sumU_snoc (past : List Dd) (d : Dd) : sumU (past ++ [d]) = sumS (sumU past) d := by unfold sumU; rw [List.foldl_append]; rfl
theorem snoc_ind {α : Type} {p : List α → Prop} (h0 : p []) (h1 : ∀ l a, p l → p (l ++ [a])) : ∀ l, p l := by
  have key : ∀ n, ∀ l : List α, l.length = n → p l := by
    intro n
    induction n with
    | zero => intro l h; rw [List.length_eq_zero_iff] at h; subst h; exact h0
    | succ n ih =>
      intro l h
      have hne : l ≠ [] := fun e => by rw [e] at h; simp at h
      rw [← List.dropLast_concat_getLast hne]
      exact h1 _ _ (ih _ (by rw [List.length_dropLast, h]; rfl))
  exact fun l => key _ l rfl
theorem sumU_in (past : List Dd) : 0 ≤ sumU past ∧ sumU past ≤ 18446744073709551615 := by
  refine snoc_ind (p := fun past => 0 ≤ sumU past ∧ sumU past ≤ 18446744073709551615) ⟨by decide, by decide⟩ (fun l d ih => ?_) past
  rw [sumU_snoc]
  unfold sumS
  split
  · unfold u64w; omega
  · exact ih
theorem sum_kept (past : List Dd) : i64w (sumU past) = keptN past := by
  refine snoc_ind (p := fun past => i64w (sumU past) = keptN past) (by show i64w 0 = 0; unfold i64w wrap64; omega) (fun l d ih => ?_) past
  rw [sumU_snoc, keptN_snoc, ← ih]
  unfold sumS nxN
  split
  · rw [i64w_u, i64w_add]
    unfold i64w u64w wrap64; omega
  · rfl
/-- what comes out -/
def outH (w : Val) (n : Int) (d : Dd) : List Val :=
  if d.o = 2 then [(1, n, noB)] else if d.o = 11 then [yesV (decide (w = noV))] else if d.o = 12 then [yesV (decide (w = d.c))] else []

/-- both: who and the number -/
abbrev VN := Val × Int
def noH : VN := (noV, 0)
def nxH (m : Int) (x : VN) (d : Dd) : VN := if m = 7 then (nxW x.1 d, x.2) else (x.1, nxN x.2 d)
def keptH (m : Int) (past : List Dd) : VN := past.foldl (nxH m) noH
theorem keptH_nil (m : Int) : keptH m [] = noH := rfl
theorem keptH_snoc (m : Int) (past : List Dd) (d : Dd) : keptH m (past ++ [d]) = nxH m (keptH m past) d := by unfold keptH; rw [List.foldl_append]; rfl
theorem nxH_7 (x : VN) (d : Dd) : nxH 7 x d = (nxW x.1 d, x.2) := if_pos rfl
theorem nxH_8 {m : Int} (h : m ≠ 7) (x : VN) (d : Dd) : nxH m x d = (x.1, nxN x.2 d) := if_neg h
theorem keptH_7 (past : List Dd) : keptH 7 past = (keptW past, 0) := by
  refine snoc_ind (p := fun past => keptH 7 past = (keptW past, 0)) rfl (fun l d ih => ?_) past
  rw [keptH_snoc, nxH_7, ih, keptW_snoc]
theorem keptH_8 {m : Int} (h : m ≠ 7) (past : List Dd) : keptH m past = (noV, keptN past) := by
  refine snoc_ind (p := fun past => keptH m past = (noV, keptN past)) rfl (fun l d ih => ?_) past
  rw [keptH_snoc, nxH_8 h, ih, keptN_snoc]
def outHx (x : VN) (d : Dd) : List Val := outH x.1 x.2 d

/-! ### what is added, in whatever order -/
def addN (xs : List Int) : Int := xs.foldl (fun n x => i64w (n + x)) 0
theorem addN_snoc (xs : List Int) (x : Int) : addN (xs ++ [x]) = i64w (addN xs + x) := by unfold addN; rw [List.foldl_append]; rfl
theorem addN_sum (xs : List Int) : addN xs = i64w xs.sum := by
  refine snoc_ind (p := fun xs => addN xs = i64w xs.sum) (by show (0 : Int) = i64w 0; unfold i64w wrap64; omega) (fun l x ih => ?_) xs
  rw [addN_snoc, ih, i64w_add, List.sum_append]
  simp
theorem perm_sum {xs ys : List Int} (h : xs.Perm ys) : xs.sum = ys.sum := by
  induction h with
  | nil => rfl
  | cons x _ ih => rw [List.sum_cons, List.sum_cons, ih]
  | swap x y l => simp only [List.sum_cons]; omega
  | trans _ _ a b => exact a.trans b
theorem addN_perm {xs ys : List Int} (h : xs.Perm ys) : addN xs = addN ys := by rw [addN_sum, addN_sum, perm_sum h]
end Go.Proofs.YtpboleifllcehaaDoor
