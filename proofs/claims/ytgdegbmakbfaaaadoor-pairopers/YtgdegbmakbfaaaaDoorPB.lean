/- What a history begins with: its faults and its operations: plain mathematics. No conditions. -/
import Derived.Test.YtgdegbmakbfaaaaDoorPT
namespace Go.Proofs.YtgdegbmakbfaaaaDoor
open Go.RowKit Go.PlainAid Ln
set_option linter.unusedVariables false
set_option linter.unusedSimpArgs false

theorem ev_take {xs : List Ev} {n i : Nat} (h : i < n) : ev (xs.take n) i = ev xs i := by
  unfold ev
  rw [List.getD_eq_getElem?_getD, List.getD_eq_getElem?_getD, List.getElem?_take, if_pos h]
theorem last_take {xs : List Ev} {v : Val} {n : Nat} : ∀ m, m ≤ n → lastB (xs.take n) v m = lastB xs v m
  | 0, _ => rfl
  | m + 1, h => by
    have ih := last_take (xs := xs) (v := v) (n := n) m (by omega)
    have e := ev_take (xs := xs) (n := n) (i := m) (by omega)
    cases hc : eqv (ev xs m).c v
    · rw [lastB_miss hc, lastB_miss (by rw [e]; exact hc), ih]
    · rw [lastB_hit hc, lastB_hit (by rw [e]; exact hc)]
theorem ev_last_take {xs : List Ev} {v : Val} {n m : Nat} (h : m < n) : ev (xs.take n) (lastB xs v m).toNat = ev xs (lastB xs v m).toNat := by
  rcases lastB_lo xs v m with e | ⟨i, e, hi, _⟩
  · rw [e]; exact ev_take (by omega)
  · rw [e, Int.toNat_natCast]; exact ev_take (by omega)
theorem form_take {xs : List Ev} {n i : Nat} (h : i < n) : formE (xs.take n) i = formE xs i := by
  unfold formE busyB lostB
  rw [ev_take h, last_take i (by omega), ev_last_take h]
theorem wrong_take {xs : List Ev} {n i : Nat} (h : i < n) : wrongE (xs.take n) i = wrongE xs i := by
  unfold wrongE
  rw [ev_take h, form_take h, ev_take (show i - 1 < n by omega)]
theorem ok_take {xs : List Ev} (ho : okE xs xs.length) (n : Nat) : okE (xs.take n) (xs.take n).length := fun i hi => by
  rw [List.length_take] at hi
  rw [wrong_take (by omega)]
  exact ho i (by omega)
/-- where the next one stands, of what it begins with -/
theorem nxt_take {xs : List Ev} {n i : Nat} (hi : i < n) (hn : n ≤ xs.length) : (nxt (xs.take n) i = nxt xs i ∧ nxt xs i < (n : Int)) ∨ (nxt (xs.take n) i = -1 ∧ (n : Int) ≤ nxt xs i) := by
  have hl : (xs.take n).length = n := by rw [List.length_take]; omega
  have e1 := ev_take (xs := xs) hi
  rcases nxt_lo xs i (by omega) with ⟨h, hf⟩ | ⟨k, h1, h2, h3, h4, h5, h6⟩
  · refine .inl ⟨?_, by omega⟩
    rw [h]
    unfold nxt
    rw [e1, hl]
    exact next_none fun j hj1 hj2 => by rw [ev_take (by omega)]; exact hf j (by omega) (by omega)
  · by_cases hk : k < n
    · refine .inl ⟨?_, by omega⟩
      rw [h1]
      unfold nxt
      rw [e1, hl]
      exact next_is (by omega) (by omega) (by rw [ev_take hk]; exact h4) fun j hj1 hj2 => by rw [ev_take (by omega)]; exact h5 j (by omega) hj2
    · refine .inr ⟨?_, by omega⟩
      unfold nxt
      rw [e1, hl]
      exact next_none fun j hj1 hj2 => by rw [ev_take (by omega)]; exact h5 j (by omega) (by omega)
theorem nty_take {xs : List Ev} {n i : Nat} (hi : i < n) (hn : n ≤ xs.length) : (nty (xs.take n) i = nty xs i ∧ nxt (xs.take n) i = nxt xs i ∧ nxt xs i < (n : Int)) ∨ (nty (xs.take n) i = 0 ∧ (n : Int) ≤ nxt xs i) := by
  rcases nxt_take hi hn with ⟨h1, h2⟩ | ⟨h1, h2⟩
  · refine .inl ⟨?_, h1, h2⟩
    unfold nty
    rw [h1]
    by_cases h0 : 0 ≤ nxt xs i
    · rw [if_pos h0, if_pos h0, ev_take (by omega)]
    · rw [if_neg h0, if_neg h0]
  · refine .inr ⟨?_, h2⟩
    unfold nty
    rw [h1]; rfl
/-- an operation, pending where it came back at n or behind -/
def cutO (n : Nat) (o : Opn) : Opn := if (n : Int) ≤ o.ret then { o with ret := -1, r := [] } else o
theorem op_take {xs : List Ev} {n i : Nat} (hi : i < n) (hn : n ≤ xs.length) : opOf (xs.take n) i = cutO n (opOf xs i) := by
  have e1 := ev_take (xs := xs) hi
  rcases nty_take hi hn with ⟨h1, h2, h3⟩ | ⟨h1, h2⟩
  · by_cases h : nty xs i = 2
    · have hl : 0 ≤ nxt xs i := by
        unfold nty at h
        by_cases h0 : 0 ≤ nxt xs i
        · exact h0
        · rw [if_neg h0] at h; exact absurd h (by decide)
      rw [opOf_2 h, opOf_2 (h1.trans h), e1, h2, ev_take (show (nxt xs i).toNat < n by omega)]
      unfold cutO
      rw [if_neg (show ¬ (n : Int) ≤ nxt xs i by omega)]
    · rw [opOf_n h, opOf_n (by rw [h1]; exact h), e1]
      unfold cutO
      rw [if_neg (show ¬ (n : Int) ≤ -1 by omega)]
  · rw [opOf_n (xs := xs.take n) (by rw [h1]; decide), e1]
    by_cases h : nty xs i = 2
    · rw [opOf_2 h]
      unfold cutO
      rw [if_pos h2]
    · rw [opOf_n h]
      unfold cutO
      rw [if_neg (show ¬ (n : Int) ≤ -1 by omega)]
theorem isOp_take {xs : List Ev} {n i : Nat} (hi : i < n) (hn : n ≤ xs.length) (h : isOp xs i = true) : isOp (xs.take n) i = true := by
  unfold isOp at h ⊢
  rw [ev_take hi]
  rcases nty_take hi hn with ⟨h1, _⟩ | ⟨h1, _⟩
  · rw [h1]; exact h
  · rw [h1]
    rw [Bool.and_eq_true] at h
    rw [h.1]; rfl
theorem pend_take {xs : List Ev} {n i : Nat} (hi : i < n) (hn : n ≤ xs.length) (h : isOp (xs.take n) i = true) (h2 : isOp xs i = false) : (opOf (xs.take n) i).ret = -1 := by
  rcases nty_take hi hn with ⟨h1, _⟩ | ⟨h1, _⟩
  · unfold isOp at h h2
    rw [ev_take hi, h1] at h
    rw [h] at h2; cases h2
  · rw [opOf_n (by rw [h1]; decide)]
/-- how many operations were called ahead of a place; the one that stands there -/
theorem opsTo_at (xs : List Ev) : ∀ n i, i < n → isOp xs i = true → (opsTo xs n)[(opsTo xs i).length]? = some (opOf xs i)
  | 0, i, h, _ => absurd h (Nat.not_lt_zero i)
  | n + 1, i, h, ho => by
    by_cases e : i = n
    · subst e
      rw [opsTo_yes ho, List.getElem?_append_right (Nat.le_refl _), Nat.sub_self]; rfl
    · have ih := opsTo_at xs n i (by omega) ho
      cases hn : isOp xs n
      · rw [opsTo_no hn]; exact ih
      · rw [opsTo_yes hn, List.getElem?_append_left (List.getElem?_eq_some_iff.1 ih).1]; exact ih
/-- each operation stands at its call -/
theorem opsTo_all (xs : List Ev) : ∀ n j, j < (opsTo xs n).length → ∃ i, i < n ∧ isOp xs i = true ∧ (opsTo xs n)[j]? = some (opOf xs i) ∧ (opsTo xs i).length = j
  | 0, j, h => absurd h (Nat.not_lt_zero j)
  | n + 1, j, h => by
    cases hn : isOp xs n
    · rw [opsTo_no hn] at h ⊢
      obtain ⟨i, h1, h2, h3, h4⟩ := opsTo_all xs n j h
      exact ⟨i, by omega, h2, h3, h4⟩
    · rw [opsTo_yes hn] at h ⊢
      rw [List.length_append] at h
      simp only [List.length_cons, List.length_nil] at h
      by_cases hj : j < (opsTo xs n).length
      · obtain ⟨i, h1, h2, h3, h4⟩ := opsTo_all xs n j hj
        exact ⟨i, by omega, h2, by rw [List.getElem?_append_left hj]; exact h3, h4⟩
      · have e : j = (opsTo xs n).length := by omega
        subst e
        exact ⟨n, by omega, hn, by rw [List.getElem?_append_right (Nat.le_refl _), Nat.sub_self]; rfl, rfl⟩
theorem opsTo_mono (xs : List Ev) {a b : Nat} (h : a ≤ b) : (opsTo xs a).length ≤ (opsTo xs b).length := by
  obtain ⟨d, rfl⟩ : ∃ d, b = a + d := ⟨b - a, by omega⟩
  clear h
  induction d with
  | zero => exact Nat.le_refl _
  | succ d ih =>
    refine Nat.le_trans ih ?_
    show (opsTo xs (a + d)).length ≤ (opsTo xs (a + d + 1)).length
    cases hn : isOp xs (a + d)
    · rw [opsTo_no hn]; exact Nat.le_refl _
    · rw [opsTo_yes hn, List.length_append]; omega
end Go.Proofs.YtgdegbmakbfaaaaDoor
