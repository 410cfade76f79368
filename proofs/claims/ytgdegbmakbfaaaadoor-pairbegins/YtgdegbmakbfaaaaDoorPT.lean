/- Of a client's operations all but the last came back ahead of the next one's call; what a history begins with: plain mathematics. No conditions. -/
import Derived.Test.YtgdegbmakbfaaaaDoorPM
namespace Go.Proofs.YtgdegbmakbfaaaaDoor
open Go.RowKit Go.PlainAid Ln
set_option linter.unusedVariables false
set_option linter.unusedSimpArgs false

theorem last_free {xs : List Ev} {v : Val} : ∀ {n : Nat} {i : Int}, lastB xs v n = i → ∀ j : Nat, i < (j : Int) → j < n → eqv (ev xs j).c v = false
  | 0, i, h, j, h1, h2 => absurd h2 (Nat.not_lt_zero j)
  | n + 1, i, h, j, h1, h2 => by
    cases hc : eqv (ev xs n).c v
    · rw [lastB_miss hc] at h
      by_cases e : j = n
      · rw [e]; exact hc
      · exact last_free h j h1 (by omega)
    · rw [lastB_hit hc] at h
      omega
theorem next_free {xs : List Ev} {v : Val} : ∀ {r k : Nat} {i : Int}, nextB xs v k r = i → ∀ j : Nat, k ≤ j → j < k + r → ((j : Int) < i ∨ i < 0) → eqv (ev xs j).c v = false
  | 0, k, i, h, j, h1, h2, _ => by omega
  | r + 1, k, i, h, j, h1, h2, h3 => by
    cases hc : eqv (ev xs k).c v
    · rw [nextB_miss hc] at h
      by_cases e : j = k
      · rw [e]; exact hc
      · exact next_free h j (by omega) (by omega) h3
    · rw [nextB_hit hc] at h
      omega
/-- the last one is told by what it is -/
theorem last_is {xs : List Ev} {v : Val} {n i : Nat} (hi : i < n) (h : eqv (ev xs i).c v = true) (hf : ∀ j, i < j → j < n → eqv (ev xs j).c v = false) : lastB xs v n = (i : Int) := by
  rcases lastB_lo xs v n with h1 | ⟨k, h1, h2, h3⟩
  · have := last_free h1 i (by omega) hi
    rw [h] at this; cases this
  · by_cases e : k = i
    · rw [h1, e]
    · by_cases hk : k < i
      · have := last_free h1 i (by omega) hi
        rw [h] at this; cases this
      · have := hf k (by omega) h2
        rw [h3] at this; cases this
theorem next_is {xs : List Ev} {v : Val} {k r i : Nat} (hk : k ≤ i) (hi : i < k + r) (h : eqv (ev xs i).c v = true) (hf : ∀ j, k ≤ j → j < i → eqv (ev xs j).c v = false) : nextB xs v k r = (i : Int) := by
  rcases nextB_lo xs v r k with h1 | ⟨m, h1, h2, h3, h4⟩
  · have := next_free h1 i hk hi (.inr (by omega))
    rw [h] at this; cases this
  · by_cases e : m = i
    · rw [h1, e]
    · by_cases hm : m < i
      · have := hf m h2 hm
        rw [h4] at this; cases this
      · have := next_free h1 i hk hi (.inl (by omega))
        rw [h] at this; cases this
theorem next_none {xs : List Ev} {v : Val} {k r : Nat} (hf : ∀ j, k ≤ j → j < k + r → eqv (ev xs j).c v = false) : nextB xs v k r = -1 := by
  rcases nextB_lo xs v r k with h1 | ⟨m, h1, h2, h3, h4⟩
  · exact h1
  · have := hf m h2 h3
    rw [h4] at this; cases this
/-- where the next one stands, or that there is none -/
theorem nxt_lo (xs : List Ev) (i : Nat) (hi : i < xs.length) : (nxt xs i = -1 ∧ ∀ j, i < j → j < xs.length → eqv (ev xs j).c (ev xs i).c = false) ∨
    ∃ k : Nat, nxt xs i = (k : Int) ∧ i < k ∧ k < xs.length ∧ eqv (ev xs k).c (ev xs i).c = true ∧ (∀ j, i < j → j < k → eqv (ev xs j).c (ev xs i).c = false) ∧ lastB xs (ev xs i).c k = (i : Int) := by
  unfold nxt
  rcases nextB_lo xs (ev xs i).c (xs.length - (i + 1)) (i + 1) with h | ⟨k, h1, h2, h3, h4⟩
  · exact .inl ⟨h, fun j h1 h2 => next_free h j (by omega) (by omega) (.inr (by omega))⟩
  · have hf : ∀ j, i < j → j < k → eqv (ev xs j).c (ev xs i).c = false := fun j h5 h6 => next_free h1 j (by omega) (by omega) (.inl (by omega))
    exact .inr ⟨k, h1, by omega, by omega, h4, hf, last_is (by omega) (eqv_self _) hf⟩
/-- the types of what is right -/
theorem right_ty {x : Ev} (h : rightE x = true) : x.y = 1 ∨ x.y = 2 ∨ x.y = 3 ∨ x.y = 4 := by
  unfold rightE at h
  rw [Bool.and_eq_true] at h
  have h4 := h.2
  unfold typB at h4
  by_cases h1 : x.y = 1
  · exact .inl h1
  by_cases h2 : x.y = 2
  · exact .inr (.inl h2)
  by_cases h3 : x.y = 3 ∨ x.y = 4
  · exact .inr (.inr h3)
  · rw [if_neg h1, if_neg h2, if_neg h3] at h4; cases h4
theorem wrong_0 {xs : List Ev} {n : Nat} (h : wrongE xs n = 0) : n < 4096 ∧ rightE (ev xs n) = true ∧ formE xs n = 0 := by
  unfold wrongE at h
  by_cases h1 : n < 4096
  · rw [if_pos h1] at h
    by_cases h2 : rightE (ev xs n) = true
    · rw [if_pos h2] at h
      by_cases h3 : 0 < n ∧ (ev xs n).t < (ev xs (n - 1)).t
      · rw [if_pos h3] at h; exact absurd h (by decide)
      · rw [if_neg h3] at h; exact ⟨h1, h2, h⟩
    · rw [if_neg h2] at h; exact absurd h (by decide)
  · rw [if_neg h1] at h; exact absurd h (by decide)
theorem form_inv {xs : List Ev} {n : Nat} (h : formE xs n = 0) (hy : (ev xs n).y = 1) : busyB xs (ev xs n).c n = false ∧ lostB xs (ev xs n).c n = false := by
  unfold formE at h
  rw [if_pos hy] at h
  by_cases hb : (busyB xs (ev xs n).c n || lostB xs (ev xs n).c n) = true
  · rw [if_pos hb] at h; exact absurd h (by decide)
  · simpa using hb
theorem form_ret {xs : List Ev} {n : Nat} (h : formE xs n = 0) (hy : (ev xs n).y ≠ 1) : busyB xs (ev xs n).c n = true ∧ ((ev xs n).y = 2 → outE (ev xs (lastB xs (ev xs n).c n).toNat) (ev xs n).r = true) := by
  unfold formE at h
  rw [if_neg hy] at h
  by_cases hb : busyB xs (ev xs n).c n = true
  · rw [if_pos hb] at h
    refine ⟨hb, fun h2 => ?_⟩
    by_cases h3 : (ev xs n).y = 2 ∧ outE (ev xs (lastB xs (ev xs n).c n).toNat) (ev xs n).r = false
    · rw [if_pos h3] at h; exact absurd h (by decide)
    · cases ho : outE (ev xs (lastB xs (ev xs n).c n).toNat) (ev xs n).r
      · exact absurd ⟨h2, ho⟩ h3
      · rfl
  · rw [if_neg hb] at h; exact absurd h (by decide)
theorem busy_at {xs : List Ev} {v : Val} {n i : Nat} (h : lastB xs v n = (i : Int)) : busyB xs v n = decide ((ev xs i).y = 1) := by unfold busyB; rw [h]; simp
theorem lost_at {xs : List Ev} {v : Val} {n i : Nat} (h : lastB xs v n = (i : Int)) : lostB xs v n = decide ((ev xs i).y = 4) := by unfold lostB; rw [h]; simp
/-- what comes next of a client in a history that is well-formed -/
theorem nty_ok {xs : List Ev} (ho : okE xs xs.length) {i : Nat} (hi : i < xs.length) (hy : (ev xs i).y = 1) : nty xs i = 0 ∨ nty xs i = 2 ∨ nty xs i = 3 ∨ nty xs i = 4 := by
  unfold nty
  rcases nxt_lo xs i hi with ⟨h, _⟩ | ⟨k, h1, h2, h3, h4, h5, h6⟩
  · rw [h]; exact .inl rfl
  · rw [h1, if_pos (by omega), Int.toNat_natCast]
    obtain ⟨_, w2, w3⟩ := wrong_0 (ho k h3)
    rcases right_ty w2 with h | h
    · have := (form_inv w3 h).1
      rw [(eqv_iff _ _).1 h4, busy_at h6, hy] at this
      exact absurd this (by decide)
    · exact .inr h
/-- who is lost has no event more -/
theorem lost_ends {xs : List Ev} (ho : okE xs xs.length) {k q : Nat} (hk : k < q) (hq : q < xs.length) (hc : eqv (ev xs q).c (ev xs k).c = true) : (ev xs k).y ≠ 4 := by
  intro hy
  obtain ⟨k2, h1, h2, h3, h4, h5, h6⟩ : ∃ k2 : Nat, nxt xs k = (k2 : Int) ∧ k < k2 ∧ k2 < xs.length ∧ eqv (ev xs k2).c (ev xs k).c = true ∧ (∀ j, k < j → j < k2 → eqv (ev xs j).c (ev xs k).c = false) ∧ lastB xs (ev xs k).c k2 = (k : Int) := by
    rcases nxt_lo xs k (by omega) with ⟨_, h⟩ | h
    · have := h q hk hq
      rw [hc] at this; cases this
    · exact h
  have e := (eqv_iff _ _).1 h4
  obtain ⟨_, w2, w3⟩ := wrong_0 (ho k2 h3)
  by_cases h : (ev xs k2).y = 1
  · have := (form_inv w3 h).2
    rw [e, lost_at h6, hy] at this
    exact absurd this (by decide)
  · have := (form_ret w3 h).1
    rw [e, busy_at h6, hy] at this
    exact absurd this (by decide)
/-- an operation is called in the history, and comes back behind its call, within it -/
theorem op_place {xs : List Ev} {i : Nat} (hi : i < xs.length) : (opOf xs i).call = (i : Int) ∧ (opOf xs i).c = (ev xs i).c ∧ ((opOf xs i).ret = -1 ∨ ∃ k : Nat, (opOf xs i).ret = (k : Int) ∧ i < k ∧ k < xs.length) := by
  by_cases h : nty xs i = 2
  · rw [opOf_2 h]
    refine ⟨rfl, rfl, .inr ?_⟩
    rcases nxt_lo xs i hi with ⟨h1, _⟩ | ⟨k, h1, h2, h3, _⟩
    · unfold nty at h
      rw [h1, if_neg (by decide)] at h
      exact absurd h (by decide)
    · exact ⟨k, h1, h2, h3⟩
  · rw [opOf_n h]
    exact ⟨rfl, rfl, .inl rfl⟩
/-- ahead of a client's next call the operation came back -/
theorem op_turn {xs : List Ev} (ho : okE xs xs.length) {p q : Nat} (hpq : p < q) (hq : q < xs.length) (hp : isOp xs p = true) (hy : (ev xs q).y = 1) (hc : (ev xs p).c = (ev xs q).c) : ∃ k : Nat, (opOf xs p).ret = (k : Int) ∧ k < q := by
  unfold isOp at hp
  rw [Bool.and_eq_true, decide_eq_true_eq] at hp
  obtain ⟨p1, p2⟩ := hp
  have p3 : ¬ nty xs p = 3 := by simpa using p2
  have hqe : eqv (ev xs q).c (ev xs p).c = true := by rw [hc]; exact eqv_self _
  rcases nxt_lo xs p (by omega) with ⟨_, h⟩ | ⟨k, h1, h2, h3, h4, h5, h6⟩
  · have := h q hpq hq
    rw [hqe] at this; cases this
  · have hkq : k ≤ q := by
      rcases Nat.lt_or_ge q k with h | h
      · have := h5 q hpq h
        rw [hqe] at this; cases this
      · exact h
    have hne : k ≠ q := by
      intro e
      subst e
      obtain ⟨_, w2, w3⟩ := wrong_0 (ho k h3)
      have := (form_inv w3 hy).1
      rw [← hc, busy_at h6, p1] at this
      exact absurd this (by decide)
    have ek : nty xs p = (ev xs k).y := by unfold nty; rw [h1, if_pos (by omega), Int.toNat_natCast]
    have h4' : (ev xs k).y ≠ 4 := lost_ends ho (q := q) (by omega) hq (by rw [(eqv_iff _ _).1 h4]; exact hqe)
    rcases nty_ok ho (by omega) p1 with h | h | h | h
    · obtain ⟨_, w2, _⟩ := wrong_0 (ho k h3)
      rcases right_ty w2 with r | r | r | r <;> (rw [ek] at h; omega)
    · rw [opOf_2 h]
      exact ⟨k, h1, by omega⟩
    · exact absurd h p3
    · rw [ek] at h; exact absurd h h4'
end Go.Proofs.YtgdegbmakbfaaaaDoor
