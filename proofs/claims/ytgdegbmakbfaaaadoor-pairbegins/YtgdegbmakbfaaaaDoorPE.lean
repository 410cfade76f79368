/- Where each call of a history ended, event by event; whose turn it is: plain mathematics. No conditions. -/
import Derived.Test.YtgdegbmakbfaaaaDoorPG
namespace Go.Proofs.YtgdegbmakbfaaaaDoor
open Go.RowKit Go.PlainAid Ln
set_option linter.unusedVariables false
set_option linter.unusedSimpArgs false

/-- where the call at i ended, among the first n events; -1: nowhere, or there is none -/
def endI (xs : List Ev) (n i : Nat) : Int := if (ev xs i).y = 1 then nxt (xs.take n) i else -1
def endsB (xs : List Ev) (n : Nat) : List Int := (List.range n).map (endI xs n)
theorem endsB_len (xs : List Ev) (n : Nat) : (endsB xs n).length = n := by simp [endsB]
theorem endsB_get (xs : List Ev) (n i : Nat) : (endsB xs n)[i]? = if i < n then some (endI xs n i) else none := by
  unfold endsB
  rw [List.getElem?_map]
  by_cases h : i < n
  · rw [List.getElem?_range h, if_pos h]; rfl
  · rw [List.getElem?_eq_none (by simp; omega), if_neg h]; rfl
theorem endsB_nth {xs : List Ev} {n i : Nat} (h : i < n) : nth (endsB xs n) i = endI xs n i := by
  rw [nth_eq _ i (by rw [endsB_len]; exact h)]
  simp [endsB]
theorem nxt_end (xs : List Ev) {n : Nat} (hn : n < xs.length) : nxt (xs.take (n + 1)) n = -1 := by
  unfold nxt
  rw [show (xs.take (n + 1)).length - (n + 1) = 0 by rw [List.length_take]; omega]
  rfl
/-- who has a call that hasn't come back is busy -/
theorem nxt_busy {xs : List Ev} {n i : Nat} (hi : i < n) (hn : n < xs.length) (hy : (ev xs i).y = 1) (h : nxt (xs.take n) i = -1) : lastB xs (ev xs i).c n = (i : Int) := by
  have e1 := ev_take (xs := xs) hi
  refine last_is hi (eqv_self _) fun j h1 h2 => ?_
  have hl : (xs.take n).length = n := by rw [List.length_take]; omega
  rcases nxt_lo (xs.take n) i (by omega) with ⟨_, hf⟩ | ⟨k, e, _⟩
  · have := hf j h1 (by omega)
    rw [ev_take h2, e1] at this
    exact this
  · omega
theorem end_step {xs : List Ev} {n i : Nat} (hi : i < n) (hn : n < xs.length) : endI xs (n + 1) i = if (ev xs i).y = 1 ∧ lastB xs (ev xs n).c n = (i : Int) then (n : Int) else endI xs n i := by
  unfold endI
  by_cases hy : (ev xs i).y = 1
  · rw [if_pos hy, if_pos hy, nxt_step hi hn]
    by_cases hc : nxt (xs.take n) i = -1 ∧ eqv (ev xs n).c (ev xs i).c = true
    · have := nxt_busy hi hn hy hc.1
      rw [← (eqv_iff _ _).1 hc.2] at this
      rw [if_pos hc, if_pos ⟨hy, this⟩]
    · rw [if_neg hc, if_neg]
      rintro ⟨_, hl⟩
      refine hc ⟨?_, ?_⟩
      · rcases nxt_lo (xs.take n) i (by rw [List.length_take]; omega) with ⟨e, _⟩ | ⟨k, e, h1, h2, h3, _⟩
        · exact e
        · rw [List.length_take] at h2
          rcases lastB_lo xs (ev xs n).c n with e2 | ⟨k2, e2, _, h5⟩
          · omega
          · have ek : k2 = i := by omega
            subst ek
            have := last_free hl k (by omega) (by omega)
            rw [ev_take (show k < n by omega), ev_take hi] at h3
            rw [(eqv_iff _ _).1 h3, h5] at this
            cases this
      · rcases lastB_lo xs (ev xs n).c n with e2 | ⟨k2, e2, _, h5⟩
        · omega
        · have ek : k2 = i := by omega
          subst ek
          rw [(eqv_iff _ _).1 h5]; exact eqv_self _
  · rw [if_neg hy, if_neg hy, if_neg (fun h => hy h.1)]
theorem end_new {xs : List Ev} {n : Nat} (hn : n < xs.length) : endI xs (n + 1) n = -1 := by
  unfold endI
  split
  · exact nxt_end xs hn
  · rfl
/-- a call: nowhere as yet -/
theorem ends_call {xs : List Ev} {n : Nat} (hn : n < xs.length) (hb : busyB xs (ev xs n).c n = false) : endsB xs (n + 1) = endsB xs n ++ [-1] := by
  apply List.ext_getElem?
  intro i
  rw [endsB_get]
  by_cases h : i < n
  · rw [if_pos (by omega), List.getElem?_append_left (by rw [endsB_len]; exact h), endsB_get, if_pos h, end_step h hn, if_neg]
    rintro ⟨hy, hl⟩
    rw [busy_at hl, hy] at hb
    exact absurd hb (by decide)
  · by_cases e : i = n
    · subst e
      rw [if_pos (by omega), end_new hn, List.getElem?_append_right (by rw [endsB_len]; omega), endsB_len, Nat.sub_self]; rfl
    · rw [if_neg (by omega), List.getElem?_eq_none (by rw [List.length_append, endsB_len]; simp; omega)]
/-- what a client's call came to -/
theorem ends_back {xs : List Ev} {n i : Nat} (hn : n < xs.length) (hi : i < n) (hy : (ev xs i).y = 1) (hl : lastB xs (ev xs n).c n = (i : Int)) : endsB xs (n + 1) = (endsB xs n ++ [-1]).set i (n : Int) := by
  apply List.ext_getElem?
  intro j
  rw [endsB_get, List.getElem?_set]
  by_cases e : i = j
  · subst e
    rw [if_pos (by omega), if_pos rfl, if_pos (by rw [List.length_append, endsB_len]; simp; omega), end_step hi hn, if_pos ⟨hy, hl⟩]
  · rw [if_neg e]
    by_cases h : j < n
    · rw [if_pos (by omega), List.getElem?_append_left (by rw [endsB_len]; exact h), endsB_get, if_pos h, end_step h hn, if_neg]
      rintro ⟨_, h2⟩
      omega
    · by_cases e2 : j = n
      · subst e2
        rw [if_pos (by omega), end_new hn, List.getElem?_append_right (by rw [endsB_len]; omega), endsB_len, Nat.sub_self]; rfl
      · rw [if_neg (by omega), List.getElem?_eq_none (by rw [List.length_append, endsB_len]; simp; omega)]
theorem endsB_0 (xs : List Ev) : endsB xs 0 = [] := rfl
/-- at the end: where the client's next event stands -/
theorem end_all {xs : List Ev} {i : Nat} (hy : (ev xs i).y = 1) : endI xs xs.length i = nxt xs i := by unfold endI; rw [if_pos hy, List.take_length]

/-- is it what its client may do next? -/
def turnB (xs : List Ev) (n : Nat) : Bool :=
  if (ev xs n).y = 1 then (!busyB xs (ev xs n).c n && !lostB xs (ev xs n).c n)
  else if (ev xs n).y = 2 then (busyB xs (ev xs n).c n && outE (ev xs (lastB xs (ev xs n).c n).toNat) (ev xs n).r)
  else busyB xs (ev xs n).c n
theorem turn_form (xs : List Ev) (n : Nat) : formE xs n = if turnB xs n = true then 0 else 4 := by
  unfold formE turnB
  by_cases h1 : (ev xs n).y = 1
  · rw [if_pos h1, if_pos h1]
    cases busyB xs (ev xs n).c n <;> cases lostB xs (ev xs n).c n <;> rfl
  · rw [if_neg h1, if_neg h1]
    by_cases h2 : (ev xs n).y = 2
    · rw [if_pos h2]
      cases busyB xs (ev xs n).c n
      · rfl
      · cases outE (ev xs (lastB xs (ev xs n).c n).toNat) (ev xs n).r
        · simp [h2]
        · simp
    · rw [if_neg h2]
      cases busyB xs (ev xs n).c n
      · rfl
      · simp [h2]
/-- does the time not go down? -/
def timeB (xs : List Ev) (n : Nat) : Bool := decide (n = 0) || decide ((ev xs (n - 1)).t ≤ (ev xs n).t)
theorem wrong_of (xs : List Ev) (n : Nat) : wrongE xs n = if n < 4096 then (if rightE (ev xs n) = true then (if (timeB xs n && turnB xs n) = true then 0 else 4) else 2) else 5 := by
  unfold wrongE
  rw [turn_form]
  by_cases h : n < 4096
  · rw [if_pos h, if_pos h]
    by_cases h2 : rightE (ev xs n) = true
    · rw [if_pos h2, if_pos h2]
      unfold timeB
      by_cases h3 : 0 < n ∧ (ev xs n).t < (ev xs (n - 1)).t
      · rw [if_pos h3, decide_eq_false (show ¬ n = 0 by omega), decide_eq_false (show ¬ (ev xs (n - 1)).t ≤ (ev xs n).t by omega)]; rfl
      · rw [if_neg h3]
        have : (decide (n = 0) || decide ((ev xs (n - 1)).t ≤ (ev xs n).t)) = true := by
          by_cases h0 : n = 0
          · simp [h0]
          · have : (ev xs (n - 1)).t ≤ (ev xs n).t := by
              exact Int.not_lt.1 fun h4 => h3 ⟨by omega, h4⟩
            simp [this]
        rw [this]; rfl
    · rw [if_neg h2, if_neg h2]
  · rw [if_neg h, if_neg h]
end Go.Proofs.YtgdegbmakbfaaaaDoor
