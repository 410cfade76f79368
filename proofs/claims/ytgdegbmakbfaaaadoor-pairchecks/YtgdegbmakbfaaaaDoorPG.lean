/- Who is busy and who is lost, as maps, event by event; how the operations change with one event more: plain mathematics. No conditions. -/
import Derived.Test.YtgdegbmakbfaaaaDoorPB
import Derived.Test.YtgdegbmakbfaaaaDoorPK
namespace Go.Proofs.YtgdegbmakbfaaaaDoor
open Go.RowKit Go.PlainAid Ln
set_option linter.unusedVariables false
set_option linter.unusedSimpArgs false

theorem busy_hit {xs : List Ev} {v : Val} {n : Nat} (h : eqv (ev xs n).c v = true) : busyB xs v (n + 1) = decide ((ev xs n).y = 1) := busy_at (lastB_hit h)
theorem lost_hit {xs : List Ev} {v : Val} {n : Nat} (h : eqv (ev xs n).c v = true) : lostB xs v (n + 1) = decide ((ev xs n).y = 4) := lost_at (lastB_hit h)
theorem busy_miss {xs : List Ev} {v : Val} {n : Nat} (h : eqv (ev xs n).c v = false) : busyB xs v (n + 1) = busyB xs v n := by unfold busyB; rw [lastB_miss h]
theorem lost_miss {xs : List Ev} {v : Val} {n : Nat} (h : eqv (ev xs n).c v = false) : lostB xs v (n + 1) = lostB xs v n := by unfold lostB; rw [lastB_miss h]
theorem busy_0 (xs : List Ev) (v : Val) : busyB xs v 0 = false := rfl
theorem lost_0 (xs : List Ev) (v : Val) : lostB xs v 0 = false := rfl
/-- what is open of each client: the place of its call -/
def openG (xs : List Ev) (n : Nat) : Val → Option Int := fun v => if busyB xs v n = true then some (lastB xs v n) else none
/-- who is lost -/
def lostG (xs : List Ev) (n : Nat) : Val → Option Bool := fun v => if lostB xs v n = true then some true else none
theorem openG_0 (xs : List Ev) : openG xs 0 = fun _ => none := rfl
theorem lostG_0 (xs : List Ev) : lostG xs 0 = fun _ => none := rfl
theorem openG_call {xs : List Ev} {n : Nat} (h : (ev xs n).y = 1) : openG xs (n + 1) = upd (openG xs n) (ev xs n).c (some (n : Int)) := by
  funext v
  by_cases e : v = (ev xs n).c
  · subst e
    have hc := eqv_self (ev xs n).c
    rw [upd_same]
    unfold openG
    rw [busy_hit hc, lastB_hit hc, h]; rfl
  · have hc : eqv (ev xs n).c v = false := eqv_ne (fun q => e q.symm)
    rw [upd_other _ _ e]
    unfold openG
    rw [busy_miss hc, lastB_miss hc]
theorem openG_back {xs : List Ev} {n : Nat} (h : (ev xs n).y ≠ 1) : openG xs (n + 1) = upd (openG xs n) (ev xs n).c none := by
  funext v
  by_cases e : v = (ev xs n).c
  · subst e
    have hc := eqv_self (ev xs n).c
    rw [upd_same]
    unfold openG
    rw [busy_hit hc, decide_eq_false h]; rfl
  · have hc : eqv (ev xs n).c v = false := eqv_ne (fun q => e q.symm)
    rw [upd_other _ _ e]
    unfold openG
    rw [busy_miss hc, lastB_miss hc]
theorem lostG_lost {xs : List Ev} {n : Nat} (h : (ev xs n).y = 4) : lostG xs (n + 1) = upd (lostG xs n) (ev xs n).c (some true) := by
  funext v
  by_cases e : v = (ev xs n).c
  · subst e
    have hc := eqv_self (ev xs n).c
    rw [upd_same]
    unfold lostG
    rw [lost_hit hc, h]; rfl
  · have hc : eqv (ev xs n).c v = false := eqv_ne (fun q => e q.symm)
    rw [upd_other _ _ e]
    unfold lostG
    rw [lost_miss hc]
theorem lostG_same {xs : List Ev} {n : Nat} (h : (ev xs n).y ≠ 4) (hl : lostB xs (ev xs n).c n = false) : lostG xs (n + 1) = lostG xs n := by
  funext v
  unfold lostG
  by_cases e : v = (ev xs n).c
  · subst e
    rw [lost_hit (eqv_self _), decide_eq_false h, hl]
  · rw [lost_miss (eqv_ne (fun q => e q.symm))]
theorem openG_some (xs : List Ev) (n : Nat) (v : Val) : (openG xs n v).isSome = busyB xs v n := by unfold openG; cases busyB xs v n <;> rfl
theorem openG_get {xs : List Ev} {n : Nat} {v : Val} (h : busyB xs v n = true) : openG xs n v = some (lastB xs v n) := if_pos h
theorem lostG_get (xs : List Ev) (n : Nat) (v : Val) : (lostG xs n v).getD false = lostB xs v n := by unfold lostG; cases lostB xs v n <;> rfl
theorem lostG_some (xs : List Ev) (n : Nat) (v : Val) : (lostG xs n v).isSome = lostB xs v n := by unfold lostG; cases lostB xs v n <;> rfl
/-- who is busy called: the place and what stands there -/
theorem busy_place {xs : List Ev} {v : Val} {n : Nat} (h : busyB xs v n = true) : ∃ i : Nat, lastB xs v n = (i : Int) ∧ i < n ∧ (ev xs i).c = v ∧ (ev xs i).y = 1 ∧ ∀ j, i < j → j < n → eqv (ev xs j).c v = false := by
  rcases lastB_lo xs v n with e | ⟨i, e, h1, h2⟩
  · unfold busyB at h; rw [e] at h; cases h
  · rw [busy_at e, decide_eq_true_eq] at h
    exact ⟨i, e, h1, (eqv_iff _ _).1 h2, h, fun j h3 h4 => last_free e j (by omega) h4⟩

/-! ### one event more -/
theorem nxt_step {xs : List Ev} {n i : Nat} (hi : i < n) (hn : n < xs.length) : nxt (xs.take (n + 1)) i = if nxt (xs.take n) i = -1 ∧ eqv (ev xs n).c (ev xs i).c = true then (n : Int) else nxt (xs.take n) i := by
  rcases nxt_take (xs := xs) (n := n) hi (by omega) with ⟨h1, h2⟩ | ⟨h1, h2⟩ <;> rcases nxt_take (xs := xs) (n := n + 1) (i := i) (by omega) (by omega) with ⟨h3, h4⟩ | ⟨h3, h4⟩
  · rw [h1, h3]
    by_cases hc : nxt xs i = -1 ∧ eqv (ev xs n).c (ev xs i).c = true
    · rcases nxt_lo xs i (by omega) with ⟨_, hf⟩ | ⟨k, e, _⟩
      · have := hf n hi hn
        rw [hc.2] at this; cases this
      · omega
    · rw [if_neg hc]
  · omega
  · rw [h1, h3]
    have e : nxt xs i = (n : Int) := by omega
    rcases nxt_lo xs i (by omega) with ⟨h5, _⟩ | ⟨k, h5, _, _, h6, _⟩
    · omega
    · have : k = n := by omega
      subst this
      rw [if_pos ⟨rfl, h6⟩, e]
  · rw [h1, h3]
    by_cases hc : (-1 : Int) = -1 ∧ eqv (ev xs n).c (ev xs i).c = true
    · rcases nxt_lo xs i (by omega) with ⟨h5, _⟩ | ⟨k, h5, _, _, _, h6, _⟩
      · omega
      · have := h6 n hi (by omega)
        rw [hc.2] at this; cases this
    · rw [if_neg hc]
/-- an operation of another client, or one that came back, stays as it is -/
theorem op_same {xs : List Ev} {n i : Nat} (hi : i < n) (hn : n < xs.length) (h : ¬ (nxt (xs.take n) i = -1 ∧ eqv (ev xs n).c (ev xs i).c = true)) : opOf (xs.take (n + 1)) i = opOf (xs.take n) i ∧ isOp (xs.take (n + 1)) i = isOp (xs.take n) i := by
  have e := nxt_step hi hn
  rw [if_neg h] at e
  have e1 := ev_take (xs := xs) hi
  have e2 := ev_take (xs := xs) (n := n + 1) (i := i) (by omega)
  have hk : ∀ (m : Nat), i < m → m ≤ xs.length → 0 ≤ nxt (xs.take m) i → (nxt (xs.take m) i).toNat < m := fun m h1 h2 h3 => by
    rcases nxt_lo (xs.take m) i (by rw [List.length_take]; omega) with ⟨h5, _⟩ | ⟨k, h5, _, h6, _⟩
    · omega
    · rw [List.length_take] at h6; omega
  have et : nty (xs.take (n + 1)) i = nty (xs.take n) i := by
    unfold nty
    rw [e]
    by_cases h0 : 0 ≤ nxt (xs.take n) i
    · have := hk n hi (by omega) h0
      rw [if_pos h0, if_pos h0, ev_take this, ev_take (show _ < n + 1 by omega)]
    · rw [if_neg h0, if_neg h0]
  refine ⟨?_, by unfold isOp; rw [et, e1, e2]⟩
  by_cases h2 : nty (xs.take n) i = 2
  · have h0 : 0 ≤ nxt (xs.take n) i := by
      unfold nty at h2
      by_cases h0 : 0 ≤ nxt (xs.take n) i
      · exact h0
      · rw [if_neg h0] at h2; exact absurd h2 (by decide)
    have := hk n hi (by omega) h0
    rw [opOf_2 h2, opOf_2 (et.trans h2), e, e1, e2, ev_take this, ev_take (show _ < n + 1 by omega)]
  · rw [opOf_n h2, opOf_n (by rw [et]; exact h2), e1, e2]
/-- an operation that comes back now -/
theorem op_back {xs : List Ev} {n i : Nat} (hi : i < n) (hn : n < xs.length) (h : nxt (xs.take n) i = -1) (hc : eqv (ev xs n).c (ev xs i).c = true) : nxt (xs.take (n + 1)) i = (n : Int) ∧ nty (xs.take (n + 1)) i = (ev xs n).y := by
  have e := nxt_step hi hn
  rw [if_pos ⟨h, hc⟩] at e
  refine ⟨e, ?_⟩
  unfold nty
  rw [e, if_pos (by omega), Int.toNat_natCast, ev_take (by omega)]
theorem nty_open {xs : List Ev} {n i : Nat} (h : nxt (xs.take n) i = -1) : nty (xs.take n) i = 0 := by unfold nty; rw [h]; rfl
end Go.Proofs.YtgdegbmakbfaaaaDoor
