/- What is at fault in a history, and its operations: plain mathematics. No conditions. -/
import Derived.Test.YtgdegbmakbfaaaaDoorBH
import Derived.Test.YtgdegbmakbfaaaaDoorBA
import Derived.Test.YtgdegbmakbfaaaaDoorSL
namespace Go.Proofs.YtgdegbmakbfaaaaDoor
open Go.RowKit Go.PlainAid Ln
set_option linter.unusedVariables false
set_option linter.unusedSimpArgs false

/-- the event at a place -/
def ev (xs : List Ev) (i : Nat) : Ev := xs.getD i noEv
theorem ev_ye (ys : List YE) (i : Nat) : ev (ys.map (·.1)) i = (ye ys i).1 := by
  unfold ev ye
  rw [List.getD_eq_getElem?_getD, List.getD_eq_getElem?_getD, List.getElem?_map]
  cases ys[i]? <;> rfl
/-- are two values one? -/
def eqv (x y : Val) : Bool := eqvB x.1 x.2.1 x.2.2 y.1 y.2.1 y.2.2
theorem bytes_injP {a b : ByteArray} (h : a.data.toList = b.data.toList) : a = b := ByteArray.ext (Array.toList_inj.1 h)
theorem eqvB_iffP (k n k' n' : Int) (s s' : ByteArray) : eqvB k n s k' n' s' = true ↔ ((k, n, s) : Val) = (k', n', s') := by
  unfold eqvB
  rw [Bool.and_eq_true, Bool.and_eq_true, beq_iff_eq, beq_iff_eq, beq_iff_eq]
  constructor
  · rintro ⟨rfl, rfl, h⟩
    rw [ByteArray.toList_eq, ByteArray.toList_eq] at h
    rw [bytes_injP h]
  · intro h
    injection h with h1 h2
    injection h2 with h2 h3
    exact ⟨h1, h2, by rw [h3]⟩
theorem eqv_iff (x y : Val) : eqv x y = true ↔ x = y := eqvB_iffP _ _ _ _ _ _
theorem eqv_self (x : Val) : eqv x x = true := (eqv_iff x x).2 rfl
theorem eqv_ne {x y : Val} (h : x ≠ y) : eqv x y = false := by
  cases e : eqv x y
  · rfl
  · exact absurd ((eqv_iff x y).1 e) h
/-- the place of a client's last event among the first n; -1: there is none -/
def lastB (xs : List Ev) (v : Val) : Nat → Int
  | 0 => -1
  | n + 1 => if eqv (ev xs n).c v = true then (n : Int) else lastB xs v n
/-- the place of a client's first event among r from k on; -1: there is none -/
def nextB (xs : List Ev) (v : Val) : Nat → Nat → Int
  | k, 0 => -1
  | k, r + 1 => if eqv (ev xs k).c v = true then (k : Int) else nextB xs v (k + 1) r
theorem lastB_hit {xs : List Ev} {v : Val} {n : Nat} (h : eqv (ev xs n).c v = true) : lastB xs v (n + 1) = (n : Int) := if_pos h
theorem lastB_miss {xs : List Ev} {v : Val} {n : Nat} (h : eqv (ev xs n).c v = false) : lastB xs v (n + 1) = lastB xs v n := by
  show (if _ then _ else _) = _
  rw [h]; rfl
theorem nextB_hit {xs : List Ev} {v : Val} {k r : Nat} (h : eqv (ev xs k).c v = true) : nextB xs v k (r + 1) = (k : Int) := if_pos h
theorem nextB_miss {xs : List Ev} {v : Val} {k r : Nat} (h : eqv (ev xs k).c v = false) : nextB xs v k (r + 1) = nextB xs v (k + 1) r := by
  show (if _ then _ else _) = _
  rw [h]; rfl
theorem lastB_lo (xs : List Ev) (v : Val) : ∀ n, lastB xs v n = -1 ∨ ∃ i : Nat, lastB xs v n = (i : Int) ∧ i < n ∧ eqv (ev xs i).c v = true
  | 0 => .inl rfl
  | n + 1 => by
    cases h : eqv (ev xs n).c v
    · rw [lastB_miss h]
      exact (lastB_lo xs v n).imp id fun ⟨i, h1, h2, h3⟩ => ⟨i, h1, by omega, h3⟩
    · exact .inr ⟨n, lastB_hit h, by omega, h⟩
theorem nextB_lo (xs : List Ev) (v : Val) : ∀ r k, nextB xs v k r = -1 ∨ ∃ i : Nat, nextB xs v k r = (i : Int) ∧ k ≤ i ∧ i < k + r ∧ eqv (ev xs i).c v = true
  | 0, k => .inl rfl
  | r + 1, k => by
    cases h : eqv (ev xs k).c v
    · rw [nextB_miss h]
      exact (nextB_lo xs v r (k + 1)).imp id fun ⟨i, h1, h2, h3, h4⟩ => ⟨i, h1, by omega, by omega, h4⟩
    · exact .inr ⟨k, nextB_hit h, by omega, by omega, h⟩
/-- may this come out of that? -/
def outE (x : Ev) (r : List Val) : Bool := fi x.m x.o && outsOK (fr x.m x.o) r
/-- is a client busy, is it lost? -/
def busyB (xs : List Ev) (v : Val) (n : Nat) : Bool := decide (0 ≤ lastB xs v n) && decide ((ev xs (lastB xs v n).toNat).y = 1)
def lostB (xs : List Ev) (v : Val) (n : Nat) : Bool := decide (0 ≤ lastB xs v n) && decide ((ev xs (lastB xs v n).toNat).y = 4)
/-- what is wrong with an event, all ahead of it being right -/
def formE (xs : List Ev) (n : Nat) : Int :=
  if (ev xs n).y = 1 then (if (busyB xs (ev xs n).c n || lostB xs (ev xs n).c n) = true then 4 else 0)
  else if busyB xs (ev xs n).c n = true then (if (ev xs n).y = 2 ∧ outE (ev xs (lastB xs (ev xs n).c n).toNat) (ev xs n).r = false then 4 else 0)
  else 4
def wrongE (xs : List Ev) (n : Nat) : Int :=
  if n < 4096 then (if rightE (ev xs n) = true then (if 0 < n ∧ (ev xs n).t < (ev xs (n - 1)).t then 4 else formE xs n) else 2) else 5
def okE (xs : List Ev) (n : Nat) : Prop := ∀ i, i < n → wrongE xs i = 0
/-- the first fault, and its line -/
def checkE (xs : List Ev) : Int × Int :=
  if (List.range xs.length).findIdx (fun k => decide (wrongE xs k ≠ 0)) < xs.length then (wrongE xs ((List.range xs.length).findIdx (fun k => decide (wrongE xs k ≠ 0))), ((List.range xs.length).findIdx (fun k => decide (wrongE xs k ≠ 0)) : Int) + 1) else (0, 0)
theorem checkE_bad {xs : List Ev} {k : Nat} (hk : k < xs.length) (ho : okE xs k) (hc : wrongE xs k ≠ 0) : checkE xs = (wrongE xs k, (k : Int) + 1) := by
  have e : (List.range xs.length).findIdx (fun k => decide (wrongE xs k ≠ 0)) = k := by
    rw [List.findIdx_eq (by simpa using hk)]
    refine ⟨by simpa using hc, fun j hj => ?_⟩
    simpa using ho j hj
  unfold checkE
  rw [e, if_pos hk]
theorem checkE_ok {xs : List Ev} (ho : okE xs xs.length) : checkE xs = (0, 0) := by
  have e : (List.range xs.length).findIdx (fun k => decide (wrongE xs k ≠ 0)) = xs.length := by
    rw [List.findIdx_eq_length_of_false]
    · simp
    · intro x hx
      simp at hx
      simpa using ho x hx
  unfold checkE
  rw [e, if_neg (Nat.lt_irrefl _)]
theorem okE_cases (xs : List Ev) : (∃ k, k < xs.length ∧ okE xs k ∧ wrongE xs k ≠ 0) ∨ okE xs xs.length := by
  have key : ∀ n, n ≤ xs.length → (∃ k, k < xs.length ∧ okE xs k ∧ wrongE xs k ≠ 0) ∨ okE xs n := by
    intro n
    induction n with
    | zero => exact fun _ => .inr fun i hi => absurd hi (Nat.not_lt_zero i)
    | succ n ih =>
      intro hn
      rcases ih (by omega) with h | h
      · exact .inl h
      · by_cases hc : wrongE xs n = 0
        · refine .inr fun i hi => ?_
          by_cases e : i = n
          · rw [e]; exact hc
          · exact h i (by omega)
        · exact .inl ⟨n, by omega, h, hc⟩
  exact key _ (Nat.le_refl _)
theorem okE_succ {xs : List Ev} {k : Nat} (h : okE xs k) (hc : wrongE xs k = 0) : okE xs (k + 1) := fun i hi => by
  by_cases e : i = k
  · rw [e]; exact hc
  · exact h i (by omega)
theorem wrong_many {xs : List Ev} {n : Nat} (h : ¬ n < 4096) : wrongE xs n = 5 := if_neg h
theorem wrong_syntax {xs : List Ev} {n : Nat} (h : n < 4096) (h2 : rightE (ev xs n) = false) : wrongE xs n = 2 := by unfold wrongE; rw [if_pos h, h2]; rfl
theorem wrong_time {xs : List Ev} {n : Nat} (h : n < 4096) (h2 : rightE (ev xs n) = true) (h3 : 0 < n) (h4 : (ev xs n).t < (ev xs (n - 1)).t) : wrongE xs n = 4 := by unfold wrongE; rw [if_pos h, if_pos h2, if_pos ⟨h3, h4⟩]
theorem wrong_form {xs : List Ev} {n : Nat} (h : n < 4096) (h2 : rightE (ev xs n) = true) (h3 : ¬ (0 < n ∧ (ev xs n).t < (ev xs (n - 1)).t)) : wrongE xs n = formE xs n := by unfold wrongE; rw [if_pos h, if_pos h2, if_neg h3]

/-- an operation -/
structure Opn where
  c : Val
  m : Int
  k : Val
  o : Int
  a : List Val
  r : List Val
  call : Int
  ret : Int
/-- its twelve cells -/
def opC (x : Opn) (va vr : Value) : List Value :=
  [.int .i64 x.c.1, .int .i64 x.c.2.1, .string x.c.2.2, .int .i64 x.m, .int .i64 x.k.1, .int .i64 x.k.2.1, .string x.k.2.2, .int .i64 x.o, va, vr, .int .i64 x.call, .int .i64 x.ret]
theorem opC_len (x : Opn) (va vr : Value) : (opC x va vr).length = 12 := rfl
theorem opC_one (x : Opn) {va vr : Value} (h1 : va.oneCell' = true) (h2 : vr.oneCell' = true) : ∀ v ∈ opC x va vr, v.oneCell' = true := by
  intro v hv
  simp only [opC, List.mem_cons, List.not_mem_nil, or_false] at hv
  rcases hv with rfl | rfl | rfl | rfl | rfl | rfl | rfl | rfl | rfl | rfl | rfl | rfl <;> first | rfl | exact h1 | exact h2
def noOp : Opn := ⟨(0, 0, noB), 0, (0, 0, noB), 0, [], [], 0, 0⟩
/-- where a client's next event stands -/
def nxt (xs : List Ev) (i : Nat) : Int := nextB xs (ev xs i).c (i + 1) (xs.length - (i + 1))
/-- the type of what comes next of a client, 0: nothing does -/
def nty (xs : List Ev) (i : Nat) : Int := if 0 ≤ nxt xs i then (ev xs (nxt xs i).toNat).y else 0
/-- the operation that an event calls -/
def opOf (xs : List Ev) (i : Nat) : Opn :=
  if nty xs i = 2 then ⟨(ev xs i).c, (ev xs i).m, (ev xs i).k, (ev xs i).o, (ev xs i).a, (ev xs (nxt xs i).toNat).r, (i : Int), nxt xs i⟩
  else ⟨(ev xs i).c, (ev xs i).m, (ev xs i).k, (ev xs i).o, (ev xs i).a, [], (i : Int), -1⟩
def isOp (xs : List Ev) (i : Nat) : Bool := decide ((ev xs i).y = 1) && !decide (nty xs i = 3)
/-- the operations called among the first n events -/
def opsTo (xs : List Ev) (n : Nat) : List Opn := (List.range n).filterMap fun i => if isOp xs i = true then some (opOf xs i) else none
def opsE (xs : List Ev) : List Opn := opsTo xs xs.length
theorem opsTo_yes {xs : List Ev} {n : Nat} (h : isOp xs n = true) : opsTo xs (n + 1) = opsTo xs n ++ [opOf xs n] := by
  unfold opsTo; rw [List.range_succ, List.filterMap_append]; simp [h]
theorem opsTo_no {xs : List Ev} {n : Nat} (h : isOp xs n = false) : opsTo xs (n + 1) = opsTo xs n := by
  unfold opsTo; rw [List.range_succ, List.filterMap_append]; simp [h]
theorem opsTo_len (xs : List Ev) : ∀ n, (opsTo xs n).length ≤ n
  | 0 => Nat.le_refl _
  | n + 1 => by
    have := opsTo_len xs n
    cases h : isOp xs n
    · rw [opsTo_no h]; omega
    · rw [opsTo_yes h, List.length_append]; simp; omega
theorem opOf_2 {xs : List Ev} {i : Nat} (h : nty xs i = 2) : opOf xs i = ⟨(ev xs i).c, (ev xs i).m, (ev xs i).k, (ev xs i).o, (ev xs i).a, (ev xs (nxt xs i).toNat).r, (i : Int), nxt xs i⟩ := if_pos h
theorem opOf_n {xs : List Ev} {i : Nat} (h : ¬ nty xs i = 2) : opOf xs i = ⟨(ev xs i).c, (ev xs i).m, (ev xs i).k, (ev xs i).o, (ev xs i).a, [], (i : Int), -1⟩ := if_neg h
end Go.Proofs.YtgdegbmakbfaaaaDoor
