/- The table of signs as a list; rows of numbers in memory; that the program's table holds it. No conditions. -/
import Derived.Test.YtoefcbhcceikoaaDoorVG
import Derived.Deep.MidRow
namespace Go.Proofs.YtoefcbhcceikoaaDoor
open Go.RowKit Go.PlainAid
set_option linter.unusedVariables false

/-- the i-th number of a row -/
def nth (xs : List Int) (i : Nat) : Int := xs.getD i 0
theorem nth_eq (xs : List Int) (i : Nat) (h : i < xs.length) : nth xs i = xs[i] := by unfold nth; rw [List.getD_eq_getElem?_getD, List.getElem?_eq_getElem h]; rfl
/-- a slice that holds these numbers -/
def ISl (w : World) (v : Value) (xs : List Int) : Prop :=
  ∃ (a : Option Addr) (c : Nat), v = .slice a xs.length c ∧ xs.length ≤ c ∧ c ≤ 9223372036854775807 ∧ ((xs = [] ∧ (a = none → c = 0)) ∨ ∃ b o, a = some ⟨b, o, none⟩ ∧ b < w.heap.size ∧ ∀ i, i < xs.length → w.cell? ⟨b, o + i, none⟩ = some (.int .i64 (nth xs i)))
theorem ISl.later {w w' : World} {v : Value} {xs : List Int} (h : ISl w v xs) (hb : Below w.heap.size w w') : ISl w' v xs := by
  obtain ⟨a, c, h1, h2, h3, h4⟩ := h
  refine ⟨a, c, h1, h2, h3, h4.imp id ?_⟩
  rintro ⟨b, o, e, hl, hc⟩
  exact ⟨b, o, e, Nat.lt_of_lt_of_le hl hb.size, fun i hi => (hb.cell (p := ⟨b, o + i, none⟩) hl).trans (hc i hi)⟩
theorem ISl.nil (w : World) : ISl w (.slice none 0 0) [] := ⟨none, 0, rfl, by simp, by simp, .inl ⟨rfl, fun _ => rfl⟩⟩
theorem ISl.form {w : World} {v : Value} {xs : List Int} (h : ISl w v xs) : ∃ a c, v = .slice a xs.length c := by
  obtain ⟨a, c, h, _⟩ := h; exact ⟨a, c, h⟩

/-- a sign: the model, what is done, the domains of what is handed in and of what comes out, and how that comes -/
structure Rw where
  m : Int
  o : Int
  inn : List Int
  out : List Int
  c : Int
def noRw : Rw := ⟨0, 0, [], [], 0⟩
/-- the document's table -/
def tab : List Rw := [⟨1, 1, [2], [], 0⟩, ⟨1, 2, [], [2], 1⟩, ⟨2, 1, [2], [], 0⟩, ⟨2, 2, [], [2], 1⟩, ⟨2, 3, [2, 2], [6], 0⟩, ⟨3, 4, [2], [], 0⟩, ⟨3, 5, [2], [], 0⟩, ⟨3, 6, [2], [6], 0⟩,
  ⟨4, 7, [3, 2], [], 0⟩, ⟨4, 8, [3], [2], 1⟩, ⟨4, 5, [3], [], 0⟩, ⟨5, 9, [2], [], 0⟩, ⟨5, 10, [], [2], 1⟩, ⟨6, 9, [2], [], 0⟩, ⟨6, 10, [], [2], 1⟩, ⟨7, 11, [], [6], 0⟩, ⟨7, 12, [], [6], 0⟩,
  ⟨8, 4, [5], [], 0⟩, ⟨8, 2, [], [5], 0⟩, ⟨9, 1, [4], [], 0⟩, ⟨9, 2, [], [4], 1⟩, ⟨10, 7, [4, 2], [], 0⟩, ⟨10, 5, [4], [], 0⟩, ⟨10, 13, [4, 4], [4, 2], 2⟩]
/-- its i-th row -/
def rwA (i : Nat) : Rw := tab.getD i noRw
/-- the sign of what the model is to do (noRw: it can't), and whether there is one -/
def fr (m o : Int) : Rw := (tab.find? fun r => (r.m == m) && (r.o == o)).getD noRw
def fi (m o : Int) : Bool := (tab.find? fun r => (r.m == m) && (r.o == o)).isSome

theorem tab_len : tab.length = 24 := rfl
theorem rwA_get (k : Nat) (h : k < 24) : tab[k]'(by rw [tab_len]; exact h) = rwA k := by
  unfold rwA; rw [List.getD_eq_getElem?_getD, List.getElem?_eq_getElem (by rw [tab_len]; exact h)]; rfl
/-- found at k -/
theorem find_at {m o : Int} {k : Nat} (hk : k < 24) (hno : ∀ i, i < k → ¬ ((rwA i).m = m ∧ (rwA i).o = o)) (hy : (rwA k).m = m ∧ (rwA k).o = o) : (tab.find? fun r => (r.m == m) && (r.o == o)) = some (rwA k) := by
  rw [List.find?_eq_some_iff_getElem]
  refine ⟨by simp [hy.1, hy.2], k, by rw [tab_len]; exact hk, rwA_get k hk, fun j hj => ?_⟩
  have := hno j hj
  rw [rwA_get j (by omega)]
  simp only [Bool.not_eq_true', Bool.and_eq_false_iff, beq_eq_false_iff_ne, ne_eq]
  by_cases e : (rwA j).m = m
  · exact .inr fun h => this ⟨e, h⟩
  · exact .inl e
theorem find_no {m o : Int} (hno : ∀ i, i < 24 → ¬ ((rwA i).m = m ∧ (rwA i).o = o)) : (tab.find? fun r => (r.m == m) && (r.o == o)) = none := by
  rw [List.find?_eq_none]
  intro r hr
  obtain ⟨k, hk, rfl⟩ := List.getElem_of_mem hr
  rw [tab_len] at hk
  rw [rwA_get k hk]
  have := hno k hk
  simp only [Bool.and_eq_true, beq_iff_eq]
  exact this
theorem fr_at {m o : Int} {k : Nat} (hk : k < 24) (hno : ∀ i, i < k → ¬ ((rwA i).m = m ∧ (rwA i).o = o)) (hy : (rwA k).m = m ∧ (rwA k).o = o) : fr m o = rwA k ∧ fi m o = true := by
  unfold fr fi; rw [find_at hk hno hy]; exact ⟨rfl, rfl⟩
theorem fr_no {m o : Int} (hno : ∀ i, i < 24 → ¬ ((rwA i).m = m ∧ (rwA i).o = o)) : fr m o = noRw ∧ fi m o = false := by
  unfold fr fi; rw [find_no hno]; exact ⟨rfl, rfl⟩
/-- each sign is one of the table's, or none is -/
theorem fr_cases (m o : Int) : (∃ k, k < 24 ∧ (rwA k).m = m ∧ (rwA k).o = o ∧ fr m o = rwA k ∧ fi m o = true) ∨ ((∀ i, i < 24 → ¬ ((rwA i).m = m ∧ (rwA i).o = o)) ∧ fr m o = noRw ∧ fi m o = false) := by
  by_cases h : ∀ i, i < 24 → ¬ ((rwA i).m = m ∧ (rwA i).o = o)
  · exact .inr ⟨h, fr_no h⟩
  · left
    have key : ∀ n, n ≤ 24 → (∀ i, i < n → ¬ ((rwA i).m = m ∧ (rwA i).o = o)) ∨ ∃ k, k < 24 ∧ (∀ i, i < k → ¬ ((rwA i).m = m ∧ (rwA i).o = o)) ∧ ((rwA k).m = m ∧ (rwA k).o = o) := by
      intro n
      induction n with
      | zero => intro _; exact .inl fun i hi => by omega
      | succ n ih =>
        intro hn
        rcases ih (by omega) with h1 | h1
        · by_cases e : (rwA n).m = m ∧ (rwA n).o = o
          · exact .inr ⟨n, by omega, h1, e⟩
          · refine .inl fun i hi => ?_
            by_cases e2 : i = n
            · subst e2; exact e
            · exact h1 i (by omega)
        · exact .inr h1
    rcases key 24 (by omega) with h1 | ⟨k, hk, hno, hy⟩
    · exact absurd h1 h
    · obtain ⟨a, b⟩ := fr_at hk hno hy
      exact ⟨k, hk, hy.1, hy.2, a, b⟩
/-- what holds of each row of the table, and of none, holds of every sign -/
theorem fr_all {p : Rw → Bool} (h : (tab.all p && p noRw) = true) (m o : Int) : p (fr m o) = true := by
  rw [Bool.and_eq_true] at h
  rcases fr_cases m o with ⟨k, hk, _, _, e, _⟩ | ⟨_, e, _⟩
  · rw [e, ← rwA_get k hk]
    exact List.all_eq_true.1 h.1 _ (List.getElem_mem _)
  · rw [e]; exact h.2

/-- the five cells of a row of the table -/
def rcs (r : Rw) (vi vo : Value) : List Value := [.int .i64 r.m, .int .i64 r.o, vi, vo, .int .i64 r.c]
/-- all cells of the table -/
def cellsT (V U : Nat → Value) : List Value := (List.range 24).flatMap fun i => rcs (rwA i) (V i) (U i)
/-- the table of signs lies in memory -/
def Tb (w : World) : Prop := ∃ V U : Nat → Value, w.rangeAt 2 0 (cellsT V U) ∧ 2 < w.heap.size ∧ ∀ i, i < 24 → ISl w (V i) (rwA i).inn ∧ ISl w (U i) (rwA i).out
theorem Tb.later {w w' : World} (h : Tb w) (hb : Below w.heap.size w w') : Tb w' := by
  obtain ⟨V, U, h1, h2, h3⟩ := h
  exact ⟨V, U, fun j v hv => (hb.cell (p := ⟨2, 0 + j, none⟩) h2).trans (h1 j v hv), Nat.lt_of_lt_of_le h2 hb.size, fun i hi => ⟨(h3 i hi).1.later hb, (h3 i hi).2.later hb⟩⟩
theorem cellsT_len (V U : Nat → Value) : (cellsT V U).length = 120 := by simp [cellsT, rcs]; rfl
/-- a row cut out of the table -/
theorem cellsT_cut (V U : Nat → Value) : ∀ k, k < 24 → ((cellsT V U).drop (k * 5)).take 5 = rcs (rwA k) (V k) (U k) := by
  have key : ∀ (f : Nat → List Value) (n a : Nat), (∀ i, (f i).length = 5) → ∀ k, k < n → ((((List.range' a n).flatMap f).drop (k * 5)).take 5) = f (a + k) := by
    intro f n
    induction n with
    | zero => intro a _ k hk; omega
    | succ n ih =>
      intro a hf k hk
      rw [List.range'_succ, List.flatMap_cons]
      cases k with
      | zero => rw [Nat.zero_mul, List.drop_zero, List.take_left' (hf a), Nat.add_zero]
      | succ k =>
        rw [Nat.succ_mul, Nat.add_comm, ← List.drop_drop, List.drop_left' (hf a), ih (a + 1) hf k (by omega)]
        congr 1; omega
  intro k hk
  unfold cellsT
  rw [List.range_eq_range', key _ 24 0 (fun i => rfl) k hk, Nat.zero_add]
end Go.Proofs.YtoefcbhcceikoaaDoor
