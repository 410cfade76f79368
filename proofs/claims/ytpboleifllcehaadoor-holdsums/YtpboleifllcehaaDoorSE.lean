/- Rows of numbers that the call owns; how many values may come out, and which; the contracts of asMany, lets, Args. Conditions: texts of at most 2^62 bytes; the table lies in memory. -/
import Derived.Test.YtpboleifllcehaaDoorBS
import Derived.Test.YtpboleifllcehaaDoorSC
import Derived.Laws.CopyOwn
import Derived.Deep.OwnRows
import Derived.OwnWalk
namespace Go.Proofs.YtpboleifllcehaaDoor
open Go.RowKit Go.PlainAid
set_option linter.unusedVariables false
set_option linter.unusedSimpArgs false

theorem infoI : (Tryd.prog.info? 3).map (fun i => (i.zero, i.size, i.bytes)) = some (some (.int .i64 0), 1, 8) := by kernel_rfl
/-- the numbers of a row, as cells -/
def cellsI (xs : List Int) : List Value := xs.map (Value.int .i64)
theorem cellsI_len (xs : List Int) : (cellsI xs).length = xs.length := by simp [cellsI]
theorem cellsI_at (xs : List Int) (i : Nat) (h : i < xs.length) : (cellsI xs)[i]? = some (.int .i64 (nth xs i)) := by
  rw [nth_eq xs i h]; simp [cellsI, h]
theorem cellsI_app (xs ys : List Int) : cellsI xs ++ cellsI ys = cellsI (xs ++ ys) := by simp [cellsI]
theorem cellsI_one (xs : List Int) : ∀ u ∈ cellsI xs, u.oneCell' = true := by
  intro u hu; simp [cellsI] at hu; obtain ⟨x, _, rfl⟩ := hu; rfl
theorem cellsI_set (xs : List Int) (i : Nat) (x : Int) : (cellsI xs).set i (.int .i64 x) = cellsI (xs.set i x) := by
  unfold cellsI; rw [List.map_set]
theorem cellsI_no (n : Nat) : List.replicate n (Value.int .i64 0) = cellsI (List.replicate n 0) := by simp [cellsI]
/-- the value v owns, among the blocks from base on, the numbers xs -/
def OwnI (w : World) (base : Nat) (v : Value) (xs : List Int) : Prop := w.ownsRow base 3 1 v xs.length (cellsI xs)
theorem OwnI.later {w w' : World} {B : Nat} {v : Value} {xs : List Int} (h : OwnI w B v xs) (hb : Below w.heap.size w w') : OwnI w' B v xs :=
  World.ownsRow.kept h (row := none) ⟨hb.os, hb.tape, hb.output, hb.size, fun k hk _ => hb.block k hk⟩ (by cases v.ownBlock <;> simp)
theorem OwnI.isl {w : World} {B : Nat} {v : Value} {xs : List Int} (h : OwnI w B v xs) : ISl w v xs := by
  have h' := h
  obtain ⟨h1, h2⟩ := h
  rcases h2 with ⟨rfl, h0⟩ | ⟨g, cap, cur, rfl, hb, hg, hn, hc, hs, ht⟩
  · have e : xs = [] := List.eq_nil_of_length_eq_zero h0
    subst e
    exact ISl.nil w
  · unfold maxLen at hc
    refine ⟨_, cap, rfl, hn, by omega, .inr ⟨g, 0, rfl, (World.ownsRow.lt h' g rfl).2, fun i hi => ?_⟩⟩
    have q := World.ownsRow.cells h' (g := g) rfl _ _ (cellsI_at xs i hi)
    rw [Addr.add_mid] at q
    exact q
/-- a block that holds these numbers, as a slice -/
theorem isl_block {w : World} {g : Nat} {xs : List Int} {T : TypeId} (hg : w.heap[g]? = some (.cells (cellsI xs).toArray T (0, 0))) (hl : xs.length ≤ 1000000) : ISl w (.slice (some ⟨g, 0, none⟩) xs.length xs.length) xs := by
  refine ⟨_, _, rfl, Nat.le_refl _, by omega, .inr ⟨g, 0, rfl, (Array.getElem?_eq_some_iff.1 hg).1, fun i hi => ?_⟩⟩
  have := cellsI_at xs i hi
  simp [World.cell?, hg, this]
theorem isl_at {w : World} {a : Option Addr} {n c : Nat} {xs : List Int} (h : ISl w (.slice a n c) xs) (hl : 0 < xs.length) : ∃ b o, a = some ⟨b, o, none⟩ ∧ b < w.heap.size ∧ ∀ i, i < xs.length → w.cell? ⟨b, o + i, none⟩ = some (.int .i64 (nth xs i)) := by
  obtain ⟨a', c', hv, _, _, h3⟩ := h
  injection hv with ha _ _
  rcases h3 with ⟨h3, _⟩ | ⟨b, o, h3, h4, h5⟩
  · rw [h3] at hl; cases hl
  · exact ⟨b, o, ha.trans h3, h4, h5⟩
theorem vat_block {w : World} {a : Option Addr} {n c : Nat} {xs : List Val} (h : VSl w (.slice a n c) xs) (hl : 0 < xs.length) : ∃ b o, a = some ⟨b, o, none⟩ := by
  obtain ⟨a', c', hv, _, _, h3⟩ := h
  injection hv with ha _ _
  rcases h3 with ⟨h3, _⟩ | ⟨b, o, h3, _⟩
  · rw [h3] at hl; cases hl
  · exact ⟨b, o, ha.trans h3⟩
theorem vat_cells {w : World} {b o n c : Nat} {xs : List Val} (h : VSl w (.slice (some ⟨b, o, none⟩) n c) xs) {i : Nat} (hl : i < xs.length) : At w b (o + i * 3) (nv xs i) := by
  obtain ⟨a', c', hv, _, _, h3⟩ := h
  injection hv with ha _ _
  rcases h3 with ⟨h3, _⟩ | ⟨b', o', h3, _, hat⟩
  · rw [h3] at hl; cases hl
  · rw [h3] at ha
    injection ha with ha
    injection ha with h1 h2 _
    subst h1 h2
    exact hat i hl
theorem ret_bool2 {a b : Bool} (h : a = b) : Ending.returned (.bool a) = .returned (.bool b) := by rw [h]

set_option maxHeartbeats 2000000 in
theorem asMany_two (rm ro : Int) (ai ao : Option Addr) (li ci co n : Nat) (w : World) (hn : n ≤ 1000000) :
    Calls Tryd.prog 28 #[.agg #[.int .i64 rm, .int .i64 ro, .slice ai li ci, .slice ao 2 co, .int .i64 2], .int .i64 (n : Int)] w fun e w' => e = .returned (.bool (decide (n % 2 = 0))) ∧ Below w.heap.size w w' := by
  go_enter Tryd.func28, Tryd.ntmps28
  go_wp2
  go_ret
  refine ⟨ret_bool2 ?_, below_more (Below.refl _ _) _⟩
  by_cases h : n % 2 = 0
  · rw [decide_eq_true h]; simp; omega
  · rw [decide_eq_false h]; simp; omega
set_option maxHeartbeats 2000000 in
theorem asMany_one (rm ro rc : Int) (ai ao : Option Addr) (li ci lo co n : Nat) (w : World) (hn : n ≤ 1000000) (hc : ¬ rc = 2) :
    Calls Tryd.prog 28 #[.agg #[.int .i64 rm, .int .i64 ro, .slice ai li ci, .slice ao lo co, .int .i64 rc], .int .i64 (n : Int)] w fun e w' => e = .returned (.bool (decide (n = lo))) ∧ Below w.heap.size w w' := by
  have hc' : (rc == 2) = false := by simp [hc]
  clear hc
  go_enter Tryd.func28, Tryd.ntmps28
  go_wp2
  go_ret
  refine ⟨ret_bool2 ?_, below_more (Below.refl _ _) _⟩
  by_cases h : n = lo
  · rw [decide_eq_true h]; simp; omega
  · rw [decide_eq_false h]; simp; omega

/-- nothing, and what may come out where a domain is asked for -/
def noneB (k n : Int) (s : ByteArray) : Bool := eqvB k n s 0 0 ⟨#[]⟩
def letsB (c d k n : Int) (s : ByteArray) : Bool := takesB d k n s || (noneB k n s && (c == 1))
set_option maxHeartbeats 2000000 in
theorem lets_any (rm ro rc d k n : Int) (s : ByteArray) (ai ao : Option Addr) (li ci lo co : Nat) (w : World) (hz : s.size ≤ 4611686018427387904) :
    Calls Tryd.prog 29 #[.agg #[.int .i64 rm, .int .i64 ro, .slice ai li ci, .slice ao lo co, .int .i64 rc], .int .i64 d, .agg #[.int .i64 k, .int .i64 n, .string s]] w fun e w' => e = .returned (.bool (letsB rc d k n s)) ∧ Below w.heap.size w w' := by
  have hT := fun w => takes_any d k n s w hz
  have hq := fun w => eqV k n 0 0 s ⟨#[]⟩ w
  have hg := eqgV
  unfold letsB noneB
  generalize takesB d k n s = t at *
  generalize eqvB k n s 0 0 ⟨#[]⟩ = z at *
  have HB : Hid (RBox ((w.alloc (.cells #[.int .i64 rm, .int .i64 ro, .slice ai li ci, .slice ao lo co, .int .i64 rc] 60)).alloc (.cells #[.int .i64 k, .int .i64 n, .string s] 25)) w.heap.size (.int .i64 rm) (.int .i64 ro) (.slice ai li ci) (.slice ao lo co) (.int .i64 rc)) := (RBox.new w _ _ _ _ _ 60).later (below_box _ _)
  by_cases hc : rc = 1
  · subst hc
    cases t <;> cases z
    all_goals
      go_enter Tryd.func29, Tryd.ntmps29
      go_wp2_with (go_at_call 30; refine (hT _).mono ?_; rintro e w1 ⟨rfl, hb1⟩; obtain ⟨hp, c0, c1, c2, c3, c4, _⟩ := HB.out.later hb1)
      go_ret
      exact ⟨rfl, below_next (below_more (below_box _ _) _) hb1⟩
  · have hc' : (rc == 1) = false := by simp [hc]
    rw [hc']
    clear hc
    cases t <;> cases z
    all_goals
      go_enter Tryd.func29, Tryd.ntmps29
      go_wp2_with (go_at_call 30; refine (hT _).mono ?_; rintro e w1 ⟨rfl, hb1⟩; obtain ⟨hp, c0, c1, c2, c3, c4, _⟩ := HB.out.later hb1)
      go_ret
      exact ⟨rfl, below_next (below_more (below_box _ _) _) hb1⟩

theorem fr_not {m o : Int} (h : fi m o = false) : fr m o = noRw := by
  rcases fr_cases m o with ⟨k, _, _, _, _, e⟩ | ⟨_, e, _⟩
  · rw [e] at h; cases h
  · exact e
/-- how Args ends -/
def RArgs (w : World) (m o : Int) (e : Ending) (w' : World) : Prop := ∃ v, e = .returned (.tuple #[v, .bool (fi m o)]) ∧ ISl w' v (fr m o).inn ∧ Below w.heap.size w w'
theorem isl_src {w w' : World} {a : Option Addr} {n c : Nat} {xs : List Int} (h : ISl w (.slice a n c) xs) (hb : Below w.heap.size w w') (h0 : 0 < xs.length) : ∃ ad, a = some ad ∧ ∀ j v, (cellsI xs)[j]? = some v → w'.cell? (ad.add j) = some v := by
  obtain ⟨b, o, rfl, hl, hc⟩ := isl_at h h0
  refine ⟨_, rfl, fun j v hv => ?_⟩
  have hj : j < xs.length := by have := (List.getElem?_eq_some_iff.1 hv).1; rwa [cellsI_len] at this
  rw [cellsI_at xs j hj] at hv
  injection hv with hv
  subst hv
  rw [Addr.add_mid]
  exact (hb.cell (p := ⟨b, o + j, none⟩) hl).trans (hc j hj)
theorem splice_all {L cs : List Value} (h : L.length = cs.length) : splice L 0 cs = cs := by
  simp [splice, ← h]
theorem makeI (n : Nat) (hn : n ≤ 1000000) (w : World) : (Instr.makeSlice 44 (.int .i64 (n : Int)) (.int .i64 (n : Int))).run Tryd.prog w = .ok (.slice (some ⟨w.heap.size, 0, none⟩) n n) (w.alloc (.cells (cellsI (List.replicate n 0)).toArray 3)) := by
  have h := run_make_row' (P := Tryd.prog) 44 3 (.int .i64 0) 8 Tryd.underlying44 infoI rfl .i64 .i64 n (by omega) (by omega) w
  have e : madeCells #[Value.int .i64 0] n = (cellsI (List.replicate n 0)).toArray := by
    rw [← cellsI_no, ← toList_madeCells_one]
  rw [e] at h
  exact h
theorem heap2 (w : World) (R M : Obj) : ((w.alloc R).alloc M).heap[w.heap.size + 1]? = some M := by
  have h := heap_alloc_new (w.alloc R) M
  rwa [show (w.alloc R).heap.size = w.heap.size + 1 by simp] at h
end Go.Proofs.YtpboleifllcehaaDoor
