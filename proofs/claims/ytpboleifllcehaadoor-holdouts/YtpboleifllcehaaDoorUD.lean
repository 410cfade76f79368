/- Which steps may be: the contracts of the program's and of the statement's may. Conditions: sizes; the table of signs lies in memory. -/
import Derived.Test.YtpboleifllcehaaDoorUC
import Derived.Test.YtpboleifllcehaaDoorSK
namespace Go.Proofs.YtpboleifllcehaaDoor
open Go.RowKit Go.PlainAid Ln Go.Sort
set_option linter.unusedVariables false
set_option linter.unusedSimpArgs false

/-- may the document's step be? -/
def mayD (m : Int) (d : Dd) : Bool := nV d.c && (fi m d.o && fitsL (fr m d.o).inn d.a)
/-- may a step of a state of the model be? -/
def mayM (m : Int) (d : Dd) : Bool := ownM m && mayD m d
/-- its texts are of a size that the walks can bear -/
def SzV (xs : List Val) : Prop := (∀ i, i < xs.length → (nv xs i).2.2.size ≤ 4611686018427387904) ∧ xs.length ≤ 1000000
/-- the cells of a deed that is laid -/
theorem dd_cells {w : World} {q : Nat} {d : Dd} {va : Value} (h : Blk w q (ddC d va) 36) : w.cell? ⟨q, 0, none⟩ = some (.int .i64 d.c.1) ∧ w.cell? ⟨q, 1, none⟩ = some (.int .i64 d.c.2.1) ∧ w.cell? ⟨q, 2, none⟩ = some (.string d.c.2.2) ∧ w.cell? ⟨q, 3, none⟩ = some (.int .i64 d.o) ∧ w.cell? ⟨q, 4, none⟩ = some va :=
  ⟨h.cell 0 _ rfl, h.cell 1 _ rfl, h.cell 2 _ rfl, h.cell 3 _ rfl, h.cell 4 _ rfl⟩
set_option maxHeartbeats 4000000 in
theorem lmay_any (m : Int) (d : Dd) (va : Value) (w : World) (hv : VSl w va d.a) (hs : SzV d.a) (hc : d.c.2.2.size ≤ 4611686018427387904) :
    Calls Tryd.prog 14 #[.int .i64 m, .agg (ddC d va).toArray] w fun e w' => e = .returned (.bool (mayD m d)) ∧ Below w.heap.size w w' := by
  have hT := fun w => name_any d.c.1 d.c.2.1 d.c.2.2 w hc
  have HF : Hid (∀ w', Below w.heap.size w w' → Calls Tryd.prog 25 #[.int .i64 m, .int .i64 d.o, va] w' fun e w1 => e = .returned (.bool (fi m d.o && fitsL (fr m d.o).inn d.a)) ∧ Below w'.heap.size w' w1) := fun w' hb => rfits_of m d.o va d.a w' (rfind_any m d.o w') (hv.later hb) hs.1 hs.2
  have HB : Hid (Blk (w.alloc (.cells (ddC d va).toArray 36)) w.heap.size (ddC d va) 36) := Blk.new w _ _
  have e : mayD m d = (nameB d.c.1 d.c.2.1 d.c.2.2 && (fi m d.o && fitsL (fr m d.o).inn d.a)) := rfl
  rw [e]
  clear e hv hs
  obtain ⟨c0, c1, c2, c3, c4⟩ := dd_cells HB.out
  simp only [ddC] at c0 c1 c2 c3 c4 ⊢
  generalize nameB d.c.1 d.c.2.1 d.c.2.2 = b2 at *
  generalize (fi m d.o && fitsL (fr m d.o).inn d.a) = b3 at *
  cases b2
  · go_enter Tryd.func14, Tryd.ntmps14
    go_wp2_with (first
      | (go_at_call 24; refine (hT _).mono ?_; rintro e w2 ⟨rfl, hb2⟩))
    go_ret
    exact ⟨rfl, below_next (below_box _ _) hb2⟩
  go_enter Tryd.func14, Tryd.ntmps14
  go_wp2_with (first
    | (go_at_call 24; refine (hT _).mono ?_; rintro e w2 ⟨rfl, hb2⟩; obtain ⟨e0, e1, e2, e3, e4⟩ := dd_cells (HB.out.later hb2))
    | (go_at_call 25; refine (HF.out _ (below_next (below_box _ _) hb2)).mono ?_; rintro e w3 ⟨rfl, hb3⟩))
  go_ret
  exact ⟨by cases b3 <;> rfl, below_next (below_next (below_box _ _) hb2) hb3⟩

/-! ### what a step that may be is like -/
theorem fr_m {m o : Int} (h : fi m o = true) : (fr m o).m = m ∧ (fr m o).o = o := by
  rcases fr_cases m o with ⟨k, hk, h1, h2, h3, _⟩ | ⟨_, _, h2⟩
  · rw [h3]; exact ⟨h1, h2⟩
  · rw [h2] at h; cases h
theorem fitsL_len' {ds : List Int} {xs : List Val} (h : fitsL ds xs = true) : xs.length = ds.length := (of_decide_eq_true h).1
theorem fitsL_at {ds : List Int} {xs : List Val} (h : fitsL ds xs = true) {i : Nat} (hi : i < xs.length) : takesB (nth ds i) (nv xs i).1 (nv xs i).2.1 (nv xs i).2.2 = true := (of_decide_eq_true h).2 i hi
/-- what these models can do: write, read, swap -/
def okRw (r : Rw) : Bool := decide (ownM r.m = true → (r.o = 2 ∧ r.inn.length = 0) ∨ (r.o = 3 ∧ r.m = 2 ∧ r.inn.length = 2) ∨ (r.o = 1 ∧ r.inn.length = 1 ∧ 0 ≤ nth r.inn 0 ∧ nth r.inn 0 ≤ 4))
theorem okRw_all (m o : Int) : okRw (fr m o) = true := fr_all (p := okRw) (by kernel_rfl) m o
theorem may_cases {m : Int} {d : Dd} (hm : ownM m = true) (h : mayD m d = true) : (d.o = 2 ∧ d.a.length = 0) ∨ (d.o = 3 ∧ m = 2 ∧ d.a.length = 2) ∨ (d.o = 1 ∧ d.a.length = 1 ∧ nV (nv d.a 0) = true) := by
  unfold mayD at h
  simp only [Bool.and_eq_true] at h
  obtain ⟨_, hf, hl⟩ := h
  obtain ⟨e1, e2⟩ := fr_m hf
  have k : okRw (fr m d.o) = true := okRw_all m d.o
  have k := of_decide_eq_true k
  rw [e1, e2] at k
  have hlen := fitsL_len' hl
  rcases k hm with ⟨a, b⟩ | ⟨a, b, c⟩ | ⟨a, b, c⟩
  · exact .inl ⟨a, by omega⟩
  · exact .inr (.inl ⟨a, b, by omega⟩)
  · refine .inr (.inr ⟨a, by omega, ?_⟩)
    have := fitsL_at hl (i := 0) (by omega)
    rw [takesB_n c] at this
    exact this
/-- a name is ahead of nothing: no -/
theorem ltV_name {x : Val} (h : nV x = true) : ltV noV x = true := by
  have hk : x.1 = 1 ∨ x.1 = 2 := by
    unfold nV nameB at h
    simp only [Bool.and_eq_true, Bool.or_eq_true, beq_iff_eq] at h
    exact h.2
  unfold ltV noV
  rw [if_neg (by show ¬ 0 = x.1; omega)]
  exact decide_eq_true (by show 0 < x.1; omega)
/-- what a register that keeps the greatest writes -/
theorem nx_raise {m : Int} {v : Val} {d : Dd} (h1 : d.o = 1) (h9 : m = 9) (hn : nV (nv d.a 0) = true) : nxV m v d = if ltV v (nv d.a 0) = true then nv d.a 0 else v := by
  rw [nxV_9 h1 h9]
  by_cases h : v = noV
  · rw [if_pos (.inl h), h, ltV_name hn, if_pos rfl]
  · by_cases k : ltV v (nv d.a 0) = true
    · rw [if_pos (.inr k), if_pos k]
    · rw [if_neg (fun e => e.elim h k), if_neg k]
end Go.Proofs.YtpboleifllcehaaDoor
