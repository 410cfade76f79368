/- What a step of a set may be; what is asked of the program's New and Step. No conditions. -/
import Derived.Test.YtgiefgmhjcjabaaDoorGO
import Derived.Test.YtgiefgmhjcjabaaDoorUK
namespace Go.Proofs.YtgiefgmhjcjabaaDoor
open Go.RowKit Go.PlainAid Ln Go.Sort
set_option linter.unusedVariables false
set_option linter.unusedSimpArgs false

/-- what a set can do -/
def okRwB (r : Rw) : Bool := decide (ownB r.m = true → (r.o = 4 ∨ r.o = 5 ∨ r.o = 6) ∧ r.inn.length = 1 ∧ 0 ≤ nth r.inn 0 ∧ nth r.inn 0 ≤ 4)
theorem okRwB_all (m o : Int) : okRwB (fr m o) = true := fr_all (p := okRwB) (by kernel_rfl) m o
theorem may_casesB {m : Int} {d : Dd} (hm : ownB m = true) (h : mayD m d = true) : OkB d ∧ nV (nv d.a 0) = true := by
  unfold mayD at h
  simp only [Bool.and_eq_true] at h
  obtain ⟨_, hf, hl⟩ := h
  obtain ⟨e1, e2⟩ := fr_m hf
  have k := of_decide_eq_true (okRwB_all m d.o : decide _ = true)
  rw [e1, e2] at k
  have hlen := fitsL_len' hl
  obtain ⟨k1, k2, k3⟩ := k hm
  have h1 : d.a.length = 1 := by omega
  refine ⟨⟨k1, h1⟩, ?_⟩
  have := fitsL_at hl (i := 0) (by omega)
  rw [takesB_n k3] at this
  exact this
theorem insL_len1 (x : Val) (l : List Val) : (addB x l).length ≤ l.length + 1 := by
  unfold addB
  split
  · omega
  · rw [insL_len]; omega
theorem nxB_len (l : List Val) (d : Dd) : (nxB l d).length ≤ l.length + 1 := by
  unfold nxB
  split
  · exact insL_len1 _ _
  · split
    · have := List.length_filter_le (fun y => decide (y ≠ nv d.a 0)) l
      unfold delB; omega
    · omega
theorem keptB_len (past : List Dd) : (keptB past).length ≤ past.length := by
  refine list_snoc (p := fun past => (keptB past).length ≤ past.length) (Nat.le_refl _) (fun l d ih => ?_) past
  rw [keptB_snoc, List.length_append]
  have := nxB_len (keptB l) d
  simp; omega
/-- how a step that may be ends -/
def RStepB (B : Nat) (l : List Val) (d : Dd) (w : World) (e : Ending) (w' : World) : Prop :=
  ∃ vo vl, e = .returned (.tuple #[.agg (stC 3 noV vl).toArray, vo, .bool true]) ∧ OwnV w' w.heap.size vo (outB l d) ∧ OwnV w' B vl (nxB l d) ∧ (∀ g, vo.ownBlock = some g → vl.ownBlock ≠ some g) ∧ Below w.heap.size w w'
/-- New and Step are as the chapter says -/
structure BagOK : Prop where
  new : ∀ (m : Int) (w : World), Calls Tryd.prog 7 #[.int .i64 m] w fun e w' => e = .returned (.tuple #[.agg (stC (if ownB m = true then m else 0) noV nilS).toArray, .bool (ownB m)]) ∧ Below w.heap.size w w'
  no : ∀ (m : Int) (c : Val) (vl : Value) (l : List Val) (o : Int) (va : Value) (xs : List Val) (w : World), Tb w → VSl w vl l → VSl w va xs → SzV xs → c.2.2.size ≤ 4611686018427387904 → (ownB m && mayD m ⟨c, o, xs⟩) = false →
    Calls Tryd.prog 12 #[.agg (stC m noV vl).toArray, .agg #[.int .i64 c.1, .int .i64 c.2.1, .string c.2.2], .int .i64 o, va] w fun e w' => e = .returned (.tuple #[.agg (stC 0 noV nilS).toArray, nilS, .bool false]) ∧ Below w.heap.size w w'
  yes : ∀ (B : Nat) (c : Val) (vl : Value) (l : List Val) (o : Int) (va : Value) (xs : List Val) (w : World), B ≤ w.heap.size → Tb w → OwnV w B vl l → Srt l → l.length ≤ 1000 → VSl w va xs → SzV xs → c.2.2.size ≤ 4611686018427387904 → mayD 3 ⟨c, o, xs⟩ = true →
    Calls Tryd.prog 12 #[.agg (stC 3 noV vl).toArray, .agg #[.int .i64 c.1, .int .i64 c.2.1, .string c.2.2], .int .i64 o, va] w fun e w' => RStepB B l ⟨c, o, xs⟩ w e w'
end Go.Proofs.YtgiefgmhjcjabaaDoor
