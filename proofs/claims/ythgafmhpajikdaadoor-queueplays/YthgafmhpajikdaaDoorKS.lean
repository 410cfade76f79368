/- What a step of a queue or a stack may be; what is asked of the program's New and Step. No conditions. -/
import Derived.Test.YthgafmhpajikdaaDoorKO
import Derived.Test.YthgafmhpajikdaaDoorKH
import Derived.Test.YthgafmhpajikdaaDoorUK
namespace Go.Proofs.YthgafmhpajikdaaDoor
open Go.RowKit Go.PlainAid Ln Go.Sort
set_option linter.unusedVariables false
set_option linter.unusedSimpArgs false

/-- what a queue and a stack can do -/
def okRwQ (r : Rw) : Bool := decide (ownQ r.m = true → (r.o = 9 ∧ r.inn.length = 1 ∧ 0 ≤ nth r.inn 0 ∧ nth r.inn 0 ≤ 4) ∨ (r.o = 10 ∧ r.inn.length = 0))
theorem okRwQ_all (m o : Int) : okRwQ (fr m o) = true := fr_all (p := okRwQ) (by kernel_rfl) m o
theorem may_casesQ {m : Int} {d : Dd} (hm : ownQ m = true) (h : mayD m d = true) : OkQ d ∧ (d.o = 9 → nV (nv d.a 0) = true) := by
  unfold mayD at h
  simp only [Bool.and_eq_true] at h
  obtain ⟨_, hf, hl⟩ := h
  obtain ⟨e1, e2⟩ := fr_m hf
  have k := of_decide_eq_true (okRwQ_all m d.o : decide _ = true)
  rw [e1, e2] at k
  have hlen := fitsL_len' hl
  rcases k hm with ⟨k1, k2, k3⟩ | ⟨k1, k2⟩
  · refine ⟨.inl ⟨k1, by omega⟩, fun _ => ?_⟩
    have := fitsL_at hl (i := 0) (by omega)
    rw [takesB_n k3] at this
    exact this
  · exact ⟨.inr ⟨k1, by omega⟩, fun h9 => by omega⟩
/-- how a step that may be ends -/
def RStepQ (m : Int) (B : Nat) (l : List Val) (d : Dd) (w : World) (e : Ending) (w' : World) : Prop :=
  ∃ vo vl, e = .returned (.tuple #[.agg (stC m noV vl).toArray, vo, .bool true]) ∧ OwnV w' w.heap.size vo (outQ m l d) ∧ HeldV w' B vl (nxQ m l d) ∧ (∀ g, vo.ownBlock = some g → vl.ownBlock ≠ some g) ∧ Below w.heap.size w w'
/-- New and Step are as the chapter says -/
structure QueueOK : Prop where
  new : ∀ (m : Int) (w : World), Calls Tryd.prog 7 #[.int .i64 m] w fun e w' => e = .returned (.tuple #[.agg (stC (if ownQ m = true then m else 0) noV nilS).toArray, .bool (ownQ m)]) ∧ Below w.heap.size w w'
  no : ∀ (m : Int) (c : Val) (vl : Value) (l : List Val) (o : Int) (va : Value) (xs : List Val) (w : World), Tb w → VSl w vl l → VSl w va xs → SzV xs → c.2.2.size ≤ 4611686018427387904 → (ownQ m && mayD m ⟨c, o, xs⟩) = false →
    Calls Tryd.prog 12 #[.agg (stC m noV vl).toArray, .agg #[.int .i64 c.1, .int .i64 c.2.1, .string c.2.2], .int .i64 o, va] w fun e w' => e = .returned (.tuple #[.agg (stC 0 noV nilS).toArray, nilS, .bool false]) ∧ Below w.heap.size w w'
  yes : ∀ (m : Int) (B : Nat) (c : Val) (vl : Value) (l : List Val) (o : Int) (va : Value) (xs : List Val) (w : World), ownQ m = true → B ≤ w.heap.size → Tb w → HeldV w B vl l → l.length ≤ 1000 → VSl w va xs → SzV xs → c.2.2.size ≤ 4611686018427387904 → mayD m ⟨c, o, xs⟩ = true →
    Calls Tryd.prog 12 #[.agg (stC m noV vl).toArray, .agg #[.int .i64 c.1, .int .i64 c.2.1, .string c.2.2], .int .i64 o, va] w fun e w' => RStepQ m B l ⟨c, o, xs⟩ w e w'
end Go.Proofs.YthgafmhpajikdaaDoor
