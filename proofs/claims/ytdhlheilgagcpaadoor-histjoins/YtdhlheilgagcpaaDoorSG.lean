/- When values are what may be handed in; the contracts of Fits, the program's and the document's. Conditions: texts of at most 2^62 bytes, at most a million values; the table lies in memory. -/
import Derived.Test.YtdhlheilgagcpaaDoorSE
import Derived.Lib.QuietBelow
namespace Go.Proofs.YtdhlheilgagcpaaDoor
open Go.RowKit Go.PlainAid Go.Sort
set_option linter.unusedVariables false
set_option linter.unusedSimpArgs false

/-- are the values of these domains? -/
def fitsL (ds : List Int) (xs : List Val) : Bool := decide (xs.length = ds.length ∧ ∀ i, i < xs.length → takesB (nth ds i) (nv xs i).1 (nv xs i).2.1 (nv xs i).2.2 = true)
theorem fitsL_len {ds : List Int} {xs : List Val} (h : ¬ xs.length = ds.length) : fitsL ds xs = false := decide_eq_false (fun e => h e.1)
theorem fitsL_no {ds : List Int} {xs : List Val} {k : Nat} (hk : k < xs.length) (h : takesB (nth ds k) (nv xs k).1 (nv xs k).2.1 (nv xs k).2.2 = false) : fitsL ds xs = false := decide_eq_false (fun e => by have := e.2 k hk; rw [h] at this; cases this)
theorem fitsL_all {ds : List Int} {xs : List Val} (hl : xs.length = ds.length) (h : ∀ i, i < xs.length → takesB (nth ds i) (nv xs i).1 (nv xs i).2.1 (nv xs i).2.2 = true) : fitsL ds xs = true := decide_eq_true ⟨hl, h⟩
/-- what the document's table says of what comes out: the domain (-1: nothing comes, 99: pairs), and whether it may be nothing -/
def dO (r : Rw) : Int := if r.m = 0 then 0 else if r.out = [] then -1 else if r.c = 2 then 99 else nth r.out 0
def dM (r : Rw) : Bool := r.c == 1
/-- how the document's Find ends -/
def RRef (w : World) (m o : Int) (e : Ending) (w' : World) : Prop := ∃ vi, e = .returned (.agg #[vi, .int .i64 (dO (fr m o)), .bool (dM (fr m o)), .bool (fi m o)]) ∧ ISl w' vi (fr m o).inn ∧ Below w.heap.size w w'

end Go.Proofs.YtdhlheilgagcpaaDoor
