/- Rows of values in memory; the contract of what refuses great ones. No conditions. -/
import Derived.Test.YtoefcbhcceikoaaDoorVC
namespace Go.Proofs.YtoefcbhcceikoaaDoor
open Go.RowKit Go.PlainAid
set_option linter.unusedVariables false

/-- a value: the kind, the number, the text -/
abbrev Val := Int × Int × ByteArray
/-- the i-th value of a row -/
def nv (xs : List Val) (i : Nat) : Val := xs.getD i (0, 0, noB)
theorem nv_eq (xs : List Val) (i : Nat) (h : i < xs.length) : nv xs i = xs[i] := by unfold nv; rw [List.getD_eq_getElem?_getD, List.getElem?_eq_getElem h]; rfl
/-- a value's three cells at a place -/
def At (w : World) (b o : Nat) (x : Val) : Prop := w.cell? ⟨b, o, none⟩ = some (.int .i64 x.1) ∧ w.cell? ⟨b, o + 1, none⟩ = some (.int .i64 x.2.1) ∧ w.cell? ⟨b, o + 2, none⟩ = some (.string x.2.2)
/-- a slice that holds these values -/
def VSl (w : World) (v : Value) (xs : List Val) : Prop :=
  ∃ (a : Option Addr) (c : Nat), v = .slice a xs.length c ∧ xs.length ≤ c ∧ c ≤ 9223372036854775807 ∧ ((xs = [] ∧ (a = none → c = 0)) ∨ ∃ b o, a = some ⟨b, o, none⟩ ∧ b < w.heap.size ∧ ∀ i, i < xs.length → At w b (o + i * 3) (nv xs i))
theorem At.later {w w' : World} {b o : Nat} {x : Val} (h : At w b o x) (hl : b < w.heap.size) (hb : Below w.heap.size w w') : At w' b o x :=
  ⟨(hb.cell (p := ⟨b, o, none⟩) hl).trans h.1, (hb.cell (p := ⟨b, o + 1, none⟩) hl).trans h.2.1, (hb.cell (p := ⟨b, o + 2, none⟩) hl).trans h.2.2⟩
theorem VSl.later {w w' : World} {v : Value} {xs : List Val} (h : VSl w v xs) (hb : Below w.heap.size w w') : VSl w' v xs := by
  obtain ⟨a, c, h1, h2, h3, h4⟩ := h
  refine ⟨a, c, h1, h2, h3, h4.imp id ?_⟩
  rintro ⟨b, o, e, hl, hc⟩
  exact ⟨b, o, e, Nat.lt_of_lt_of_le hl hb.size, fun i hi => (hc i hi).later hl hb⟩
/-- the values of a row are few, their texts short -/
def FewV (xs : List Val) : Prop := xs.length ≤ 40 ∧ ∀ i, i < xs.length → (nv xs i).2.2.size ≤ 200
def RGreat (w : World) (xs : List Val) (e : Ending) (w' : World) : Prop := ∃ b, e = .returned (.bool b) ∧ (b = false → FewV xs) ∧ Below w.heap.size w w'

end Go.Proofs.YtoefcbhcceikoaaDoor
