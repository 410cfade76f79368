/- The examples hold. Condition: the table of signs lies in memory. -/
import Derived.Test.YtpboleifllcehaaDoorUH
namespace Go.Proofs.YtpboleifllcehaaDoor
open Go.RowKit Go.PlainAid Ln Go.Sort
set_option linter.unusedVariables false
set_option linter.unusedSimpArgs false

/-- a number -/
def vN (n : Int) : Val := (1, n, noB)
section
variable {P : Program} {o : Oper} {a : Act} {w : World} {K : Act → World → Prop} {Q : Exit → Act → World → Prop}
theorem wpo_storeB (ty : TypeId) (x y : Operand) (g off : Nat) (vs c : List Value) (t : TypeId) (hi : (P.info? ty).map (·.size) = some vs.length) (hl : off + vs.length ≤ c.length) (h1 : ∀ v ∈ vs, v.oneCell' = true)
    (hop : o.op = .store ty x y) (hx : a.eval x = .pointer (some ⟨g, off, none⟩)) (hy : a.eval y = .agg vs.toArray) (hg : Blk w g c t)
    (hK : ∀ w', Blk w' g (c.take off ++ vs ++ c.drop (off + vs.length)) t → Oth g g w w' → K (a.put o.dst undef) w') : o.wp P a w K Q := by
  unfold Oper.wp execOp
  simp only [hop, hx, hy, Instr.storeAt, Instr.sureAddr, Sem.run_bind, Sem.run_pure, Result.andThen_ok, run_storeB ty g off vs c t hg hi hl h1]
  exact hK _ (setRow_heap w g _ _ t _ hg) (oth_setRow g w _)
end
theorem sz1 (x : Val) (h : x.2.2.size ≤ 4611686018427387904) : SzV [x] := by
  refine ⟨fun i hi => ?_, by simp⟩
  have e : i = 0 := by simpa using hi
  subst e
  exact h
theorem sz2 (x y : Val) (h : x.2.2.size ≤ 4611686018427387904) (h' : y.2.2.size ≤ 4611686018427387904) : SzV [x, y] := by
  refine ⟨fun i hi => ?_, by simp⟩
  have e : i = 0 ∨ i = 1 := by simp at hi; omega
  rcases e with rfl | rfl
  · exact h
  · exact h'
theorem sz0 : SzV [] := ⟨fun i hi => absurd hi (Nat.not_lt_zero i), Nat.zero_le _⟩
theorem vsl_nil0 (w : World) : VSl w nilS [] := ⟨none, 0, rfl, Nat.le_refl _, by omega, .inl ⟨rfl, fun _ => rfl⟩⟩
theorem own_two (w : World) (B : Nat) (hB : B ≤ w.heap.size) (x y : Val) : OwnV (w.alloc (.cells (encV x ++ encV y).toArray 25)) B (.slice (some ⟨w.heap.size, 0, none⟩) 2 2) [x, y] :=
  ⟨rfl, .inr ⟨w.heap.size, 2, (encV x ++ encV y).toArray, rfl, hB, World.alloc_heap_new w _, Nat.le_refl _, by decide, rfl, rfl⟩⟩
theorem ownV_drew {w : World} {B : Nat} {v : Value} {xs : List Val} (h : OwnV w B v xs) : OwnV { w with drawn := w.drawn + 1 } B v xs := h.later ⟨rfl, rfl, rfl, Nat.le_refl _, fun _ _ => rfl⟩
/-- a value and a state lie here -/
def S7 (p q : Nat) (wx : World) : Prop := Blk wx p (encV (vN 1)) 25 ∧ Blk wx q (stC 2 noV nilS) 28
theorem S7.later {p q : Nat} {w w' : World} (h : S7 p q w) (hb : Below w.heap.size w w') : S7 p q w' := ⟨h.1.later hb, h.2.later hb⟩
theorem k5o : ownM 9 = true := by kernel_rfl
theorem k5m : mayD 9 ⟨vN 1, 1, [vN 5]⟩ = true := by kernel_rfl
theorem k5n : nxV 9 noV ⟨vN 1, 1, [vN 5]⟩ = vN 5 := by kernel_rfl
theorem k3m : mayD 9 ⟨vN 1, 1, [vN 3]⟩ = true := by kernel_rfl
theorem k3n : nxV 9 (vN 5) ⟨vN 1, 1, [vN 3]⟩ = vN 5 := by kernel_rfl
theorem krm : mayD 9 ⟨vN 1, 2, []⟩ = true := by kernel_rfl
theorem kro : outD (vN 5) ⟨vN 1, 2, []⟩ = [vN 5] := by kernel_rfl
theorem kso : ownM 2 = true := by kernel_rfl
theorem ksm : mayD 2 ⟨vN 1, 3, [vN 1, vN 2]⟩ = true := by kernel_rfl
theorem ksu : outD noV ⟨vN 1, 3, [vN 1, vN 2]⟩ = [yesV false] := by kernel_rfl
theorem ky5 : sameL [vN 5] [vN 5] = true := by kernel_rfl
theorem kyn : sameL [yesV false] [(3, 0, noB)] = true := by kernel_rfl
end Go.Proofs.YtpboleifllcehaaDoor
