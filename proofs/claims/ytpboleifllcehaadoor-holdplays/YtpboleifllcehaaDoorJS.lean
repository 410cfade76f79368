/- What a step of a lock or a counter may be; what is asked of the program's New and Step. No conditions. -/
import Derived.Test.YtpboleifllcehaaDoorJO
import Derived.Test.YtpboleifllcehaaDoorUK
namespace Go.Proofs.YtpboleifllcehaaDoor
open Go.RowKit Go.PlainAid Ln Go.Sort
set_option linter.unusedVariables false
set_option linter.unusedSimpArgs false

/-- what a lock and a counter can do -/
def okRwH (r : Rw) : Bool := decide (ownH r.m = true → (r.m = 7 ∧ (r.o = 11 ∨ r.o = 12) ∧ r.inn = []) ∨ (r.m = 8 ∧ r.o = 4 ∧ r.inn = [5]) ∨ (r.m = 8 ∧ r.o = 2 ∧ r.inn = []))
theorem okRwH_all (m o : Int) : okRwH (fr m o) = true := fr_all (p := okRwH) (by kernel_rfl) m o
theorem may_casesH {m : Int} {d : Dd} (hm : ownH m = true) (h : mayD m d = true) :
    (m = 7 ∧ (d.o = 11 ∨ d.o = 12) ∧ d.a.length = 0) ∨ (m = 8 ∧ d.o = 4 ∧ d.a.length = 1) ∨ (m = 8 ∧ d.o = 2 ∧ d.a.length = 0) := by
  unfold mayD at h
  simp only [Bool.and_eq_true] at h
  obtain ⟨_, hf, hl⟩ := h
  obtain ⟨e1, e2⟩ := fr_m hf
  have k := of_decide_eq_true (okRwH_all m d.o : decide _ = true)
  rw [e1, e2] at k
  have hlen := fitsL_len' hl
  rcases k hm with ⟨k1, k2, k3⟩ | ⟨k1, k2, k3⟩ | ⟨k1, k2, k3⟩
  · exact .inl ⟨k1, k2, by rw [hlen, k3]; rfl⟩
  · exact .inr (.inl ⟨k1, k2, by rw [hlen, k3]; rfl⟩)
  · exact .inr (.inr ⟨k1, k2, by rw [hlen, k3]; rfl⟩)
theorem mayH_ok {m : Int} {d : Dd} (hm : ownH m = true) (h : mayD m d = true) : OkH d := by
  intro h4
  rcases may_casesH hm h with ⟨_, k, _⟩ | ⟨_, _, k⟩ | ⟨_, k, _⟩
  · rcases k with k | k <;> omega
  · omega
  · omega
/-- what else of a state is zero -/
def OkX (m : Int) (x : VN) : Prop := (m = 7 → x.2 = 0) ∧ (m = 8 → x.1 = noV)
theorem okX_70 {x : VN} (h : x.2 = 0) : OkX 7 x := ⟨fun _ => h, fun h => absurd h (by decide)⟩
theorem okX_7 (v : Val) : OkX 7 (v, 0) := okX_70 rfl
theorem okX_8 (n : Int) : OkX 8 (noV, n) := ⟨fun h => absurd h (by decide), fun _ => rfl⟩
theorem okX_no (m : Int) : OkX m noH := ⟨fun _ => rfl, fun _ => rfl⟩
theorem okX_nx {m : Int} {x : VN} (h : OkX m x) (d : Dd) : OkX m (nxH m x d) := by
  refine ⟨fun e => ?_, fun e => ?_⟩
  · unfold nxH; rw [if_pos e]; exact h.1 e
  · unfold nxH; rw [if_neg (by omega)]; exact h.2 e
theorem okX_kept (m : Int) (past : List Dd) : OkX m (keptH m past) :=
  snoc_ind (p := fun past => OkX m (keptH m past)) (okX_no m) (fun l d ih => by rw [keptH_snoc]; exact okX_nx ih d) past
/-- New and Step are as the chapter says -/
structure HoldOK : Prop where
  new : ∀ (m : Int) (w : World), Calls Tryd.prog 8 #[.int .i64 m] w fun e w' => e = .returned (.tuple #[.agg (stH (if ownH m = true then m else 0) noH nilS).toArray, .bool (ownH m)]) ∧ Below w.heap.size w w'
  no : ∀ (m : Int) (x : VN) (c : Val) (l : Value) (o : Int) (va : Value) (xs : List Val) (w : World), Tb w → VSl w va xs → SzV xs → c.2.2.size ≤ 4611686018427387904 → (ownH m && mayD m ⟨c, o, xs⟩) = false →
    Calls Tryd.prog 13 #[.agg (stH m x l).toArray, .agg #[.int .i64 c.1, .int .i64 c.2.1, .string c.2.2], .int .i64 o, va] w fun e w' => e = .returned (.tuple #[.agg (stC 0 noV nilS).toArray, nilS, .bool false]) ∧ Below w.heap.size w w'
  yes : ∀ (m : Int) (x : VN) (c : Val) (o : Int) (va : Value) (xs : List Val) (w : World), Tb w → VSl w va xs → SzV xs → c.2.2.size ≤ 4611686018427387904 → ownH m = true → mayD m ⟨c, o, xs⟩ = true → OkX m x →
    Calls Tryd.prog 13 #[.agg (stH m x nilS).toArray, .agg #[.int .i64 c.1, .int .i64 c.2.1, .string c.2.2], .int .i64 o, va] w fun e w' => ∃ vo, e = .returned (.tuple #[.agg (stH m (nxH m x ⟨c, o, xs⟩) nilS).toArray, vo, .bool true]) ∧ OwnV w' w.heap.size vo (outHx x ⟨c, o, xs⟩) ∧ Below w.heap.size w w'
end Go.Proofs.YtpboleifllcehaaDoor
