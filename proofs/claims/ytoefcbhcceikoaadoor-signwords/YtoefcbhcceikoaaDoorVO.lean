/- From the reading of values that came in to what the walks ask of them. No conditions. -/
import Derived.Test.YtoefcbhcceikoaaDoorVG
import Derived.Lib.SmallJoins
import Derived.Deep.Slices
import Derived.Deep.Strs
import Derived.Deep.MidRow
import Derived.ProofKit
import Derived.OpenShut
namespace Go.Proofs.YtoefcbhcceikoaaDoor
open Go.ChangeShapes Go.WideShapes Go.RowKit Go.PlainAid
set_option linter.unusedVariables false

theorem laidOutV : laidOutB Tryd.prog = true := by kernel_rfl

theorem open_value {H : Type} {enc : TypeId × Value → H} {W : World} {r : Reach} {b0 : Nat} {held : Bool} {v : Value} {d : DataW H} {ps : List MemPlace}
    (hv : Value.okWide Tryd.prog W r b0 29 v) (hd : DataW.Trod enc Tryd.prog W 0 (fun _ => true) held 29 v d ps) :
    ∃ (k n : Int) (s : ByteArray), v = .agg #[.int .i64 k, .int .i64 n, .string s] ∧ (Lit.int .i64 k).wf = true ∧ (Lit.int .i64 n).wf = true ∧ s.size ≤ 9223372036854775807 := by
  obtain ⟨v0, v1, v2, y0, y1, y2, m, rfl, _, _, h0, h1, h2⟩ := Go.Joins.open_agg3 Tryd.underlying29 (by kernel_rfl) (by kernel_rfl) hv hd
  obtain ⟨k, hk, _, wk⟩ := DataW.trod_int Tryd.underlying3 h0
  obtain ⟨n, hn, _, wn⟩ := DataW.trod_int Tryd.underlying2 h1
  obtain ⟨s, hs, _, ws⟩ := DataW.trod_string Tryd.underlying9 h2
  simp at hk hn hs
  subst hk hn hs
  exact ⟨k, n, s, rfl, wk, wn, ws⟩

theorem choose_vals {n : Nat} {p : Nat → Val → Prop} (h : ∀ i, i < n → ∃ x, p i x) : ∃ xs : List Val, xs.length = n ∧ ∀ i, i < n → p i (nv xs i) := by
  induction n with
  | zero => exact ⟨[], rfl, fun i hi => by omega⟩
  | succ n ih =>
    obtain ⟨xs, hl, hx⟩ := ih fun i hi => h i (by omega)
    obtain ⟨y, hy⟩ := h n (by omega)
    refine ⟨xs ++ [y], by simp [hl], fun i hi => ?_⟩
    by_cases e : i < n
    · have : nv (xs ++ [y]) i = nv xs i := by
        rw [nv_eq _ i (by simp; omega), nv_eq _ i (by omega), List.getElem_append_left (by omega)]
      rw [this]; exact hx i e
    · have e : i = n := by omega
      subst e
      have : nv (xs ++ [y]) i = y := by
        rw [nv_eq _ i (by simp; omega), List.getElem_append_right (by omega)]; simp [hl]
      rw [this]; exact hy

theorem vsl_of_trod {H : Type} {enc : TypeId × Value → H} {W : World} {a : Option Addr} {len cap : Nat} {held : Bool} {d : DataW H} {p : List MemPlace}
    (h : DataW.Trod enc Tryd.prog W 0 (fun _ => true) held 39 (.slice a len cap) d p) : ∃ xs, VSl W (.slice a len cap) xs := by
  obtain ⟨fuel, hf⟩ := h
  have hce : Tryd.prog.cellsOf 29 = 3 := by kernel_rfl
  rcases Deep.open_slice Tryd.underlying39 hf with ⟨hcs, _⟩ | ⟨x, l, c, m, n, D, Pl, hcs, _, hl, hm, hmm, _, hr⟩
  · simp [Value.cells] at hcs
    obtain ⟨rfl, rfl, rfl⟩ := hcs
    exact ⟨[], none, 0, rfl, by simp, by simp, .inl ⟨rfl, fun _ => rfl⟩⟩
  · simp [Value.cells] at hcs
    obtain ⟨rfl, rfl, rfl⟩ := hcs
    unfold maxLen at hm
    have hmc : m = cap := by simpa using hmm
    subst hmc
    have each : ∀ i, i < len → ∃ y : Val, W.cell? (x.add (i * 3)) = some (.int .i64 y.1) ∧ W.cell? (x.add (i * 3 + 1)) = some (.int .i64 y.2.1) ∧ W.cell? (x.add (i * 3 + 2)) = some (.string y.2.2) := by
      intro i hi
      obtain ⟨cs', h1, h2⟩ := hr i (by omega)
      rw [hce] at h1
      obtain ⟨_, hlen, hcell⟩ := World.cells?_some h1
      obtain ⟨y0, y1, y2, k, _, _, g0, g1, g2⟩ := Deep.trod_struct3 Tryd.underlying29 h2
      match cs', hlen with
      | [v0, v1, v2], _ =>
        have c0 : Tryd.prog.cellsOf 3 = 1 := by kernel_rfl
        have c1 : Tryd.prog.cellsOf 2 = 1 := by kernel_rfl
        have c2 : Tryd.prog.cellsOf 9 = 1 := by kernel_rfl
        simp [c0, c1, c2] at g0 g1 g2
        obtain ⟨k, hk, _, wk⟩ := DataW.trod_int Tryd.underlying3 g0
        obtain ⟨n, hn, _, wn⟩ := DataW.trod_int Tryd.underlying2 g1
        obtain ⟨s, hs, _, ws⟩ := DataW.trod_string Tryd.underlying9 g2
        simp at hk hn hs
        subst hk hn hs
        have e0 := hcell 0 (by omega)
        have e1 := hcell 1 (by omega)
        have e2 := hcell 2 (by omega)
        rw [Deep.add_add] at e0 e1 e2
        exact ⟨(k, n, s), by simpa using e0, by simpa using e1, by simpa using e2⟩
    obtain ⟨xs, hxl, hx⟩ := choose_vals each
    subst hxl
    refine ⟨xs, some x, m, rfl, by omega, by omega, ?_⟩
    by_cases h0 : xs = []
    · exact .inl ⟨h0, fun h => by cases h⟩
    · have h0' : 0 < xs.length := List.length_pos_iff.2 h0
      obtain ⟨b, off, spot⟩ := x
      have hc := (hx 0 h0').1
      have hspot : spot = none := by simpa [Addr.add] using World.cell?_spot hc
      subst hspot
      refine .inr ⟨b, off, rfl, ?_, fun i hi => ?_⟩
      · have := World.block_lt_of_cell? W _ hc
        simpa [Addr.add] using this
      · obtain ⟨h1, h2, h3⟩ := hx i hi
        rw [Addr.add_mid] at h1 h2 h3
        exact ⟨h1, by rw [Nat.add_assoc]; exact h2, by rw [Nat.add_assoc]; exact h3⟩
end Go.Proofs.YtoefcbhcceikoaaDoor
