/- From the reading of parts that came in to what the walks ask of them. No conditions. -/
import Derived.Test.YtilfmemfnheppaaDoorOpen
import Derived.Test.YtilfmemfnheppaaDoorW
import Derived.Deep.Matrix
namespace Go.Proofs.YtilfmemfnheppaaDoor
open Go.ChangeShapes Go.WideShapes Go.RowKit Go.PlainAid Hx
set_option linter.unusedVariables false

theorem psl_of_trod {H : Type} {enc : TypeId × Value → H} {W : World} {a : Option Addr} {len cap : Nat} {held : Bool} {d : DataW H} {p : List MemPlace}
    (h : DataW.Trod enc Tryd.prog W 0 (fun _ => true) held 22 (.slice a len cap) d p) : ∃ ps, PSn W (.slice a len cap) ps := by
  obtain ⟨fuel, hf⟩ := h
  rcases Deep.open_int_rows Tryd.underlying22 Tryd.underlying25 Tryd.underlying5 (by kernel_rfl) (by kernel_rfl) hf with ⟨hcs, _⟩ | ⟨x, l, c, A, L, C, Z, hcs, _, hl, hm, _, hr⟩
  · simp [Value.cells] at hcs
    obtain ⟨rfl, rfl, rfl⟩ := hcs
    exact ⟨[], none, 0, rfl, by simp, by simp, fun h => by simp at h⟩
  · simp [Value.cells] at hcs
    obtain ⟨rfl, rfl, rfl⟩ := hcs
    unfold maxLen at hm
    refine ⟨(List.range len).map fun r => (Z r).take (L r), some x, cap, by simp, by simp; omega, by simp; omega, fun h0 => ?_⟩
    have h0' : 0 < len := by simpa using h0
    obtain ⟨b, off, spot⟩ := x
    have hc := (hr 0 (by omega)).1
    have hspot : spot = none := by simpa [Addr.add] using World.cell?_spot hc
    subst hspot
    refine ⟨b, off, rfl, ?_, fun i hi => ?_⟩
    · have := World.block_lt_of_cell? W _ hc
      simpa [Addr.add] using this
    · have hi' : i < len := by simpa using hi
      obtain ⟨h1, h2, h3, h4, h5, h6, h7⟩ := hr i (by omega)
      rw [Addr.add_mid] at h1
      refine ⟨_, h1, ?_, ?_⟩
      · have e : part ((List.range len).map fun r => (Z r).take (L r)) i = (Z i).take (L i) := by
          rw [part_eq _ i (by simpa using hi')]; simp
        rw [e]
        cases hA : A i with
        | none =>
          have hc0 := h6 hA
          have hz : Z i = [] := List.eq_nil_of_length_eq_zero (by omega)
          have hl0 : L i = 0 := by omega
          rw [hz, hc0, hl0]
          exact sl_of_row (zs := []) (.inl ⟨rfl, rfl, rfl, rfl⟩)
        | some ad =>
          exact sl_of_row (.inr ⟨ad, rfl, h2, h3, h4, fun c hc => (h7 ad hA).2 c (by omega), h5⟩)
      · intro n c h
        injection h with ha hn hc
        have := h6 ha
        omega
end Go.Proofs.YtilfmemfnheppaaDoor
