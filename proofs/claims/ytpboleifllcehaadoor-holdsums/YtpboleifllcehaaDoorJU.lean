/- A list of numbers that came in, opened; HoldSums at what came in. No conditions. -/
import Derived.Test.YtpboleifllcehaaDoorJT
import Derived.Test.YtpboleifllcehaaDoorUO
namespace Go.Proofs.YtpboleifllcehaaDoor
open Go.ChangeShapes Go.WideShapes Go.RowKit Go.PlainAid Ln
set_option linter.unusedVariables false
set_option linter.unusedSimpArgs false

theorem open_i64s {H : Type} {enc : TypeId × Value → H} {W : World} {r : Reach} {b0 : Nat} {held : Bool} {v : Value} {d : DataW H} {ps : List MemPlace}
    (hv : Value.okWide Tryd.prog W r b0 47 v) (hd : DataW.Trod enc Tryd.prog W 0 (fun _ => true) held 47 v d ps) : ∃ xs : List Int, ISl W v xs := by
  obtain ⟨a, len, cap, rfl⟩ := okWide_slice Tryd.underlying47 hv
  obtain ⟨fuel, hf⟩ := hd
  rcases open_ints Tryd.underlying47 Tryd.underlying2 (by kernel_rfl) hf with ⟨hcs, _⟩ | ⟨x, l, c, zs, hcs, _, hl, hm, hz, _, hcell, hwz⟩
  · simp [Value.cells] at hcs
    obtain ⟨rfl, rfl, rfl⟩ := hcs
    exact ⟨[], ISl.nil W⟩
  · simp [Value.cells] at hcs
    obtain ⟨rfl, rfl, rfl⟩ := hcs
    have hzc : zs.length = cap := by simpa using hz
    have hlen : (zs.take len).length = len := by rw [List.length_take]; omega
    unfold maxLen at hm
    by_cases h0 : len = 0
    · subst h0
      exact ⟨[], some x, cap, by simp, by simp, by omega, .inl ⟨rfl, fun h => by cases h⟩⟩
    · obtain ⟨b, off, spot⟩ := x
      have hc := hcell 0 (by omega)
      have hspot : spot = none := by simpa [Addr.add] using World.cell?_spot hc
      subst hspot
      refine ⟨zs.take len, some ⟨b, off, none⟩, cap, by rw [hlen], by omega, by omega, .inr ⟨b, off, rfl, ?_, fun i hi => ?_⟩⟩
      · have := World.block_lt_of_cell? W _ hc
        simpa [Addr.add] using this
      · have h1 := hcell i (by omega)
        rw [nth_eq _ i hi, List.getElem_take]
        rw [List.getD_eq_getElem?_getD, List.getElem?_eq_getElem (by omega)] at h1
        rw [Addr.add_mid] at h1
        exact h1
theorem law_sumsI (K : HoldOK) (v : Value) (xs : List Int) (y : Int) (hy : (Lit.int .u8 y).wf = true) (w : World) (ht : Tb w) (hv : ISl w v xs) : Calls Tryd.prog 6 #[v, .int .u8 y] w fun e w' => e = .returned (.bool true) ∧ Below w.heap.size w w' := by
  have h : 0 ≤ y ∧ y ≤ 255 := by
    simp [Lit.wf] at hy
    have h1 : IntKind.u8.min = 0 := by decide
    have h2 : IntKind.u8.max = 255 := by decide
    omega
  obtain ⟨r, rfl⟩ : ∃ r : Nat, y = (r : Int) := ⟨y.toNat, by omega⟩
  exact law_sumsH K v xs r (by omega) w ht hv
end Go.Proofs.YtpboleifllcehaaDoor
