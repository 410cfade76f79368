/- From the reading of arrays that came in to what the walks ask of them. No conditions. -/
import Derived.Test.YtbfbhdhffdddeaaDoorOpen
namespace Go.Proofs.YtbfbhdhffdddeaaDoor
open Go.ChangeShapes Go.WideShapes Go.RowKit Go.PlainAid Hx
set_option linter.unusedVariables false

theorem ints_of_cells {k : IntKind} : ∀ (cs : List Value), (∀ i, i < cs.length → ∃ z, (cs.drop i).take 1 = [.int k z] ∧ (Lit.int k z).wf = true) → ∃ zs : List Int, cs = cellsK k zs ∧ ∀ z ∈ zs, (Lit.int k z).wf = true
  | [], _ => ⟨[], rfl, fun z hz => by cases hz⟩
  | c :: r, h => by
    obtain ⟨z, hz, hw⟩ := h 0 (by simp)
    obtain ⟨zs, hr, hzs⟩ := ints_of_cells r (fun i hi => by have := h (i + 1) (by simpa using hi); simpa using this)
    simp at hz
    subst hz
    refine ⟨z :: zs, by rw [hr]; rfl, fun y hy => ?_⟩
    rcases List.mem_cons.1 hy with rfl | hy
    · exact hw
    · exact hzs y hy

theorem cells_of_arr {H : Type} {enc : TypeId × Value → H} {P : Program} {W : World} {base : Nat} {sp : Nat → Bool} {held : Bool} {fuel : Nat} {t e : TypeId} {n : Nat} {k : IntKind} {cs : List Value} {x : DataW H × List MemPlace}
    (ht : P.underlying t = some (.array n e)) (he : P.underlying e = some (.int k)) (hce : P.cellsOf e = 1) (hct : P.cellsOf t = n)
    (h : DataW.trod enc P W base sp held fuel t cs = some x) : ∃ zs : List Int, cs = cellsK k zs ∧ zs.length = n ∧ ∀ z ∈ zs, (Lit.int k z).wf = true := by
  obtain ⟨xs, m, rfl, _, hlen, hn, hel⟩ := DataW.trod_array ht h
  rw [hct] at hlen
  obtain ⟨zs, hcs, hw⟩ := ints_of_cells (k := k) cs (fun i hi => by
    have h1 := hel i (by omega)
    rw [hce, Nat.mul_one, List.getElem?_eq_getElem (by omega)] at h1
    obtain ⟨z, hz, _, hw⟩ := DataW.trod_int he h1
    exact ⟨z, hz, hw⟩)
  exact ⟨zs, hcs, by rw [← hlen, hcs, cellsK_len], hw⟩

theorem open_arr {H : Type} {enc : TypeId × Value → H} {P : Program} {W : World} {r : Reach} {b0 base : Nat} {sp : Nat → Bool} {held : Bool} {t e : TypeId} {n : Nat} {k : IntKind} {v : Value} {d : DataW H} {ps : List MemPlace}
    (ht : P.underlying t = some (.array n e)) (he : P.underlying e = some (.int k)) (hce : P.cellsOf e = 1) (hct : P.cellsOf t = n)
    (hv : Value.okWide P W r b0 t v) (hd : DataW.Trod enc P W base sp held t v d ps) : ∃ zs : List Int, v = arr k zs ∧ zs.length = n ∧ ∀ z ∈ zs, (Lit.int k z).wf = true := by
  unfold Value.okWide at hv
  rw [ht] at hv
  obtain ⟨cs, rfl, hsz, _⟩ := hv
  obtain ⟨fuel, hf⟩ := hd
  obtain ⟨zs, hcs, hl, hw⟩ := cells_of_arr ht he hce hct hf
  refine ⟨zs, ?_, hl, hw⟩
  unfold arr
  rw [← hcs]
  rfl

theorem wd_of_wf {z : Int} (h : (Lit.int .u32 z).wf = true) : Wd z := by
  have : IntKind.u32.min ≤ z ∧ z ≤ IntKind.u32.max := by simpa [Lit.wf] using h
  have h1 : IntKind.u32.min = 0 := rfl
  have h2 : IntKind.u32.max = 4294967295 := rfl
  unfold Wd; omega
theorem st_of_wf {zs : List Int} (h : zs.length = 8 ∧ ∀ z ∈ zs, (Lit.int .u32 z).wf = true) : St zs := ⟨h.1, fun z hz => wd_of_wf (h.2 z hz)⟩
theorem blk_of_wf {zs : List Int} (h : zs.length = 64 ∧ ∀ z ∈ zs, (Lit.int .u8 z).wf = true) : Blk zs := ⟨h.1, fun z hz => bounds_u8 (h.2 z hz)⟩
end Go.Proofs.YtbfbhdhffdddeaaDoor
