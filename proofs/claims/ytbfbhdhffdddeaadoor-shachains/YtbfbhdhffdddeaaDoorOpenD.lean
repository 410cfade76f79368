/- From the reading of blocks that came in to what the walks ask of them. No conditions. -/
import Derived.Test.YtbfbhdhffdddeaaDoorOpenB
import Derived.Test.YtbfbhdhffdddeaaDoorX
import Derived.Deep.Slices
namespace Go.Proofs.YtbfbhdhffdddeaaDoor
open Go.ChangeShapes Go.WideShapes Go.RowKit Go.PlainAid Hx
set_option linter.unusedVariables false

theorem Tryd.cells30 : Tryd.prog.cellsOf 30 = 64 := by kernel_rfl
theorem bsl_of_trod {H : Type} {enc : TypeId × Value → H} {W : World} {a : Option Addr} {len cap : Nat} {held : Bool} {d : DataW H} {p : List MemPlace}
    (h : DataW.Trod enc Tryd.prog W 0 (fun _ => true) held 51 (.slice a len cap) d p) : ∃ bs, BSl W (.slice a len cap) bs := by
  obtain ⟨fuel, hf⟩ := h
  rcases Deep.open_slice Tryd.underlying51 hf with ⟨hcs, _⟩ | ⟨x, l, c, m, n, D, Pl, hcs, _, hl, hm, hmm, _, hr⟩
  · simp [Value.cells] at hcs
    obtain ⟨rfl, rfl, rfl⟩ := hcs
    exact ⟨[], none, 0, rfl, by simp, by simp, by simp, fun h => by simp at h⟩
  · simp [Value.cells] at hcs
    obtain ⟨rfl, rfl, rfl⟩ := hcs
    simp only [if_true] at hmm
    subst hmm
    unfold maxLen at hm
    rw [Tryd.cells30] at hr
    have each : ∀ i, i < len → ∃ zs : List Int, W.cells? 0 (x.add (i * 64)) 64 = some (cellsK .u8 zs) ∧ Blk zs := by
      intro i hi
      obtain ⟨cs', h1, h2⟩ := hr i (by omega)
      obtain ⟨zs, rfl, h3, h4⟩ := cells_of_arr Tryd.underlying30 Tryd.underlying5 (by kernel_rfl) (by kernel_rfl) h2
      exact ⟨zs, h1, blk_of_wf ⟨h3, h4⟩⟩
    obtain ⟨Z, hZ⟩ := Deep.choose_lt each
    refine ⟨(List.range len).map Z, some x, _, by simp; rfl, by simp; omega, by simp; omega, ?_, fun h0 => ?_⟩
    · intro b hb
      simp only [List.mem_map, List.mem_range] at hb
      obtain ⟨i, hi, rfl⟩ := hb
      exact (hZ i hi).2
    have h0' : 0 < len := by simpa using h0
    obtain ⟨b, off, spot⟩ := x
    have hcells : ∀ i, i < len → ∀ j v, (cellsK .u8 (Z i))[j]? = some v → W.cell? (((⟨b, off, spot⟩ : Addr).add (i * 64)).add j) = some v := by
      intro i hi j v hj
      obtain ⟨_, hlen, hc⟩ := World.cells?_some (hZ i hi).1
      have hj' : j < 64 := by rw [← hlen]; exact (List.getElem?_eq_some_iff.1 hj).1
      rw [hc j hj']; exact hj
    have hc := hcells 0 h0' 0 (.int .u8 (nth (Z 0) 0)) (cellsK_at .u8 (Z 0) 0 (by have := (hZ 0 h0').2.1; omega))
    have hspot : spot = none := by
      have := World.cell?_spot hc
      rw [Nat.zero_mul] at this
      simpa [Addr.add] using this
    subst hspot
    refine ⟨b, off, rfl, ?_, fun i hi => ?_⟩
    · have := World.block_lt_of_cell? W _ hc
      rw [Addr.add_mid, Addr.add_mid] at this
      exact this
    · have hi' : i < len := by simpa using hi
      rw [part_eq _ i hi, List.getElem_map, List.getElem_range]
      intro j v hj
      have := hcells i hi' j v hj
      rw [Addr.add_mid, Addr.add_mid] at this
      exact this
end Go.Proofs.YtbfbhdhffdddeaaDoor
