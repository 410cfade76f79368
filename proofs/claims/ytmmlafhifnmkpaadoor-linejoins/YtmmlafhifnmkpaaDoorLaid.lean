/- The start that meets what the rows list (two tables of Go's library that no call here reads); from the reading of texts that came in to what the walks ask of them. No conditions. -/
import Derived.Test.YtmmlafhifnmkpaaDoorLB
import Derived.ProofKit
import Derived.OpenShut
import Derived.Lay
import Derived.LaidMore
import Derived.Stop.Joined
import Derived.Deep.Slices
import Derived.Deep.Strs
import Derived.Deep.MidRow
namespace Go.Proofs.YtmmlafhifnmkpaaDoor
open Go.ChangeShapes Go.WideShapes Go.RowKit Go.PlainAid
set_option linter.unusedVariables false

theorem ownT : ownKnob Tryd.prog.godebug = none := by kernel_rfl
theorem laidOutT : laidOutB Tryd.prog = true := by kernel_rfl
/-- what the rows list -/
def laid1 : List (String × DataW Unit) := [("unicode/utf8.acceptRanges", Rows.laid_unicode_utf8_acceptRanges), ("unicode/utf8.first", Rows.laid_unicode_utf8_first)]
/-- a start that meets it -/
theorem all_met (os : Os) (args : Array Value) : laidMetH Tryd.prog laid1 ((World.laidAll Tryd.prog os laid1).forCall (fun _ _ => 0) ⟨#[], args, []⟩).memory := by
  rw [MakeChecks.laidMetH_plain _ _ _ (by kernel_rfl)]
  exact laidMet_laidAll _ (by kernel_rfl) (by kernel_rfl)
theorem choose_texts {n : Nat} {p : Nat → List UInt8 → Prop} (h : ∀ i, i < n → ∃ x, p i x) : ∃ xs : List (List UInt8), xs.length = n ∧ ∀ i, i < n → p i (nt xs i) := by
  induction n with
  | zero => exact ⟨[], rfl, fun i hi => by omega⟩
  | succ n ih =>
    obtain ⟨xs, hl, hx⟩ := ih fun i hi => h i (by omega)
    obtain ⟨y, hy⟩ := h n (by omega)
    refine ⟨xs ++ [y], by simp [hl], fun i hi => ?_⟩
    by_cases e : i < n
    · have : nt (xs ++ [y]) i = nt xs i := by
        rw [nt_eq _ i (by simp; omega), nt_eq _ i (by omega), List.getElem_append_left (by omega)]
      rw [this]; exact hx i e
    · have e : i = n := by omega
      subst e
      have : nt (xs ++ [y]) i = y := by
        rw [nt_eq _ i (by simp; omega), List.getElem_append_right (by omega)]; simp [hl]
      rw [this]; exact hy
theorem ssl_of_trod {H : Type} {enc : TypeId × Value → H} {W : World} {a : Option Addr} {len cap : Nat} {held : Bool} {d : DataW H} {p : List MemPlace}
    (h : DataW.Trod enc Tryd.prog W 0 (fun _ => true) held 23 (.slice a len cap) d p) : ∃ xs, SSl W (.slice a len cap) xs := by
  obtain ⟨fuel, hf⟩ := h
  have hce : Tryd.prog.cellsOf 9 = 1 := by kernel_rfl
  rcases Deep.open_strs Tryd.underlying23 Tryd.underlying9 hce hf with ⟨hcs, _⟩ | ⟨x, l, c, m, Sx, hcs, _, hl, hm, hmm, _, hr⟩
  · simp [Value.cells] at hcs
    obtain ⟨rfl, rfl, rfl⟩ := hcs
    exact ⟨[], none, 0, rfl, by simp, by simp, .inl ⟨rfl, fun _ => rfl⟩⟩
  · simp [Value.cells] at hcs
    obtain ⟨rfl, rfl, rfl⟩ := hcs
    unfold maxLen at hm
    have hmc : m = cap := by simpa using hmm
    subst hmc
    have each : ∀ i, i < len → ∃ y : List UInt8, W.cell? (x.add i) = some (.string (bs y)) := fun i hi => ⟨tx (Sx i), by rw [bs_tx]; exact (hr i (by omega)).1⟩
    obtain ⟨xs, hxl, hx⟩ := choose_texts each
    subst hxl
    refine ⟨xs, some x, m, rfl, by omega, by omega, ?_⟩
    by_cases h0 : xs = []
    · exact .inl ⟨h0, fun h => by cases h⟩
    · have h0' : 0 < xs.length := List.length_pos_iff.2 h0
      obtain ⟨b, off, spot⟩ := x
      have hc := hx 0 h0'
      have hspot : spot = none := by simpa [Addr.add] using World.cell?_spot hc
      subst hspot
      refine .inr ⟨b, off, rfl, ?_, fun i hi => ?_⟩
      · have := World.block_lt_of_cell? W _ hc
        simpa [Addr.add] using this
      · have h1 := hx i hi
        rw [Addr.add_mid] at h1
        exact h1
end Go.Proofs.YtmmlafhifnmkpaaDoor
