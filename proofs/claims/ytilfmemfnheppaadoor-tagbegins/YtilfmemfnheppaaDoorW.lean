/- The walk of ShaParts. Conditions: the table holds the rounds' numbers. -/
import Derived.Test.YtilfmemfnheppaaDoorT
import Derived.Test.YtilfmemfnheppaaDoorU
namespace Go.Proofs.YtilfmemfnheppaaDoor
open Go.RowKit Hx
set_option linter.unusedVariables false

/-- in the world w the slice v has the parts ps, and a part that is nil has no bytes -/
def PSn (w : World) (v : Value) (ps : List (List Int)) : Prop :=
  ∃ (a : Option Addr) (cap : Nat), v = .slice a ps.length cap ∧ ps.length ≤ 9223372036854775807 ∧ ps.length ≤ cap ∧
    (0 < ps.length → ∃ b off, a = some ⟨b, off, none⟩ ∧ b < w.heap.size ∧ ∀ i, i < ps.length → ∃ u, w.cell? ⟨b, off + i, none⟩ = some u ∧ Sl w u (part ps i) ∧ ∀ n c, u = .slice none n c → n = 0 ∧ c = 0)
theorem PSn.psl {w : World} {v : Value} {ps : List (List Int)} (h : PSn w v ps) : PSl w v ps := by
  obtain ⟨a, cap, hv, h1, h2, h3⟩ := h
  refine ⟨a, cap, hv, h1, h2, fun h0 => ?_⟩
  obtain ⟨b, off, ha, hb, hc⟩ := h3 h0
  exact ⟨b, off, ha, hb, fun i hi => by obtain ⟨u, h4, h5, _⟩ := hc i hi; exact ⟨u, h4, h5⟩⟩
theorem PSn.later {w w' : World} {v : Value} {ps : List (List Int)} (h : PSn w v ps) (hb : Below w.heap.size w w') : PSn w' v ps := by
  obtain ⟨a, cap, hv, h1, h2, h3⟩ := h
  refine ⟨a, cap, hv, h1, h2, fun h0 => ?_⟩
  obtain ⟨b, off, ha, hbs, hc⟩ := h3 h0
  refine ⟨b, off, ha, Nat.lt_of_lt_of_le hbs hb.size, fun i hi => ?_⟩
  obtain ⟨u, h4, h5, h6⟩ := hc i hi
  exact ⟨u, (hb.cell (p := ⟨b, off + i, none⟩) hbs).trans h4, h5.later hb, h6⟩

theorem own_nil_form {w : World} {base : Nat} {v : Value} {xs : List Int} (h : Hx.Own w base v xs) : ∀ n c, v = .slice none n c → n = 0 ∧ c = 0 := by
  intro n c hv
  rcases h.2 with ⟨h, _⟩ | ⟨g, cap, cur, h, _⟩
  · rw [hv] at h; injection h with _ h1 h2; exact ⟨h1, h2⟩
  · rw [hv] at h; injection h with h0 _ _; cases h0

/-- a part as a list of cells, empty or not -/
theorem sl_cells' {w : World} {a : Option Addr} {n c : Nat} {xs : List Int} (h : Sl w (.slice a n c) xs) (ad : Addr) (ha : a = some ad) :
    ∀ j u, (cells8 xs)[j]? = some u → w.cell? (ad.add j) = some u := by
  intro j u hj
  have hj' : j < xs.length := by have := (List.getElem?_eq_some_iff.1 hj).1; rw [cells8_len] at this; exact this
  obtain ⟨b, off, cap, hv, _, hc⟩ := sl_cells h (by omega)
  cases ha
  cases hv
  exact hc j u hj
end Go.Proofs.YtilfmemfnheppaaDoor
