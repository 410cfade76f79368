/- From the reading of a call that came in (a key, a domain, a value) to what the walks ask of it. No conditions. -/
import Derived.Test.YtilfmemfnheppaaDoorOpen
import Derived.Test.YtilfmemfnheppaaDoorTK
import Derived.Lib.SmallJoins
namespace Go.Proofs.YtilfmemfnheppaaDoor
open Go.ChangeShapes Go.WideShapes Go.RowKit Go.PlainAid Hx
set_option linter.unusedVariables false

theorem open_call {H : Type} {enc : TypeId × Value → H} {W : World} {r : Reach} {b0 : Nat} {held : Bool} {v : Value} {d : DataW H} {ps : List MemPlace}
    (hv : Value.okWide Tryd.prog W r b0 38 v) (hd : DataW.Trod enc Tryd.prog W 0 (fun _ => true) held 38 v d ps) :
    ∃ (a : Option Addr) (n c : Nat) (D X : ByteArray) (zs : List Int), v = .agg #[.slice a n c, .string D, .string X] ∧ Sl W (.slice a n c) zs ∧ Nf (.slice a n c) ∧ D.size ≤ 9223372036854775807 ∧ X.size ≤ 9223372036854775807 := by
  obtain ⟨v0, v1, v2, y0, y1, y2, m, rfl, _, _, h0, h1, h2⟩ := Go.Joins.open_agg3 Tryd.underlying38 (by kernel_rfl) (by kernel_rfl) hv hd
  obtain ⟨D, hD, _, sD⟩ := DataW.trod_string Tryd.underlying9 h1
  obtain ⟨X, hX, _, sX⟩ := DataW.trod_string Tryd.underlying9 h2
  simp at hD hX
  subst hD hX
  unfold maxLen at sD sX
  rcases open_ints Tryd.underlying25 Tryd.underlying5 (by kernel_rfl) h0 with ⟨hcs, _⟩ | ⟨x, l, c, zs, hcs, _, hl, hm, hz, _, hcell, hwz⟩
  · simp at hcs
    subst hcs
    exact ⟨_, _, _, D, X, _, rfl, sl_of_row (zs := []) (.inl ⟨rfl, rfl, rfl, rfl⟩), (fun n c h => by injection h with _ h1 h2; exact ⟨h1.symm, h2.symm⟩), sD, sX⟩
  · simp at hcs
    subst hcs
    exact ⟨_, _, _, D, X, _, rfl, sl_of_row (.inr ⟨_, rfl, hl, hm, by simpa using hz, hcell, hwz⟩), (fun n c h => by cases h), sD, sX⟩
end Go.Proofs.YtilfmemfnheppaaDoor
