/- Rows of values that may be cut out of others: what is asked is that their block is a row of values from B on. No conditions. -/
import Derived.Test.YthgafmhpajikdaaDoorUA
namespace Go.Proofs.YthgafmhpajikdaaDoor
open Go.RowKit Go.PlainAid Ln
set_option linter.unusedVariables false
set_option linter.unusedSimpArgs false

/-- a slice that holds these values, its block a row of values from B on -/
def HeldV (w : World) (B : Nat) (v : Value) (xs : List Val) : Prop := VSl w v xs ∧ ∀ g, v.ownBlock = some g → B ≤ g ∧ ∃ cur, w.heap[g]? = some (.cells cur 25 (0, 0))
theorem HeldV.vsl {w : World} {B : Nat} {v : Value} {xs : List Val} (h : HeldV w B v xs) : VSl w v xs := h.1
theorem HeldV.lt {w : World} {B : Nat} {v : Value} {xs : List Val} (h : HeldV w B v xs) : ∀ g, v.ownBlock = some g → B ≤ g ∧ g < w.heap.size := fun g hg => by
  obtain ⟨h1, cur, h2⟩ := h.2 g hg
  exact ⟨h1, (Array.getElem?_eq_some_iff.1 h2).1⟩
theorem HeldV.nil (w : World) (B : Nat) : HeldV w B (.slice none 0 0) [] := ⟨(OwnV.nil w B).vsl, fun g hg => by cases hg⟩
theorem HeldV.form {w : World} {B : Nat} {v : Value} {xs : List Val} (h : HeldV w B v xs) : ∃ a c, v = .slice a xs.length c := by
  obtain ⟨a, c, hv, _⟩ := h.1.form; exact ⟨a, c, hv⟩
theorem OwnV.held {w : World} {B : Nat} {v : Value} {xs : List Val} (h : OwnV w B v xs) : HeldV w B v xs := by
  refine ⟨h.vsl, fun g hg => ?_⟩
  obtain ⟨_, h2⟩ := h
  rcases h2 with ⟨rfl, _⟩ | ⟨g', cap, cur, rfl, hb, hp, _⟩
  · cases hg
  · injection hg with hg
    have hg : g' = g := hg
    subst hg
    exact ⟨hb, cur, hp⟩
theorem HeldV.later {w w' : World} {B : Nat} {v : Value} {xs : List Val} (h : HeldV w B v xs) (hb : Below w.heap.size w w') : HeldV w' B v xs := by
  refine ⟨h.1.later hb, fun g hg => ?_⟩
  obtain ⟨h1, cur, h2⟩ := h.2 g hg
  exact ⟨h1, cur, (hb.block g (h.lt g hg).2).trans h2⟩
theorem HeldV.base {w : World} {B B' : Nat} {v : Value} {xs : List Val} (h : HeldV w B v xs) (hB : B' ≤ B) : HeldV w B' v xs := ⟨h.1, fun g hg => ⟨Nat.le_trans hB (h.2 g hg).1, (h.2 g hg).2⟩⟩
/-- it stays while another block is written -/
theorem HeldV.off {w w' : World} {B p : Nat} {v : Value} {xs : List Val} (h : HeldV w B v xs) (ho : Oth p p w w') (hne : v.ownBlock ≠ some p) : HeldV w' B v xs := by
  refine ⟨vsl_grown h.1 ho.grown (fun _ g hg e => hne (e.trans hg.symm)), fun g hg => ?_⟩
  obtain ⟨h1, cur, h2⟩ := h.2 g hg
  have hgp : g ≠ p := fun e => hne (e ▸ hg)
  exact ⟨h1, cur, (ho.block g (h.lt g hg).2 hgp hgp).trans h2⟩
theorem HeldV.oth {w w' : World} {B p : Nat} {v : Value} {xs : List Val} {c : List Value} {t : TypeId} (h : HeldV w B v xs) (ho : Oth p p w w') (hb : Blk w p c t) (ht : t ≠ 25) : HeldV w' B v xs := by
  refine h.off ho fun e => ?_
  obtain ⟨_, cur, h2⟩ := h.2 p e
  rw [show w.heap[p]? = _ from hb] at h2
  injection h2 with h2
  injection h2 with _ h2 _
  exact ht h2
/-- .. while a row of another kind grows -/
theorem HeldV.kept {w w' : World} {B : Nat} {v : Value} {xs : List Val} {row : Option Nat} (h : HeldV w B v xs) (hg : w.grownBy w' row) (hne : ∀ g, row = some g → v.ownBlock ≠ some g) : HeldV w' B v xs := by
  refine ⟨vsl_grown h.1 hg (fun _ => hne), fun g hgv => ?_⟩
  obtain ⟨h1, cur, h2⟩ := h.2 g hgv
  exact ⟨h1, cur, (hg.block g (h.lt g hgv).2 (fun e => hne g e.symm hgv)).trans h2⟩
theorem HeldV.grownD {w w' : World} {B B' : Nat} {v u : Value} {ys : List YD} {xs : List Val} (h : HeldV w B u xs) (hy : OwnD w B' v ys) (hg : w.grownBy w' v.ownBlock) : HeldV w' B u xs := by
  refine h.kept hg fun g hv hu => ?_
  obtain ⟨_, cur, h2⟩ := h.2 g hu
  obtain ⟨_, h3⟩ := hy
  rcases h3 with ⟨rfl, _⟩ | ⟨g', cap, cur', rfl, _, hp, _⟩
  · cases hv
  · injection hv with hv
    have hv : g' = g := hv
    subst hv
    rw [hp] at h2
    injection h2 with h2
    injection h2 with _ h2 _
    exact absurd h2 (by decide)
/-- a piece of one -/
theorem HeldV.cut {w : World} {B : Nat} {a : Option Addr} {n c : Nat} {xs : List Val} (h : HeldV w B (.slice a n c) xs) (lo hi : Nat) (h1 : lo ≤ hi) (h2 : hi ≤ xs.length) : HeldV w B (sliced a lo hi c 3) ((xs.drop lo).take (hi - lo)) := by
  obtain ⟨k1, k2⟩ := slice_cutV h.1 lo hi h1 h2
  exact ⟨k1, fun g hg => h.2 g (k2 ▸ hg)⟩
end Go.Proofs.YthgafmhpajikdaaDoor
