/- Rows of operations in memory, and rows that a call owns; an append of one operation. No conditions but sizes. -/
import Derived.Test.YtgdegbmakbfaaaaDoorPM
namespace Go.Proofs.YtgdegbmakbfaaaaDoor
open Go.RowKit Go.PlainAid Ln
set_option linter.unusedVariables false
set_option linter.unusedSimpArgs false

/-- an operation with the slices of its lists -/
abbrev YO := Opn × Value × Value
def encO (y : YO) : List Value := opC y.1 y.2.1 y.2.2
def cellsO (ys : List YO) : List Value := ys.flatMap encO
def noO : YO := (noOp, nilS, nilS)
def yo (ys : List YO) (i : Nat) : YO := ys.getD i noO
theorem encO_len (y : YO) : (encO y).length = 12 := rfl
theorem yo_cons (x : YO) (xs : List YO) (i : Nat) : yo (x :: xs) (i + 1) = yo xs i := by unfold yo; simp
theorem yo_zero (x : YO) (xs : List YO) : yo (x :: xs) 0 = x := by unfold yo; simp
theorem yo_eq (xs : List YO) (i : Nat) (h : i < xs.length) : yo xs i = xs[i] := by unfold yo; rw [List.getD_eq_getElem?_getD, List.getElem?_eq_getElem h]; rfl
theorem yo_left (xs ys : List YO) (i : Nat) (h : i < xs.length) : yo (xs ++ ys) i = yo xs i := by
  rw [yo_eq _ i (by rw [List.length_append]; omega), yo_eq _ i h, List.getElem_append_left h]
theorem yo_right (xs ys : List YO) (i : Nat) (h : i < ys.length) : yo (xs ++ ys) (xs.length + i) = yo ys i := by
  rw [yo_eq _ _ (by rw [List.length_append]; omega), yo_eq _ i h, List.getElem_append_right (by omega)]; simp
theorem cellsO_cons (x : YO) (xs : List YO) : cellsO (x :: xs) = encO x ++ cellsO xs := rfl
theorem cellsO_app (xs ys : List YO) : cellsO (xs ++ ys) = cellsO xs ++ cellsO ys := by simp [cellsO]
theorem cellsO_len : ∀ xs : List YO, (cellsO xs).length = xs.length * 12
  | [] => rfl
  | x :: xs => by rw [cellsO_cons, List.length_append, cellsO_len xs, encO_len, List.length_cons]; omega
theorem cellsO_one : ∀ xs : List YO, (∀ i, i < xs.length → (yo xs i).2.1.oneCell' = true ∧ (yo xs i).2.2.oneCell' = true) → ∀ u ∈ cellsO xs, u.oneCell' = true
  | [], _, u, h => by cases h
  | x :: xs, hx, u, h => by
    rw [cellsO_cons, List.mem_append] at h
    rcases h with h | h
    · have h0 := hx 0 (by simp)
      rw [yo_zero] at h0
      exact opC_one x.1 h0.1 h0.2 u h
    · exact cellsO_one xs (fun i hi => by have := hx (i + 1) (by simp; omega); rw [yo_cons] at this; exact this) u h
theorem cellsO_at : ∀ (xs : List YO) (i j : Nat) (u : Value), i < xs.length → (encO (yo xs i))[j]? = some u → (cellsO xs)[i * 12 + j]? = some u
  | [], i, j, u, h, _ => by cases h
  | x :: xs, 0, j, u, _, hj => by
    rw [yo_zero] at hj
    have hl := (List.getElem?_eq_some_iff.1 hj).1
    rw [cellsO_cons, Nat.zero_mul, Nat.zero_add, List.getElem?_append_left hl, hj]
  | x :: xs, i + 1, j, u, h, hj => by
    rw [yo_cons] at hj
    have ih := cellsO_at xs i j u (by simpa using h) hj
    rw [cellsO_cons, show (i + 1) * 12 + j = i * 12 + j + 12 from by omega, List.getElem?_append_right (by rw [encO_len]; omega), encO_len, Nat.add_sub_cancel]
    exact ih
theorem cellsO_of : ∀ (xs : List YO) (k : Nat) (u : Value), (cellsO xs)[k]? = some u → k / 12 < xs.length ∧ (encO (yo xs (k / 12)))[k % 12]? = some u
  | [], k, u, h => by cases h
  | x :: xs, k, u, h => by
    rw [cellsO_cons] at h
    by_cases hk : k < 12
    · rw [List.getElem?_append_left (by rw [encO_len]; exact hk)] at h
      rw [Nat.div_eq_of_lt hk, Nat.mod_eq_of_lt hk, yo_zero]
      exact ⟨by simp, h⟩
    · rw [List.getElem?_append_right (by rw [encO_len]; omega), encO_len] at h
      obtain ⟨h1, h2⟩ := cellsO_of xs (k - 12) u h
      have e1 : k / 12 = (k - 12) / 12 + 1 := by omega
      have e2 : k % 12 = (k - 12) % 12 := by omega
      rw [e1, e2, yo_cons]
      exact ⟨by simp; omega, h2⟩

/-- a slice that holds these operations, whatever their lists hold -/
def OSl (w : World) (v : Value) (ys : List YO) : Prop :=
  ∃ (a : Option Addr) (c : Nat), v = .slice a ys.length c ∧ ys.length ≤ c ∧ c ≤ 9223372036854775807 ∧ ((ys = [] ∧ (a = none → c = 0)) ∨ ∃ b o, a = some ⟨b, o, none⟩ ∧ b < w.heap.size ∧ ∀ i, i < ys.length → w.rangeAt b (o + i * 12) (encO (yo ys i)))
/-- the lists of these operations lie in memory -/
def InO (w : World) (ys : List YO) : Prop := ∀ i, i < ys.length → VSl w (yo ys i).2.1 (yo ys i).1.a ∧ VSl w (yo ys i).2.2 (yo ys i).1.r
/-- a slice of these operations -/
def OpSl (w : World) (v : Value) (xs : List Opn) : Prop := ∃ ys, ys.map (·.1) = xs ∧ OSl w v ys ∧ InO w ys
theorem OSl.later {w w' : World} {v : Value} {ys : List YO} (h : OSl w v ys) (hb : Below w.heap.size w w') : OSl w' v ys := by
  obtain ⟨a, c, h1, h2, h3, h4⟩ := h
  refine ⟨a, c, h1, h2, h3, h4.imp id ?_⟩
  rintro ⟨b, o, e, hl, hc⟩
  exact ⟨b, o, e, Nat.lt_of_lt_of_le hl hb.size, fun i hi j u hj => (hb.cell (p := ⟨b, o + i * 12 + j, none⟩) hl).trans (hc i hi j u hj)⟩
theorem InO.later {w w' : World} {ys : List YO} (h : InO w ys) (hb : Below w.heap.size w w') : InO w' ys := fun i hi => ⟨(h i hi).1.later hb, (h i hi).2.later hb⟩
theorem OpSl.later {w w' : World} {v : Value} {xs : List Opn} (h : OpSl w v xs) (hb : Below w.heap.size w w') : OpSl w' v xs := by
  obtain ⟨ys, h1, h2, h3⟩ := h
  exact ⟨ys, h1, h2.later hb, h3.later hb⟩
theorem OpSl.nil (w : World) : OpSl w nilS [] := ⟨[], rfl, ⟨none, 0, rfl, by simp, by simp, .inl ⟨rfl, fun _ => rfl⟩⟩, fun i hi => absurd hi (Nat.not_lt_zero i)⟩
theorem OSl.form {w : World} {v : Value} {ys : List YO} (h : OSl w v ys) : ∃ a c, v = .slice a ys.length c ∧ ys.length ≤ c ∧ c ≤ 9223372036854775807 ∧ (a = none → ys = [] ∧ c = 0) := by
  obtain ⟨a, c, hv, h1, h2, h3⟩ := h
  refine ⟨a, c, hv, h1, h2, fun ha => ?_⟩
  rcases h3 with ⟨h3, h4⟩ | ⟨b, o, h3, _⟩
  · exact ⟨h3, h4 ha⟩
  · rw [ha] at h3; cases h3
theorem OSl.block {w : World} {a : Option Addr} {n c : Nat} {ys : List YO} (h : OSl w (.slice a n c) ys) (hl : 0 < ys.length) : ∃ b o, a = some ⟨b, o, none⟩ ∧ b < w.heap.size := by
  obtain ⟨a', c', hv, _, _, h3⟩ := h
  injection hv with ha _ _
  subst ha
  rcases h3 with ⟨h3, _⟩ | ⟨b, o, h3, hb, _⟩
  · rw [h3] at hl; cases hl
  · exact ⟨b, o, h3, hb⟩
theorem OSl.at {w : World} {b o n c : Nat} {ys : List YO} (h : OSl w (.slice (some ⟨b, o, none⟩) n c) ys) {i : Nat} (hi : i < ys.length) : w.rangeAt b (o + i * 12) (encO (yo ys i)) := by
  obtain ⟨a', c', hv, _, _, h3⟩ := h
  injection hv with ha _ _
  rcases h3 with ⟨h3, _⟩ | ⟨b', o', h3, hb, hr⟩
  · rw [h3] at hi; cases hi
  · rw [← ha] at h3
    injection h3 with h3
    injection h3 with e1 e2
    subst e1 e2
    exact hr i hi
theorem osl_cells {w : World} {ad : Addr} {n c : Nat} {ys : List YO} (h : OSl w (.slice (some ad) n c) ys) : ∀ j u, (cellsO ys)[j]? = some u → w.cell? (ad.add j) = some u := by
  intro j u hj
  obtain ⟨h1, h2⟩ := cellsO_of ys j u hj
  obtain ⟨b, o, e, _⟩ := h.block (by omega)
  injection e with e
  subst e
  have := h.at h1 _ _ h2
  rw [Addr.add_mid, show o + j = o + j / 12 * 12 + j % 12 from by omega]
  exact this
theorem map_yo (ys : List YO) (i : Nat) (h : i < ys.length) : (ys.map (·.1))[i]? = some (yo ys i).1 := by
  rw [List.getElem?_map, List.getElem?_eq_getElem h, yo_eq ys i h]; rfl

/-- a row of operations that the call owns, from block B on; so are their lists -/
def OwnO (w : World) (B : Nat) (v : Value) (ys : List YO) : Prop := w.ownsRow B 41 12 v ys.length (cellsO ys)
def OwnLO (w : World) (B : Nat) (ys : List YO) : Prop := ∀ i, i < ys.length → OwnV w B (yo ys i).2.1 (yo ys i).1.a ∧ OwnV w B (yo ys i).2.2 (yo ys i).1.r
theorem OwnO.nil (w : World) (B : Nat) : OwnO w B (.slice none 0 0) [] := World.ownsRow_nil _ _ _ _
theorem OwnLO.nil (w : World) (B : Nat) : OwnLO w B [] := fun i hi => absurd hi (Nat.not_lt_zero i)
theorem OwnO.later {w w' : World} {B : Nat} {v : Value} {ys : List YO} (h : OwnO w B v ys) (hb : Below w.heap.size w w') : OwnO w' B v ys :=
  World.ownsRow.kept h (row := none) ⟨hb.os, hb.tape, hb.output, hb.size, fun k hk _ => hb.block k hk⟩ (by cases v.ownBlock <;> simp)
theorem OwnLO.later {w w' : World} {B : Nat} {ys : List YO} (h : OwnLO w B ys) (hb : Below w.heap.size w w') : OwnLO w' B ys := fun i hi => ⟨(h i hi).1.later hb, (h i hi).2.later hb⟩
theorem OwnLO.inL {w : World} {B : Nat} {ys : List YO} (h : OwnLO w B ys) : InO w ys := fun i hi => ⟨(h i hi).1.vsl, (h i hi).2.vsl⟩
theorem OwnO.osl {w : World} {B : Nat} {v : Value} {ys : List YO} (h : OwnO w B v ys) : OSl w v ys := by
  have h' := h
  obtain ⟨h1, h2⟩ := h
  rcases h2 with ⟨rfl, h0⟩ | ⟨g, cap, cur, rfl, hb, hg, hn, hc, hs, ht⟩
  · have e : ys = [] := List.eq_nil_of_length_eq_zero h0
    subst e
    exact ⟨none, 0, rfl, by simp, by simp, .inl ⟨rfl, fun _ => rfl⟩⟩
  · unfold maxLen at hc
    refine ⟨_, cap, rfl, hn, by omega, .inr ⟨g, 0, rfl, (World.ownsRow.lt h' g rfl).2, fun i hi j u hj => ?_⟩⟩
    have q := World.ownsRow.cells h' (g := g) rfl (i * 12 + j) u (cellsO_at ys i j u hi hj)
    rw [Addr.add_mid] at q
    rw [Nat.add_assoc]
    exact q
theorem OwnO.opsl {w : World} {B : Nat} {v : Value} {ys : List YO} (h : OwnO w B v ys) (hl : OwnLO w B ys) : OpSl w v (ys.map (·.1)) := ⟨ys, rfl, h.osl, hl.inL⟩
theorem OwnO.lt {w : World} {B : Nat} {v : Value} {ys : List YO} (h : OwnO w B v ys) : ∀ g, v.ownBlock = some g → B ≤ g ∧ g < w.heap.size := World.ownsRow.lt h
theorem OwnO.form {w : World} {B : Nat} {v : Value} {ys : List YO} (h : OwnO w B v ys) : ∃ a c, v = .slice a ys.length c := by
  obtain ⟨a, c, hv, _⟩ := h.osl.form; exact ⟨a, c, hv⟩
theorem OwnV.grownO {w w' : World} {B B' : Nat} {v u : Value} {ys : List YO} {xs : List Val} (h : OwnV w B u xs) (hy : OwnO w B' v ys) (hg : w.grownBy w' v.ownBlock) : OwnV w' B u xs := by
  refine World.ownsRow.kept h hg ?_
  cases hu : u.ownBlock with
  | none => simp
  | some g => exact .inr fun e => rows_apart h hy (by decide) g hu e.symm
theorem OwnLO.grown {w w' : World} {B : Nat} {v : Value} {ys zs : List YO} (h : OwnLO w B zs) (hy : OwnO w B v ys) (hg : w.grownBy w' v.ownBlock) : OwnLO w' B zs := fun i hi => ⟨(h i hi).1.grownO hy hg, (h i hi).2.grownO hy hg⟩
theorem OwnLO.snoc {w : World} {B : Nat} {ys : List YO} {y : YO} (h : OwnLO w B ys) (h1 : OwnV w B y.2.1 y.1.a) (h2 : OwnV w B y.2.2 y.1.r) : OwnLO w B (ys ++ [y]) := by
  intro i hi
  by_cases e : i < ys.length
  · rw [yo_left _ _ i e]; exact h i e
  · have e : i = ys.length + 0 := by simp at hi; omega
    rw [e, yo_right ys [y] 0 (by simp), yo_zero]; exact ⟨h1, h2⟩

end Go.Proofs.YtgdegbmakbfaaaaDoor
