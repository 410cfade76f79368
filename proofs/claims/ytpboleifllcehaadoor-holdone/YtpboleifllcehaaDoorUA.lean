/- Rows of deeds in memory, and rows that a call owns; an append of one deed. No conditions but sizes. -/
import Derived.Test.YtpboleifllcehaaDoorUM
namespace Go.Proofs.YtpboleifllcehaaDoor
open Go.RowKit Go.PlainAid Ln
set_option linter.unusedVariables false
set_option linter.unusedSimpArgs false

/-- its five cells -/
def ddC (x : Dd) (va : Value) : List Value := [.int .i64 x.c.1, .int .i64 x.c.2.1, .string x.c.2.2, .int .i64 x.o, va]
theorem ddC_len (x : Dd) (va : Value) : (ddC x va).length = 5 := rfl
theorem ddC_one (x : Dd) {va : Value} (h1 : va.oneCell' = true) : ∀ v ∈ ddC x va, v.oneCell' = true := by
  intro v hv
  simp only [ddC, List.mem_cons, List.not_mem_nil, or_false] at hv
  rcases hv with rfl | rfl | rfl | rfl | rfl <;> first | rfl | exact h1
def noDd : Dd := ⟨(0, 0, noB), 0, []⟩
/-- an deed with the slices of its lists -/
abbrev YD := Dd × Value
def encD (y : YD) : List Value := ddC y.1 y.2
def cellsD (ys : List YD) : List Value := ys.flatMap encD
def noD : YD := (noDd, nilS)
def yd (ys : List YD) (i : Nat) : YD := ys.getD i noD
theorem encD_len (y : YD) : (encD y).length = 5 := rfl
theorem yd_cons (x : YD) (xs : List YD) (i : Nat) : yd (x :: xs) (i + 1) = yd xs i := by unfold yd; simp
theorem yd_zero (x : YD) (xs : List YD) : yd (x :: xs) 0 = x := by unfold yd; simp
theorem yd_eq (xs : List YD) (i : Nat) (h : i < xs.length) : yd xs i = xs[i] := by unfold yd; rw [List.getD_eq_getElem?_getD, List.getElem?_eq_getElem h]; rfl
theorem yd_left (xs ys : List YD) (i : Nat) (h : i < xs.length) : yd (xs ++ ys) i = yd xs i := by
  rw [yd_eq _ i (by rw [List.length_append]; omega), yd_eq _ i h, List.getElem_append_left h]
theorem yd_right (xs ys : List YD) (i : Nat) (h : i < ys.length) : yd (xs ++ ys) (xs.length + i) = yd ys i := by
  rw [yd_eq _ _ (by rw [List.length_append]; omega), yd_eq _ i h, List.getElem_append_right (by omega)]; simp
theorem cellsD_cons (x : YD) (xs : List YD) : cellsD (x :: xs) = encD x ++ cellsD xs := rfl
theorem cellsD_app (xs ys : List YD) : cellsD (xs ++ ys) = cellsD xs ++ cellsD ys := by simp [cellsD]
theorem cellsD_len : ∀ xs : List YD, (cellsD xs).length = xs.length * 5
  | [] => rfl
  | x :: xs => by rw [cellsD_cons, List.length_append, cellsD_len xs, encD_len, List.length_cons]; omega
theorem cellsD_one : ∀ xs : List YD, (∀ i, i < xs.length → (yd xs i).2.oneCell' = true) → ∀ u ∈ cellsD xs, u.oneCell' = true
  | [], _, u, h => by cases h
  | x :: xs, hx, u, h => by
    rw [cellsD_cons, List.mem_append] at h
    rcases h with h | h
    · have h0 := hx 0 (by simp)
      rw [yd_zero] at h0
      exact ddC_one x.1 h0 u h
    · exact cellsD_one xs (fun i hi => by have := hx (i + 1) (by simp; omega); rw [yd_cons] at this; exact this) u h
theorem cellsD_at : ∀ (xs : List YD) (i j : Nat) (u : Value), i < xs.length → (encD (yd xs i))[j]? = some u → (cellsD xs)[i * 5 + j]? = some u
  | [], i, j, u, h, _ => by cases h
  | x :: xs, 0, j, u, _, hj => by
    rw [yd_zero] at hj
    have hl := (List.getElem?_eq_some_iff.1 hj).1
    rw [cellsD_cons, Nat.zero_mul, Nat.zero_add, List.getElem?_append_left hl, hj]
  | x :: xs, i + 1, j, u, h, hj => by
    rw [yd_cons] at hj
    have ih := cellsD_at xs i j u (by simpa using h) hj
    rw [cellsD_cons, show (i + 1) * 5 + j = i * 5 + j + 5 from by omega, List.getElem?_append_right (by rw [encD_len]; omega), encD_len, Nat.add_sub_cancel]
    exact ih
theorem cellsD_of : ∀ (xs : List YD) (k : Nat) (u : Value), (cellsD xs)[k]? = some u → k / 5 < xs.length ∧ (encD (yd xs (k / 5)))[k % 5]? = some u
  | [], k, u, h => by cases h
  | x :: xs, k, u, h => by
    rw [cellsD_cons] at h
    by_cases hk : k < 5
    · rw [List.getElem?_append_left (by rw [encD_len]; exact hk)] at h
      rw [Nat.div_eq_of_lt hk, Nat.mod_eq_of_lt hk, yd_zero]
      exact ⟨by simp, h⟩
    · rw [List.getElem?_append_right (by rw [encD_len]; omega), encD_len] at h
      obtain ⟨h1, h2⟩ := cellsD_of xs (k - 5) u h
      have e1 : k / 5 = (k - 5) / 5 + 1 := by omega
      have e2 : k % 5 = (k - 5) % 5 := by omega
      rw [e1, e2, yd_cons]
      exact ⟨by simp; omega, h2⟩

/-- a slice that holds these deeds, whatever their lists hold -/
def DSl (w : World) (v : Value) (ys : List YD) : Prop :=
  ∃ (a : Option Addr) (c : Nat), v = .slice a ys.length c ∧ ys.length ≤ c ∧ c ≤ 9223372036854775807 ∧ ((ys = [] ∧ (a = none → c = 0)) ∨ ∃ b o, a = some ⟨b, o, none⟩ ∧ b < w.heap.size ∧ ∀ i, i < ys.length → w.rangeAt b (o + i * 5) (encD (yd ys i)))
/-- the lists of these deeds lie in memory -/
def InD (w : World) (ys : List YD) : Prop := ∀ i, i < ys.length → VSl w (yd ys i).2 (yd ys i).1.a
/-- a slice of these deeds -/
def DdSl (w : World) (v : Value) (xs : List Dd) : Prop := ∃ ys, ys.map (·.1) = xs ∧ DSl w v ys ∧ InD w ys
theorem DSl.later {w w' : World} {v : Value} {ys : List YD} (h : DSl w v ys) (hb : Below w.heap.size w w') : DSl w' v ys := by
  obtain ⟨a, c, h1, h2, h3, h4⟩ := h
  refine ⟨a, c, h1, h2, h3, h4.imp id ?_⟩
  rintro ⟨b, o, e, hl, hc⟩
  exact ⟨b, o, e, Nat.lt_of_lt_of_le hl hb.size, fun i hi j u hj => (hb.cell (p := ⟨b, o + i * 5 + j, none⟩) hl).trans (hc i hi j u hj)⟩
theorem InD.later {w w' : World} {ys : List YD} (h : InD w ys) (hb : Below w.heap.size w w') : InD w' ys := fun i hi => (h i hi).later hb
theorem DdSl.later {w w' : World} {v : Value} {xs : List Dd} (h : DdSl w v xs) (hb : Below w.heap.size w w') : DdSl w' v xs := by
  obtain ⟨ys, h1, h2, h3⟩ := h
  exact ⟨ys, h1, h2.later hb, h3.later hb⟩
theorem DdSl.nil (w : World) : DdSl w nilS [] := ⟨[], rfl, ⟨none, 0, rfl, by simp, by simp, .inl ⟨rfl, fun _ => rfl⟩⟩, fun i hi => absurd hi (Nat.not_lt_zero i)⟩
theorem DSl.form {w : World} {v : Value} {ys : List YD} (h : DSl w v ys) : ∃ a c, v = .slice a ys.length c ∧ ys.length ≤ c ∧ c ≤ 9223372036854775807 ∧ (a = none → ys = [] ∧ c = 0) := by
  obtain ⟨a, c, hv, h1, h2, h3⟩ := h
  refine ⟨a, c, hv, h1, h2, fun ha => ?_⟩
  rcases h3 with ⟨h3, h4⟩ | ⟨b, o, h3, _⟩
  · exact ⟨h3, h4 ha⟩
  · rw [ha] at h3; cases h3
theorem DSl.block {w : World} {a : Option Addr} {n c : Nat} {ys : List YD} (h : DSl w (.slice a n c) ys) (hl : 0 < ys.length) : ∃ b o, a = some ⟨b, o, none⟩ ∧ b < w.heap.size := by
  obtain ⟨a', c', hv, _, _, h3⟩ := h
  injection hv with ha _ _
  subst ha
  rcases h3 with ⟨h3, _⟩ | ⟨b, o, h3, hb, _⟩
  · rw [h3] at hl; cases hl
  · exact ⟨b, o, h3, hb⟩
theorem DSl.at {w : World} {b o n c : Nat} {ys : List YD} (h : DSl w (.slice (some ⟨b, o, none⟩) n c) ys) {i : Nat} (hi : i < ys.length) : w.rangeAt b (o + i * 5) (encD (yd ys i)) := by
  obtain ⟨a', c', hv, _, _, h3⟩ := h
  injection hv with ha _ _
  rcases h3 with ⟨h3, _⟩ | ⟨b', o', h3, hb, hr⟩
  · rw [h3] at hi; cases hi
  · rw [← ha] at h3
    injection h3 with h3
    injection h3 with e1 e2
    subst e1 e2
    exact hr i hi
theorem dsl_cells {w : World} {ad : Addr} {n c : Nat} {ys : List YD} (h : DSl w (.slice (some ad) n c) ys) : ∀ j u, (cellsD ys)[j]? = some u → w.cell? (ad.add j) = some u := by
  intro j u hj
  obtain ⟨h1, h2⟩ := cellsD_of ys j u hj
  obtain ⟨b, o, e, _⟩ := h.block (by omega)
  injection e with e
  subst e
  have := h.at h1 _ _ h2
  rw [Addr.add_mid, show o + j = o + j / 5 * 5 + j % 5 from by omega]
  exact this
theorem map_yd (ys : List YD) (i : Nat) (h : i < ys.length) : (ys.map (·.1))[i]? = some (yd ys i).1 := by
  rw [List.getElem?_map, List.getElem?_eq_getElem h, yd_eq ys i h]; rfl

/-- a row of deeds that the call owns, from block B on; so are their lists -/
def OwnD (w : World) (B : Nat) (v : Value) (ys : List YD) : Prop := w.ownsRow B 36 5 v ys.length (cellsD ys)
def OwnLD (w : World) (B : Nat) (ys : List YD) : Prop := ∀ i, i < ys.length → OwnV w B (yd ys i).2 (yd ys i).1.a
theorem OwnD.nil (w : World) (B : Nat) : OwnD w B (.slice none 0 0) [] := World.ownsRow_nil _ _ _ _
theorem OwnLD.nil (w : World) (B : Nat) : OwnLD w B [] := fun i hi => absurd hi (Nat.not_lt_zero i)
theorem OwnD.later {w w' : World} {B : Nat} {v : Value} {ys : List YD} (h : OwnD w B v ys) (hb : Below w.heap.size w w') : OwnD w' B v ys :=
  World.ownsRow.kept h (row := none) ⟨hb.os, hb.tape, hb.output, hb.size, fun k hk _ => hb.block k hk⟩ (by cases v.ownBlock <;> simp)
theorem OwnLD.later {w w' : World} {B : Nat} {ys : List YD} (h : OwnLD w B ys) (hb : Below w.heap.size w w') : OwnLD w' B ys := fun i hi => (h i hi).later hb
theorem OwnLD.inL {w : World} {B : Nat} {ys : List YD} (h : OwnLD w B ys) : InD w ys := fun i hi => (h i hi).vsl
theorem OwnD.dsl {w : World} {B : Nat} {v : Value} {ys : List YD} (h : OwnD w B v ys) : DSl w v ys := by
  have h' := h
  obtain ⟨h1, h2⟩ := h
  rcases h2 with ⟨rfl, h0⟩ | ⟨g, cap, cur, rfl, hb, hg, hn, hc, hs, ht⟩
  · have e : ys = [] := List.eq_nil_of_length_eq_zero h0
    subst e
    exact ⟨none, 0, rfl, by simp, by simp, .inl ⟨rfl, fun _ => rfl⟩⟩
  · unfold maxLen at hc
    refine ⟨_, cap, rfl, hn, by omega, .inr ⟨g, 0, rfl, (World.ownsRow.lt h' g rfl).2, fun i hi j u hj => ?_⟩⟩
    have q := World.ownsRow.cells h' (g := g) rfl (i * 5 + j) u (cellsD_at ys i j u hi hj)
    rw [Addr.add_mid] at q
    rw [Nat.add_assoc]
    exact q
theorem OwnD.ddsl {w : World} {B : Nat} {v : Value} {ys : List YD} (h : OwnD w B v ys) (hl : OwnLD w B ys) : DdSl w v (ys.map (·.1)) := ⟨ys, rfl, h.dsl, hl.inL⟩
theorem OwnD.lt {w : World} {B : Nat} {v : Value} {ys : List YD} (h : OwnD w B v ys) : ∀ g, v.ownBlock = some g → B ≤ g ∧ g < w.heap.size := World.ownsRow.lt h
theorem OwnD.form {w : World} {B : Nat} {v : Value} {ys : List YD} (h : OwnD w B v ys) : ∃ a c, v = .slice a ys.length c := by
  obtain ⟨a, c, hv, _⟩ := h.dsl.form; exact ⟨a, c, hv⟩
theorem OwnV.grownD {w w' : World} {B B' : Nat} {v u : Value} {ys : List YD} {xs : List Val} (h : OwnV w B u xs) (hy : OwnD w B' v ys) (hg : w.grownBy w' v.ownBlock) : OwnV w' B u xs := by
  refine World.ownsRow.kept h hg ?_
  cases hu : u.ownBlock with
  | none => simp
  | some g => exact .inr fun e => rows_apart h hy (by decide) g hu e.symm
theorem OwnLD.grown {w w' : World} {B : Nat} {v : Value} {ys zs : List YD} (h : OwnLD w B zs) (hy : OwnD w B v ys) (hg : w.grownBy w' v.ownBlock) : OwnLD w' B zs := fun i hi => (h i hi).grownD hy hg
theorem OwnLD.snoc {w : World} {B : Nat} {ys : List YD} {y : YD} (h : OwnLD w B ys) (h1 : OwnV w B y.2 y.1.a) : OwnLD w B (ys ++ [y]) := by
  intro i hi
  by_cases e : i < ys.length
  · rw [yd_left _ _ i e]; exact h i e
  · have e : i = ys.length + 0 := by simp at hi; omega
    rw [e, yd_right ys [y] 0 (by simp), yd_zero]; exact h1

end Go.Proofs.YtpboleifllcehaaDoor
