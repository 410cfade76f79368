/- Append of any slice of bytes to an owned row of bytes; two owned rows apart. No conditions but sizes. -/
import Derived.Test.YtilfmemfnheppaaDoorW
import Derived.Deep.AppendLies
namespace Go.Proofs.YtilfmemfnheppaaDoor
open Go.RowKit Hx
set_option linter.unusedVariables false

/-- the two lie in blocks of their own -/
def Dj (x y : Value) : Prop := ∀ g, x.ownBlock = some g → y.ownBlock ≠ some g
theorem Dj.symm {x y : Value} (h : Dj x y) : Dj y x := fun g h1 h2 => h g h2 h1
theorem Dj.ne {x y : Value} (h : Dj x y) : y.ownBlock = none ∨ y.ownBlock ≠ x.ownBlock := by
  cases hy : y.ownBlock with
  | none => exact .inl rfl
  | some g => exact .inr (fun e => h g e.symm hy)
/-- behind an append to x: where it lies now, y doesn't -/
theorem Dj.next {w : World} {x y x' : Value} {B n : Nat} {ys : List Value} {g H : Nat} (h : Dj x y) (hy : w.ownsRow B 5 1 y n ys) (hx : x'.ownBlock = some g) (hat : x.ownBlock = some g ∨ g = H) (hH : w.heap.size ≤ H) : Dj x' y := by
  intro k hk hyk
  rw [hx] at hk
  cases hk
  rcases hat with hat | rfl
  · exact h g hat hyk
  · have := (World.ownsRow.lt hy _ hyk).2
    omega

theorem own_later2 {w w' : World} {B : Nat} {v : Value} {xs : List Int} (h : Hx.Own w B v xs) (hb : Below w.heap.size w w') : Hx.Own w' B v xs :=
  World.ownsRow.kept h (row := none) ⟨hb.os, hb.tape, hb.output, hb.size, fun k hk _ => hb.block k hk⟩ (by cases v.ownBlock <;> simp)
theorem own_only {w w' : World} {B g : Nat} {v : Value} {xs : List Int} (h : Hx.Own w B v xs) (hb : Only g w w') (hg : v.ownBlock ≠ some g) : Hx.Own w' B v xs :=
  World.ownsRow.kept h (row := some g) ⟨hb.os, hb.tape, hb.output, hb.size, fun k hk hn => hb.block k hk (fun e => hn (by rw [e]))⟩ (.inr hg)
/-- append of a slice of bytes, nil or not, to a row of bytes that the call owns -/
theorem wpList_appendS {ops : Array Oper} {rest : List Oper} {o : Oper} {a : Act} {w : World} {Q : Exit → Act → World → Prop} (hgd : o.guard = none) (s x : Operand)
    (ho : o.op = .call { callee := .builtin .append, args := #[s, x], argTypes := #[25, 25] }) (B : Nat) (v : Value) (xs : List Int) (hs : a.eval s = v) (hown : Hx.Own w B v xs)
    (u : Value) (ys : List Int) (hx : a.eval x = u) (hu : Sl w u ys) (hnu : ∀ n c, u = .slice none n c → n = 0 ∧ c = 0) (hlen : xs.length + ys.length ≤ 1000000) (hbase : B ≤ w.heap.size)
    (h : ∀ v' w', Hx.Own w' B v' (xs ++ ys) → w.grownBy w' v.ownBlock → wpList Tryd.prog ops Q rest (a.put o.dst v') w') : wpList Tryd.prog ops Q (o :: rest) a w := by
  obtain ⟨i0, hi, hz0, hz1, hz2⟩ := info_parts Tryd.info5
  obtain ⟨au, cu, hv⟩ : ∃ a c, u = .slice a ys.length c := by obtain ⟨a, c, h, _⟩ := hu; exact ⟨a, c, h⟩
  subst hv
  unfold Hx.Own at hown h
  cases au with
  | none =>
    obtain ⟨h0, hc⟩ := hnu _ _ rfl
    have hy : ys = [] := List.eq_nil_of_length_eq_zero h0
    subst hy
    subst hc
    refine wpList_append_own_none hgd s x 25 ho B 5 i0 1 Tryd.underlying25 hi v xs.length (cells8 xs) hs hown hx ?_
    exact h v w (by simpa using hown) ⟨rfl, rfl, rfl, Nat.le_refl _, fun _ _ _ => rfl⟩
  | some ad =>
    refine wpList_append_own _ hgd s x 25 ho B 5 i0 (.int .u8 0) 1 1 Tryd.underlying25 hi hz0 hz1 hz2 rfl (by decide) v xs.length (cells8 xs) hs hown ad ys.length cu (cells8 ys) hx (by rw [cells8_len, Nat.mul_one]) (sl_cells' hu ad rfl) (cells8_one _) (by unfold maxLen; omega) (by omega) hbase ?_
    intro v' w' hown' hgrow _
    refine h v' w' ?_ hgrow
    rw [← cells8_app, List.length_append]
    exact hown'

end Go.Proofs.YtilfmemfnheppaaDoor
