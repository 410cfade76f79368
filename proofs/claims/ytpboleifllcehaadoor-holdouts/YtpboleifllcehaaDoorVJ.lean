/- Plain mathematics of the order of values. No conditions. -/
import Derived.Test.YtpboleifllcehaaDoorVI
namespace Go.Proofs.YtpboleifllcehaaDoor
open Go.RowKit Go.PlainAid Go.Sort
set_option linter.unusedVariables false

/-- a comparison that is an order -/
def Good {α : Type} (c : α → α → Int) : Prop :=
  (∀ x y, c x y = -1 ∨ c x y = 0 ∨ c x y = 1) ∧ (∀ x y, c y x = -(c x y)) ∧ (∀ x y, c x y = 0 ↔ x = y) ∧ (∀ x y z, c x y ≤ 0 → c y z ≤ 0 → c x z ≤ 0)
theorem good_lex {α β : Type} {c : α → α → Int} {d : β → β → Int} (hc : Good c) (hd : Good d) : Good (fun (x y : α × β) => if c x.1 y.1 ≠ 0 then c x.1 y.1 else d x.2 y.2) := by
  obtain ⟨c1, c2, c3, c4⟩ := hc
  obtain ⟨d1, d2, d3, d4⟩ := hd
  refine ⟨fun x y => ?_, fun x y => ?_, fun x y => ?_, fun x y z => ?_⟩
  · dsimp only
    split
    · exact c1 _ _
    · exact d1 _ _
  · dsimp only
    have := c2 x.1 y.1
    by_cases h : c x.1 y.1 = 0
    · rw [if_neg (by omega), if_neg (by omega)]; exact d2 _ _
    · rw [if_pos (by omega), if_pos (by omega)]; exact this
  · dsimp only
    by_cases h : c x.1 y.1 = 0
    · rw [if_neg (by omega), d3]
      have := (c3 _ _).1 h
      constructor
      · intro k; exact Prod.ext this k
      · intro k; rw [k]
    · rw [if_pos h]
      constructor
      · intro k; exact absurd k h
      · intro k; rw [k]; exact (c3 _ _).2 rfl
  · dsimp only
    intro h1 h2
    have t := c4 x.1 y.1 z.1
    by_cases a : c x.1 y.1 = 0
    · have ea := (c3 _ _).1 a
      rw [if_neg (by omega)] at h1
      rw [ea]
      by_cases b : c y.1 z.1 = 0
      · rw [if_neg (by omega)] at h2 ⊢
        exact d4 _ _ _ h1 h2
      · rw [if_pos b] at h2 ⊢; exact h2
    · rw [if_pos a] at h1
      by_cases b : c y.1 z.1 = 0
      · have eb := (c3 _ _).1 b
        rw [← eb, if_pos a]; exact h1
      · rw [if_pos b] at h2
        have tt := t h1 h2
        by_cases e : c x.1 z.1 = 0
        · have ee := (c3 _ _).1 e
          have := c2 x.1 y.1
          rw [← ee] at h2 b
          have := c1 x.1 y.1
          exfalso; omega
        · rw [if_pos e]; exact tt

theorem good_int : Good Lib.compareInt := by
  refine ⟨fun x y => ?_, fun x y => ?_, fun x y => ?_, fun x y z => ?_⟩ <;> unfold Lib.compareInt <;> (repeat' split) <;> omega

theorem u8_trich (a b : UInt8) : a < b ∨ a = b ∨ b < a := by
  rw [UInt8.lt_iff_toNat_lt, UInt8.lt_iff_toNat_lt]
  rcases Nat.lt_trichotomy a.toNat b.toNat with h | h | h
  · exact .inl h
  · exact .inr (.inl (UInt8.toNat_inj.1 h))
  · exact .inr (.inr h)
theorem u8_irr (a : UInt8) : ¬ a < a := by rw [UInt8.lt_iff_toNat_lt]; omega
theorem u8_asym {a b : UInt8} (h : a < b) : ¬ b < a := by rw [UInt8.lt_iff_toNat_lt] at *; omega
theorem u8_trans {a b c : UInt8} (h : a < b) (k : b < c) : a < c := by rw [UInt8.lt_iff_toNat_lt] at *; omega
theorem cb_lt {a b : UInt8} (x y : List UInt8) (h : a < b) : Lib.compareBytes (a :: x) (b :: y) = -1 := by show (if _ then _ else _) = _; rw [if_pos h]
theorem cb_gt {a b : UInt8} (x y : List UInt8) (h : b < a) : Lib.compareBytes (a :: x) (b :: y) = 1 := by show (if _ then _ else if _ then _ else _) = _; rw [if_neg (u8_asym h), if_pos h]
theorem cb_eq (a : UInt8) (x y : List UInt8) : Lib.compareBytes (a :: x) (a :: y) = Lib.compareBytes x y := by show (if _ then _ else if _ then _ else _) = _; rw [if_neg (u8_irr a), if_neg (u8_irr a)]
theorem cb_one : ∀ x y : List UInt8, Lib.compareBytes x y = -1 ∨ Lib.compareBytes x y = 0 ∨ Lib.compareBytes x y = 1
  | [], [] => .inr (.inl rfl)
  | [], _ :: _ => .inl rfl
  | _ :: _, [] => .inr (.inr rfl)
  | a :: x, b :: y => by
    rcases u8_trich a b with h | h | h
    · rw [cb_lt _ _ h]; exact .inl rfl
    · subst h; rw [cb_eq]; exact cb_one x y
    · rw [cb_gt _ _ h]; exact .inr (.inr rfl)
theorem cb_neg : ∀ x y : List UInt8, Lib.compareBytes y x = -(Lib.compareBytes x y)
  | [], [] => rfl
  | [], _ :: _ => rfl
  | _ :: _, [] => rfl
  | a :: x, b :: y => by
    rcases u8_trich a b with h | h | h
    · rw [cb_lt _ _ h, cb_gt _ _ h]; rfl
    · subst h; rw [cb_eq, cb_eq]; exact cb_neg x y
    · rw [cb_gt _ _ h, cb_lt _ _ h]
theorem cb_zero : ∀ x y : List UInt8, Lib.compareBytes x y = 0 ↔ x = y
  | [], [] => by simp [Lib.compareBytes]
  | [], _ :: _ => by simp [Lib.compareBytes]
  | _ :: _, [] => by simp [Lib.compareBytes]
  | a :: x, b :: y => by
    rcases u8_trich a b with h | h | h
    · rw [cb_lt _ _ h]
      constructor
      · intro k; omega
      · intro k; injection k with k _; subst k; exact absurd h (u8_irr a)
    · subst h; rw [cb_eq, cb_zero x y]; simp
    · rw [cb_gt _ _ h]
      constructor
      · intro k; omega
      · intro k; injection k with k _; subst k; exact absurd h (u8_irr a)
theorem cb_trans : ∀ x y z : List UInt8, Lib.compareBytes x y ≤ 0 → Lib.compareBytes y z ≤ 0 → Lib.compareBytes x z ≤ 0
  | [], _, [], _, _ => by decide
  | [], _, _ :: _, _, _ => by show (-1 : Int) ≤ 0; decide
  | _ :: _, [], _, h, _ => by have h : (1 : Int) ≤ 0 := h; omega
  | _ :: _, _ :: _, [], _, h => by have h : (1 : Int) ≤ 0 := h; omega
  | a :: x, b :: y, c :: z, h1, h2 => by
    rcases u8_trich a b with h | h | h
    · rcases u8_trich b c with k | k | k
      · rw [cb_lt _ _ (u8_trans h k)]; decide
      · subst k; rw [cb_lt _ _ h]; decide
      · rw [cb_gt _ _ k] at h2; omega
    · subst h
      rcases u8_trich a c with k | k | k
      · rw [cb_lt _ _ k]; decide
      · subst k; rw [cb_eq] at *; exact cb_trans x y z h1 h2
      · rw [cb_gt _ _ k] at h2; omega
    · rw [cb_gt _ _ h] at h1; omega
theorem cb_less : ∀ x y : List UInt8, Op.bytesLess x y = decide (Lib.compareBytes x y < 0)
  | [], [] => by simp [Op.bytesLess, Lib.compareBytes]
  | [], _ :: _ => by simp [Op.bytesLess, Lib.compareBytes]
  | _ :: _, [] => by simp [Op.bytesLess, Lib.compareBytes]
  | a :: x, b :: y => by
    have ih := cb_less x y
    show (decide (a < b) || (a == b && Op.bytesLess x y)) = _
    rw [ih]
    rcases u8_trich a b with h | h | h
    · rw [cb_lt _ _ h]; simp [h]
    · subst h; rw [cb_eq]; simp
    · rw [cb_gt _ _ h]
      have h1 := u8_asym h
      have h2 : ¬ a = b := fun e => u8_irr b (by rw [e] at h; exact h)
      simp [h1, h2]

theorem bytes_inj {a b : ByteArray} (h : a.data.toList = b.data.toList) : a = b := ByteArray.ext (Array.toList_inj.1 h)
theorem good_bytes : Good (fun a b : ByteArray => Lib.compareBytes a.data.toList b.data.toList) :=
  ⟨fun _ _ => cb_one _ _, fun _ _ => cb_neg _ _, fun x y => ⟨fun h => bytes_inj ((cb_zero _ _).1 h), fun h => (cb_zero _ _).2 (by rw [h])⟩, fun _ _ _ => cb_trans _ _ _⟩
theorem good_cv : Good cv := good_lex good_int (good_lex good_int good_bytes)

theorem eqvB_iff (k n k' n' : Int) (s s' : ByteArray) : eqvB k n s k' n' s' = true ↔ ((k, n, s) : Val) = (k', n', s') := by
  unfold eqvB
  rw [Bool.and_eq_true, Bool.and_eq_true, beq_iff_eq, beq_iff_eq, beq_iff_eq]
  constructor
  · rintro ⟨rfl, rfl, h⟩
    rw [ByteArray.toList_eq, ByteArray.toList_eq] at h
    rw [bytes_inj h]
  · intro h
    injection h with h1 h2
    injection h2 with h2 h3
    exact ⟨h1, h2, by rw [h3]⟩
theorem ltV_cv (x y : Val) : ltV x y = decide (cv x y < 0) := by
  unfold ltV
  by_cases h1 : x.1 = y.1
  · rw [if_pos h1]
    have e1 : Lib.compareInt x.1 y.1 = 0 := (good_int.2.2.1 _ _).2 h1
    by_cases h2 : x.2.1 = y.2.1
    · have e2 : Lib.compareInt x.2.1 y.2.1 = 0 := (good_int.2.2.1 _ _).2 h2
      rw [if_pos h2, cb_less, ByteArray.toList_eq, ByteArray.toList_eq]
      unfold cv
      rw [or3_c e1 e2]
    · have e2 : Lib.compareInt x.2.1 y.2.1 ≠ 0 := fun h => h2 ((good_int.2.2.1 _ _).1 h)
      rw [if_neg h2]
      unfold cv
      rw [or3_b e1 e2]
      unfold Lib.compareInt
      rw [decide_eq_decide]
      (repeat' split) <;> omega
  · have e1 : Lib.compareInt x.1 y.1 ≠ 0 := fun h => h1 ((good_int.2.2.1 _ _).1 h)
    rw [if_neg h1]
    unfold cv
    rw [or3_a e1]
    unfold Lib.compareInt
    rw [decide_eq_decide]
    (repeat' split) <;> omega

end Go.Proofs.YtpboleifllcehaaDoor
