/- Plain mathematics of digits: what they are worth from the left; the order of texts is the order of numbers; one text a number. No conditions. -/
import Derived.Test.YtdacnbldgbakeaaDoorNE
namespace Go.Proofs.YtdacnbldgbakeaaDoor
open Go.RowKit Go.PlainAid
set_option linter.unusedVariables false

/-- what a digit stands for -/
def dv (c : UInt8) : Nat := c.toNat - 48
/-- what digits are worth -/
def vL : List UInt8 → Nat
  | [] => 0
  | c :: cs => dv c * 10 ^ cs.length + vL cs
/-- all of them are digits -/
def allL (xs : List UInt8) : Prop := ∀ c ∈ xs, 48 ≤ c.toNat ∧ c.toNat ≤ 57
/-- one digit or more, without needless noughts -/
def okL (xs : List UInt8) : Prop := 0 < xs.length ∧ allL xs ∧ (1 < xs.length → xs.head? ≠ some 48)

theorem allL_tail {c : UInt8} {cs : List UInt8} (h : allL (c :: cs)) : allL cs := fun x hx => h x (List.mem_cons_of_mem _ hx)
theorem dv_bd {c : UInt8} (h : 48 ≤ c.toNat ∧ c.toNat ≤ 57) : dv c ≤ 9 := by unfold dv; omega

theorem vL_one (xs : List UInt8) (c : UInt8) : vL (xs ++ [c]) = 10 * vL xs + dv c := by
  induction xs with
  | nil => simp [vL]
  | cons x xs ih =>
    show dv x * 10 ^ (xs ++ [c]).length + vL (xs ++ [c]) = 10 * (dv x * 10 ^ xs.length + vL xs) + dv c
    rw [ih, List.length_append, show [c].length = 1 from rfl, Nat.pow_succ, Nat.mul_add, ← Nat.mul_assoc, Nat.mul_comm (dv x * 10 ^ xs.length) 10]
    omega

theorem vL_lt {xs : List UInt8} (h : allL xs) : vL xs < 10 ^ xs.length := by
  induction xs with
  | nil => simp [vL]
  | cons c cs ih =>
    have h1 := ih (allL_tail h)
    have h2 := dv_bd (h c (List.mem_cons_self ..))
    have h3 : dv c * 10 ^ cs.length ≤ 9 * 10 ^ cs.length := Nat.mul_le_mul_right _ h2
    show dv c * 10 ^ cs.length + vL cs < 10 ^ (cs.length + 1)
    rw [Nat.pow_succ]; omega

theorem vL_ge {c : UInt8} {cs : List UInt8} (h : allL (c :: cs)) (hc : c ≠ 48) : 10 ^ cs.length ≤ vL (c :: cs) := by
  have h1 := h c (List.mem_cons_self ..)
  have h2 : 1 ≤ dv c := by
    unfold dv
    have : c.toNat ≠ 48 := fun e => hc (UInt8.toNat_inj.1 (by rw [e]; rfl))
    omega
  have h3 : 1 * 10 ^ cs.length ≤ dv c * 10 ^ cs.length := Nat.mul_le_mul_right _ h2
  show _ ≤ dv c * 10 ^ cs.length + vL cs
  omega

theorem dv_inj {a b : UInt8} (ha : 48 ≤ a.toNat ∧ a.toNat ≤ 57) (hb : 48 ≤ b.toNat ∧ b.toNat ≤ 57) (h : dv a = dv b) : a = b := by
  unfold dv at h; exact UInt8.toNat_inj.1 (by omega)

/-- a step: the first digits decide, and, if they are one, the rest -/
theorem step_lt {a b P x y : Nat} (hx : x < P) (hy : y < P) : a * P + x < b * P + y ↔ a < b ∨ (a = b ∧ x < y) := by
  rcases Nat.lt_trichotomy a b with h | h | h
  · have : (a + 1) * P ≤ b * P := Nat.mul_le_mul_right _ h
    rw [Nat.add_mul] at this; constructor
    · intro _; exact .inl h
    · intro _; omega
  · subst h; constructor
    · intro _; exact .inr ⟨rfl, by omega⟩
    · intro k; rcases k with k | ⟨_, k⟩ <;> omega
  · have : (b + 1) * P ≤ a * P := Nat.mul_le_mul_right _ h
    rw [Nat.add_mul] at this; constructor
    · intro _; omega
    · intro k; rcases k with k | ⟨k, _⟩ <;> omega

theorem less_iff : ∀ (xs ys : List UInt8), xs.length = ys.length → allL xs → allL ys → (Op.bytesLess xs ys = true ↔ vL xs < vL ys)
  | [], [], _, _, _ => by simp [Op.bytesLess, vL]
  | a :: x, b :: y, hl, hx, hy => by
    have hl' : x.length = y.length := by simpa using hl
    have ih := less_iff x y hl' (allL_tail hx) (allL_tail hy)
    have ha := hx a (List.mem_cons_self ..)
    have hb := hy b (List.mem_cons_self ..)
    have h1 := vL_lt (allL_tail hx)
    have h2 := vL_lt (allL_tail hy)
    show Op.bytesLess (a :: x) (b :: y) = true ↔ dv a * 10 ^ x.length + vL x < dv b * 10 ^ y.length + vL y
    rw [hl'] at h1 ⊢
    rw [step_lt h1 h2, ← ih]
    show (decide (a < b) || (a == b && Op.bytesLess x y)) = true ↔ _
    rw [Bool.or_eq_true, Bool.and_eq_true, decide_eq_true_iff, beq_iff_eq, UInt8.lt_iff_toNat_lt]
    constructor
    · rintro (h | ⟨h, k⟩)
      · exact .inl (by unfold dv; omega)
      · exact .inr ⟨by rw [h], k⟩
    · rintro (h | ⟨h, k⟩)
      · exact .inl (by unfold dv at h; omega)
      · exact .inr ⟨dv_inj ha hb h, k⟩
  | [], _ :: _, hl, _, _ => by simp at hl
  | _ :: _, [], hl, _, _ => by simp at hl

theorem less_irrefl (x : List UInt8) : Op.bytesLess x x = false := by
  induction x with
  | nil => rfl
  | cons a x ih => show (decide (a < a) || (a == a && Op.bytesLess x x)) = false; rw [ih]; simp

theorem same_iff : ∀ (xs ys : List UInt8), xs.length = ys.length → allL xs → allL ys → (xs = ys ↔ vL xs = vL ys)
  | [], [], _, _, _ => by simp
  | a :: x, b :: y, hl, hx, hy => by
    have hl' : x.length = y.length := by simpa using hl
    have ih := same_iff x y hl' (allL_tail hx) (allL_tail hy)
    have ha := hx a (List.mem_cons_self ..)
    have hb := hy b (List.mem_cons_self ..)
    have h1 := vL_lt (allL_tail hx)
    have h2 := vL_lt (allL_tail hy)
    constructor
    · intro h; rw [h]
    · intro h
      have h : dv a * 10 ^ x.length + vL x = dv b * 10 ^ y.length + vL y := h
      rw [hl'] at h1 h
      have k1 := step_lt (a := dv a) (b := dv b) h1 h2
      have k2 := step_lt (a := dv b) (b := dv a) h2 h1
      have e : dv a = dv b := by
        rcases Nat.lt_trichotomy (dv a) (dv b) with k | k | k
        · have := k1.2 (.inl k); omega
        · exact k
        · have := k2.2 (.inl k); omega
      rw [e] at h
      rw [dv_inj ha hb e, ih.2 (by omega)]
  | [], _ :: _, hl, _, _ => by simp at hl
  | _ :: _, [], hl, _, _ => by simp at hl

/-- a longer text is a greater number -/
theorem longer {xs ys : List UInt8} (hx : okL xs) (hy : okL ys) (h : xs.length < ys.length) : vL xs < vL ys := by
  obtain ⟨x0, x1, x2⟩ := hx
  obtain ⟨y0, y1, y2⟩ := hy
  have h1 := vL_lt x1
  match ys, y1, y2, h with
  | b :: y, y1, y2, h =>
    have h2 := vL_ge y1 (fun e => y2 (by simp at h ⊢; omega) (by rw [e]; rfl))
    have h3 : 10 ^ xs.length ≤ 10 ^ y.length := Nat.pow_le_pow_right (by omega) (by simp at h; omega)
    omega

/-- one text a number -/
theorem one_text {xs ys : List UInt8} (hx : okL xs) (hy : okL ys) (h : vL xs = vL ys) : xs = ys := by
  have hl : xs.length = ys.length := by
    rcases Nat.lt_trichotomy xs.length ys.length with k | k | k
    · have := longer hx hy k; omega
    · exact k
    · have := longer hy hx k; omega
  exact (same_iff xs ys hl hx.2.1 hy.2.1).2 h

/-- the order of texts, the shorter ones first, is the order of numbers -/
theorem least_iff {a b : ByteArray} (ha : okL a.toList) (hb : okL b.toList) : leastB a b = true ↔ vL a.toList ≤ vL b.toList := by
  have la : a.toList.length = a.size := by rw [ByteArray.toList_eq]; rfl
  have lb : b.toList.length = b.size := by rw [ByteArray.toList_eq]; rfl
  unfold leastB
  rw [← la, ← lb]
  rcases Nat.lt_trichotomy a.toList.length b.toList.length with k | k | k
  · have := longer ha hb k
    simp [k]; omega
  · have h1 := less_iff _ _ k ha.2.1 hb.2.1
    have h2 := same_iff _ _ k ha.2.1 hb.2.1
    simp only [Bool.or_eq_true, Bool.and_eq_true, decide_eq_true_iff, beq_iff_eq, h1, h2]
    omega
  · have := longer hb ha k
    simp only [Bool.or_eq_true, Bool.and_eq_true, decide_eq_true_iff, beq_iff_eq]
    omega

/-! ### The bytes of a text -/
theorem bt_list (s : ByteArray) (i : Nat) (h : i < s.toList.length) : bt s i = ((s.toList[i]).toNat : Int) := by
  have e : s.toList = s.data.toList := ByteArray.toList_eq s
  have hs : i < s.size := by rw [e] at h; exact h
  unfold bt
  rw [dif_pos hs]
  simp only [e]
  rfl
theorem valN_list (s : ByteArray) : ∀ k, k ≤ s.size → valN s k = vL (s.toList.take k) := by
  have la : s.toList.length = s.size := by rw [ByteArray.toList_eq]; rfl
  intro k
  induction k with
  | zero => intro _; simp [valN, vL]
  | succ k ih =>
    intro h
    rw [List.take_succ_eq_append_getElem (by omega), vL_one, ← ih (by omega)]
    show 10 * valN s k + (bt s k - 48).toNat = _
    rw [bt_list s k (by omega)]
    unfold dv; omega
theorem val_list (s : ByteArray) : valN s s.size = vL s.toList := by
  have la : s.toList.length = s.size := by rw [ByteArray.toList_eq]; rfl
  rw [valN_list s _ (Nat.le_refl _), List.take_of_length_le (by omega)]
theorem ok_list (s : ByteArray) : okD s ↔ okL s.toList := by
  have la : s.toList.length = s.size := by rw [ByteArray.toList_eq]; rfl
  unfold okD okL
  rw [la]
  have h1 : allD s s.size ↔ allL s.toList := by
    constructor
    · intro h c hc
      obtain ⟨i, hi, rfl⟩ := List.getElem_of_mem hc
      have := h i (by omega)
      rw [bt_list s i hi] at this
      omega
    · intro h i hi
      rw [bt_list s i (by omega)]
      have := h _ (List.getElem_mem (l := s.toList) (n := i) (by omega))
      omega
  rw [h1]
  by_cases h0 : 0 < s.size
  · have h2 : bt s 0 ≠ 48 ↔ s.toList.head? ≠ some 48 := by
      rw [bt_list s 0 (by omega), List.head?_eq_getElem?, List.getElem?_eq_getElem (by omega)]
      constructor
      · intro h e; injection e with e; rw [e] at h; exact h rfl
      · intro h e
        exact h (congrArg some (UInt8.toNat_inj.1 (by have := Int.ofNat.inj e; rw [this]; rfl)))
    rw [h2]
  · constructor <;> intro h <;> exact absurd h.1 h0
end Go.Proofs.YtdacnbldgbakeaaDoor
