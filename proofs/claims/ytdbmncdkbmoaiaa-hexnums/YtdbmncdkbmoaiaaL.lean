/- The walk of the statement HexNums: any bytes, up to eight, are the number whose bytes they are; of more there is none. No conditions but that the bytes lie in memory. -/
import Derived.Test.YtdbmncdkbmoaiaaK
namespace Go.Proofs.Ytdbmncdkbmoaiaa
open Go.RowKit Go.PlainAid
set_option linter.unusedVariables false

theorem numOf_all {xs : List Int} (h : ∀ x ∈ xs, 0 ≤ x ∧ x ≤ 255) : 0 ≤ numOf xs ∧ numOf xs < 256 ^ xs.length := by
  have := numOf_bd h xs.length (Nat.le_refl _)
  rw [List.take_length] at this
  exact this
theorem split_key (P x y r s : Int) (hp : 0 < P) (r0 : 0 ≤ r) (r1 : r < P) (s0 : 0 ≤ s) (s1 : s < P) (e : x * P + r = y * P + s) : x = y ∧ r = s := by
  have h1 : (x * P + r) / P = x := by rw [Int.add_comm, Int.add_mul_ediv_right _ _ (by omega), Int.ediv_eq_zero_of_lt r0 r1]; omega
  have h2 : (y * P + s) / P = y := by rw [Int.add_comm, Int.add_mul_ediv_right _ _ (by omega), Int.ediv_eq_zero_of_lt s0 s1]; omega
  have hxy : x = y := by rw [← h1, ← h2, e]
  subst hxy
  exact ⟨rfl, by omega⟩
theorem numOf_inj : ∀ (xs ys : List Int), (∀ x ∈ xs, 0 ≤ x ∧ x ≤ 255) → (∀ x ∈ ys, 0 ≤ x ∧ x ≤ 255) → xs.length = ys.length → numOf xs = numOf ys → xs = ys
  | [], [], _, _, _, _ => rfl
  | [], y :: ys, _, _, h, _ => by simp at h
  | x :: xs, [], _, _, h, _ => by simp at h
  | x :: xs, y :: ys, hx, hy, hl, he => by
    have hl' : xs.length = ys.length := by simpa using hl
    have hx' : ∀ z ∈ xs, 0 ≤ z ∧ z ≤ 255 := fun z hz => hx z (List.mem_cons_of_mem _ hz)
    have hy' : ∀ z ∈ ys, 0 ≤ z ∧ z ≤ 255 := fun z hz => hy z (List.mem_cons_of_mem _ hz)
    rw [numOf_cons, numOf_cons, hl'] at he
    have b1 := numOf_all hx'
    have b2 := numOf_all hy'
    rw [hl'] at b1
    obtain ⟨e1, e2⟩ := split_key _ _ _ _ _ (Int.pow_pos (by omega)) b1.1 b1.2 b2.1 b2.2 he
    rw [e1, numOf_inj xs ys hx' hy' hl' e2]
theorem bigB_num {xs : List Int} (h : ∀ x ∈ xs, 0 ≤ x ∧ x ≤ 255) : bigB (numOf xs) xs.length = xs := by
  have b := numOf_all h
  refine numOf_inj _ _ (bigB_bd _ _) h (bigB_len _ _) ?_
  rw [numOf_big _ _ b.1, Int.emod_eq_of_lt b.1 b.2]
theorem szB_nat (m : Nat) (h : m ≤ 8) : szB (m : Int) = m := by
  unfold szB
  split
  · omega
  · rw [if_pos (by omega)]; omega
theorem pow_lt64 (m : Nat) (h : m ≤ 8) : (256 : Int) ^ m ≤ 18446744073709551616 := by
  match m, h with
  | 0, _ => decide
  | 1, _ => decide
  | 2, _ => decide
  | 3, _ => decide
  | 4, _ => decide
  | 5, _ => decide
  | 6, _ => decide
  | 7, _ => decide
  | 8, _ => decide

set_option maxHeartbeats 800000 in
theorem nums_walk (v : Value) (xs : List Int) (w : World) (hv : Sl w v xs) :
    Calls Try.prog 7 #[v] w fun e w' => e = .returned (.bool true) ∧ Below w.heap.size w w' := by
  obtain ⟨a, cap, hform⟩ := hv.form
  have HV : Hid (Sl w v xs) := hv
  have hl : xs.length ≤ 9223372036854775807 := by obtain ⟨_, _, _, _, h, _⟩ := hv; exact h
  have hx : ∀ x ∈ xs, 0 ≤ x ∧ x ≤ 255 := by obtain ⟨_, _, _, h, _⟩ := hv; exact h
  clear hv
  subst hform
  by_cases h8 : 8 < xs.length
  · have h8' : (8 : Int) < (xs.length : Int) := by omega
    clear hx
    go_enter Try.func7, Try.ntmps7
    go_wp2_with fail
    refine (wakes_any _).mono ?_
    rintro e w1 ⟨rfl, hb1⟩
    go_wp2_with fail
    refine (num_no _ xs _ (HV.out.later hb1) h8).mono ?_
    rintro e w2 ⟨rfl, hb2⟩
    have hb := below_next hb1 hb2
    clear hb1 hb2
    go_wp2
    go_ret
    exact ⟨rfl, hb⟩
  · have h8' : (xs.length : Int) ≤ 8 := by omega
    obtain ⟨n0, n1⟩ := numOf_all hx
    have n2 := pow_lt64 xs.length (by omega)
    have HB : Hid (bigB (numOf xs) xs.length = xs) := bigB_num hx
    have HZ : Hid (szB (xs.length : Int) = xs.length) := szB_nat _ (by omega)
    have n3 : numOf xs ≤ 18446744073709551615 := by omega
    have hq : (numOf xs / 2 ^ (8 * xs.length) == 0) = true := by
      rw [beq_iff_eq, Int.pow_mul]
      exact Int.ediv_eq_zero_of_lt n0 n1
    clear hx n1 n2
    go_enter Try.func7, Try.ntmps7
    go_wp2_with fail
    refine (wakes_any _).mono ?_
    rintro e w1 ⟨rfl, hb1⟩
    go_wp2_with fail
    refine (num_any _ xs _ (HV.out.later hb1) (by omega)).mono ?_
    rintro e w2 ⟨rfl, hb2⟩
    have hb := below_next hb1 hb2
    clear hb1 hb2
    go_wp2_with fail
    refine (rbig_any (numOf xs) (xs.length : Int) _ n0 n3).mono ?_
    rintro e w3 ⟨v3, rfl, hv3, hb3⟩
    rw [HZ.out, HB.out] at hv3
    have hbb := below_next hb hb3
    have HV3 : Hid (Sl w3 v3 xs) := hv3
    clear hb hb3 hv3
    go_wp2_with fail
    refine (same_any _ _ xs xs _ HV3.out (HV.out.later hbb)).mono ?_
    rintro e w4 ⟨he, hb4⟩
    rw [sameB_refl] at he
    subst he
    have hbf := below_next hbb hb4
    clear hbb hb4
    generalize numOf xs = N at *
    go_wp2
    all_goals go_ret
    all_goals exact ⟨rfl, hbf⟩
end Go.Proofs.Ytdbmncdkbmoaiaa
