/- The contracts of what finds a root: the product of two numbers of 64 bits, a power of 128 bits, whether a number is below the root, and the root itself. Conditions: the ranges named in each. -/
import Derived.Test.YtilfmemfnheppaaDoorPA
import Derived.Shelf.Bits.Mul64
namespace Go.Proofs.YtilfmemfnheppaaDoor.Pr
open Go.RowKit Go.Shelf
set_option linter.unusedVariables false

theorem mMul (a b : Nat) : (a : Int) * (b : Int) = ((a * b : Nat) : Int) := (Int.natCast_mul a b).symm
theorem mAdd (a b : Nat) : (a : Int) + (b : Int) = ((a + b : Nat) : Int) := (Int.natCast_add a b).symm

/-- the shelf's numbers at this program -/
def mulRen : Ren := ⟨fun x => if x = 264 then 57 else x, fun t => if t = 53 then 45 else if t = 46 then 54 else t, fun x => x⟩
theorem mulLays : Lays.n264 Tryd.prog mulRen where
  mixed := by kernel_rfl
  f264 := Tryd.func57.trans (congrArg some (by kernel_rfl))
  t46 := Tryd.underlying54
  a46 := Tryd.isAgg54
  z46 := Tryd.sizeOf54
  v46 := Tryd.zeroValue54
  t53 := Tryd.underlying45
  a53 := Tryd.isAgg45
  z53 := Tryd.sizeOf45
  v53 := Tryd.zeroValue45

/-- the product of two numbers of 64 bits, its higher and its lower half: off the shelf -/
theorem mul_any (x y : Nat) (hx : x < 18446744073709551616) (hy : y < 18446744073709551616) (w : World) :
    Calls Tryd.prog 57 #[.int .u64 x, .int .u64 y] w fun e w' => e = .returned (.tuple #[.int .u64 ((x * y / 18446744073709551616 : Nat) : Int), .int .u64 ((x * y % 18446744073709551616 : Nat) : Int)]) ∧ w' = w :=
  Any.bits_Mul64 mulLays x y hx hy w

theorem pow_bd (x k j : Nat) (hx : x < 137438953472) (hj : j < k) (hk : k ≤ 3) : x ^ (j + 1) < 2596148429267413814265248164610048 := by
  have h1 : x ^ (j + 1) ≤ 137438953471 ^ (j + 1) := Nat.pow_le_pow_left (by omega) _
  have h2 : 137438953471 ^ (j + 1) ≤ 137438953471 ^ 3 := Nat.pow_le_pow_right (by omega) (by omega)
  have h3 : 137438953471 ^ 3 < 2596148429267413814265248164610048 := by decide
  omega

/-- a step of the power: P = H M + L, so P x = (H x + L x / M) M + L x % M -/
theorem pow_step (P x : Nat) : P / 18446744073709551616 * x + P % 18446744073709551616 * x / 18446744073709551616 = P * x / 18446744073709551616 ∧
    P % 18446744073709551616 * x % 18446744073709551616 = P * x % 18446744073709551616 := by
  have e : P * x = 18446744073709551616 * (P / 18446744073709551616 * x) + P % 18446744073709551616 * x := by
    rw [← Nat.mul_assoc, ← Nat.add_mul, Nat.div_add_mod]
  rw [e]
  omega

theorem ret_two {k l : IntKind} {a b c d : Int} (h : a = b) (h' : c = d) : Ending.returned (.tuple #[.int k a, .int l c]) = .returned (.tuple #[.int k b, .int l d]) := by rw [h, h']

set_option maxHeartbeats 1000000 in
theorem power_any (x k : Nat) (hx : x < 137438953472) (hk : k ≤ 3) (w : World) :
    Calls Tryd.prog 55 #[.int .u64 x, .int .i64 k] w fun e w' => e = .returned (.tuple #[.int .u64 ((x ^ k / 18446744073709551616 : Nat) : Int), .int .u64 ((x ^ k % 18446744073709551616 : Nat) : Int)]) ∧ w' = w := by
  go_enter Tryd.func55, Tryd.ntmps55
  go_wp2
  go_loop [4, 5, 9] (fun h l i => ∃ j : Nat, j ≤ k ∧ i = .int .i64 j ∧ h = .int .u64 ((x ^ j / 18446744073709551616 : Nat) : Int) ∧ l = .int .u64 ((x ^ j % 18446744073709551616 : Nat) : Int)) (fun _ _ i => k - (intOf i).toNat)
  case atStart => exact ⟨0, by omega, rfl, by rw [Nat.pow_zero]; rfl, by rw [Nat.pow_zero]; rfl⟩
  case round =>
    obtain ⟨j, hj, rfl, rfl, rfl⟩ := hrel
    by_cases hlt : j < k
    · have hP := pow_bd x k j hx hlt hk
      have e0 : x ^ (j + 1) = x ^ j * x := Nat.pow_succ x j
      obtain ⟨e1, e2⟩ := pow_step (x ^ j) x
      rw [e0] at hP
      have HR : Hid (x ^ (j + 1) / 18446744073709551616 = x ^ j / 18446744073709551616 * x + x ^ j % 18446744073709551616 * x / 18446744073709551616 ∧ x ^ (j + 1) % 18446744073709551616 = x ^ j % 18446744073709551616 * x % 18446744073709551616) := by rw [e0, e1, e2]; exact ⟨rfl, rfl⟩
      have hlt' : (j : Int) < (k : Int) := by omega
      have hl : x ^ j % 18446744073709551616 < 18446744073709551616 := Nat.mod_lt _ (by omega)
      have hb1 : x ^ j / 18446744073709551616 * x + x ^ j % 18446744073709551616 * x / 18446744073709551616 < 18446744073709551616 := by omega
      clear e0 e1 e2 hP
      generalize x ^ j / 18446744073709551616 = H at *
      generalize x ^ j % 18446744073709551616 = L at *
      obtain ⟨c, hc⟩ : ∃ c, c = L * x / 18446744073709551616 := ⟨_, rfl⟩
      have hx' : x < 18446744073709551616 := by omega
      rw [← hc] at hb1
      have g1 : (0 : Int) ≤ (H : Int) * x := by rw [mMul]; omega
      have g2 : (H : Int) * x + c < 18446744073709551616 := by rw [mMul, mAdd]; omega
      have HC : Hid (c = L * x / 18446744073709551616) := hc
      clear hc
      go_wp2_with (go_at_call 57; refine (mul_any L x hl hx' _).mono ?_; rintro e w1 ⟨rfl, rfl⟩; rw [← HC.out])
      go_round
      case rel =>
        refine ⟨j + 1, by omega, by go_num, ?_, ?_⟩
        · rw [HR.out.1, ← HC.out]; simp
        · rw [HR.out.2]; simp
      case measure => simp [intOf]; omega
    · go_wp2
      go_ret2
      have e : j = k := by omega
      subst e
      exact ⟨rfl, rfl⟩
/-- x^k at most p 2^(32 k)? -/
def fitB (p k x : Nat) : Bool := decide (x ^ k ≤ p * 2 ^ (32 * k))

theorem fit_case (P B : Nat) : (P / 18446744073709551616 < B ∨ P / 18446744073709551616 = B ∧ P % 18446744073709551616 = 0) ↔ P ≤ B * 18446744073709551616 := by
  omega

theorem fitB_eq (p k x B : Nat) (h : p * 2 ^ (32 * k) = B * 18446744073709551616) :
    fitB p k x = (decide (x ^ k / 18446744073709551616 < B) || (decide (x ^ k / 18446744073709551616 = B) && decide (x ^ k % 18446744073709551616 = 0))) := by
  unfold fitB
  rw [h]
  have := fit_case (x ^ k) B
  rw [Bool.eq_iff_iff]
  simp only [decide_eq_true_iff, Bool.or_eq_true, Bool.and_eq_true]
  exact this.symm

set_option maxHeartbeats 1000000 in
theorem fits_two (x p : Nat) (hx : x < 137438953472) (hp : p ≤ 1000) (w : World) :
    Calls Tryd.prog 52 #[.int .u64 x, .int .i64 p, .int .i64 2] w fun e w' => e = .returned (.bool (fitB p 2 x)) ∧ w' = w := by
  have hB : p * 2 ^ (32 * 2) = p * 18446744073709551616 := by rw [show (2 : Nat) ^ (32 * 2) = 18446744073709551616 from by decide]
  rw [fitB_eq p 2 x p hB]
  have hP := power_any x 2 hx (by omega)
  clear hB
  generalize x ^ 2 = P at *
  have hl : P % 18446744073709551616 < 18446744073709551616 := Nat.mod_lt _ (by omega)
  generalize P / 18446744073709551616 = H at *
  generalize P % 18446744073709551616 = L at *
  go_enter Tryd.func52, Tryd.ntmps52
  go_wp2_with (go_at_call 55; refine (hP _).mono ?_; rintro e w1 ⟨rfl, rfl⟩)
  all_goals go_ret
  all_goals refine ⟨ret_bool ?_, rfl⟩
  all_goals (rw [Bool.eq_iff_iff]; simp; omega)

set_option maxHeartbeats 1000000 in
theorem fits_step (x H L B : Nat) (p : Int) (hl : L < 18446744073709551616) (hx : x < 137438953472) (hp0 : 0 ≤ p) (hp : p ≤ 1000) (hb : Hid (p * 4294967296 = B)) (w : World)
    (hP : ∀ w : World, Calls Tryd.prog 55 #[.int .u64 x, .int .i64 3] w fun e w' => e = .returned (.tuple #[.int .u64 H, .int .u64 L]) ∧ w' = w) :
    Calls Tryd.prog 52 #[.int .u64 x, .int .i64 p, .int .i64 3] w fun e w' => e = .returned (.bool (decide (H < B) || decide (H = B) && decide (L = 0))) ∧ w' = w := by
  go_enter Tryd.func52, Tryd.ntmps52
  go_wp2_with (go_at_call 55; refine (hP _).mono ?_; rintro e w1 ⟨rfl, rfl⟩)
  all_goals go_ret
  all_goals refine ⟨ret_bool ?_, rfl⟩
  all_goals (have hb := hb.out; rw [Bool.eq_iff_iff]; simp; omega)

theorem fits_three (x p B : Nat) (hx : x < 137438953472) (hp : p ≤ 1000) (hb : (p : Int) * 4294967296 = B) (w : World) :
    Calls Tryd.prog 52 #[.int .u64 x, .int .i64 p, .int .i64 3] w fun e w' => e = .returned (.bool (fitB p 3 x)) ∧ w' = w := by
  have hB : p * 2 ^ (32 * 3) = B * 18446744073709551616 := by
    rw [show (2 : Nat) ^ (32 * 3) = 4294967296 * 18446744073709551616 from by decide, ← Nat.mul_assoc]
    congr 1
    omega
  rw [fitB_eq p 3 x B hB]
  exact fits_step x _ _ B p (Nat.mod_lt _ (by omega)) hx (by omega) (by omega) hb w (power_any x 3 hx (by omega))

/-- the root's search: s halvings to go, from low on -/
def rtGo (p k : Nat) : Nat → Nat → Nat
  | 0, low => low
  | s + 1, low => if fitB p k (low + 2 ^ s) = true then rtGo p k s (low + 2 ^ s) else rtGo p k s low
/-- the k-th root of p, times 2^32, without what is over -/
def rt (p k : Nat) : Nat := rtGo p k 37 0

theorem rtGo_spec (p k : Nat) : ∀ s low, low ^ k ≤ p * 2 ^ (32 * k) → p * 2 ^ (32 * k) < (low + 2 ^ s) ^ k →
    (rtGo p k s low) ^ k ≤ p * 2 ^ (32 * k) ∧ p * 2 ^ (32 * k) < (rtGo p k s low + 1) ^ k := by
  intro s
  induction s with
  | zero => intro low h1 h2; exact ⟨h1, by simpa [rtGo] using h2⟩
  | succ s ih =>
    intro low h1 h2
    unfold rtGo
    split
    · rename_i h
      unfold fitB at h
      rw [decide_eq_true_iff] at h
      refine ih _ h ?_
      rw [Nat.add_assoc, show 2 ^ s + 2 ^ s = 2 ^ (s + 1) from by rw [Nat.pow_succ]; omega]
      exact h2
    · rename_i h
      unfold fitB at h
      rw [decide_eq_true_iff] at h
      exact ih _ h1 (by omega)

theorem rt_spec (p k : Nat) (hp : p ≤ 1000) (hk : k = 2 ∨ k = 3) :
    (rt p k) ^ k ≤ p * 2 ^ (32 * k) ∧ p * 2 ^ (32 * k) < (rt p k + 1) ^ k := by
  refine rtGo_spec p k 37 0 ?_ ?_
  · rcases hk with rfl | rfl <;> simp
  · rcases hk with rfl | rfl
    · have : (0 + 2 ^ 37) ^ 2 = 1024 * 2 ^ (32 * 2) := by decide
      rw [this]
      exact Nat.mul_lt_mul_of_pos_right (by omega) (by decide)
    · have : (0 + 2 ^ 37) ^ 3 = 32768 * 2 ^ (32 * 3) := by decide
      rw [this]
      exact Nat.mul_lt_mul_of_pos_right (by omega) (by decide)

theorem ret_root {a b : Int} (h : a = b) : Ending.returned (.tuple #[.int .u32 a, .int .i64 0]) = .returned (.tuple #[.int .u32 b, .int .i64 0]) := by rw [h]

set_option maxHeartbeats 1000000 in
theorem root_any (p k : Nat) (hp2 : 2 ≤ p) (hp : p ≤ 1000) (hk : k = 2 ∨ k = 3) (w : World) :
    Calls Tryd.prog 49 #[.int .i64 p, .int .i64 k] w fun e w' => e = .returned (.tuple #[.int .u32 ((rt p k % 4294967296 : Nat) : Int), .int .i64 0]) ∧ w' = w := by
  have hf : ∀ x : Nat, x < 137438953472 → ∀ w, Calls Tryd.prog 52 #[.int .u64 x, .int .i64 p, .int .i64 k] w fun e w' => e = .returned (.bool (fitB p k x)) ∧ w' = w := by
    intro x hx w
    rcases hk with rfl | rfl
    · exact fits_two x p hx hp w
    · exact fits_three x p (p * 4294967296) hx hp (by simp) w
  have hk2 : 2 ≤ k := by omega
  have hk3 : k ≤ 3 := by omega
  clear hk
  go_enter Tryd.func49, Tryd.ntmps49
  go_wp2
  go_loop [6, 7, 23] (fun l h i => ∃ s L g : Nat, s ≤ 37 ∧ i = .int .i64 (37 - s : Int) ∧ l = .int .u64 L ∧ h = .int .u64 (L + g : Int) ∧ Hid (g = 2 ^ s) ∧ L + g ≤ 137438953472 ∧ rtGo p k s L = rt p k) (fun _ _ i => (37 - intOf i).toNat)
  case atStart => exact ⟨37, 0, 2 ^ 37, by omega, rfl, rfl, rfl, (show Hid _ from rfl), by decide, rfl⟩
  case round =>
    obtain ⟨s, L, g, hs, rfl, rfl, rfl, hg, hLg, hrt⟩ := hrel
    match s, hs, hg, hrt with
    | 0, hs, hg, hrt =>
      go_wp2
      go_ret2
      refine ⟨ret_root ?_, rfl⟩
      rw [← hrt]
      simp [rtGo]
    | t + 1, hs, hg, hrt =>
      obtain ⟨q, hq⟩ : ∃ q, q = 2 ^ t := ⟨_, rfl⟩
      replace hg := hg.out
      rw [Nat.pow_succ, ← hq] at hg
      have hq1 : 1 ≤ q := by rw [hq]; exact Nat.one_le_two_pow
      have hmid : ((L : Int) + ((L : Int) + g)) / 2 = ((L + q : Nat) : Int) := by omega
      have hc : Hid (∀ b, fitB p k (L + q) = b → rtGo p k t (if b = true then L + q else L) = rt p k) := by
        intro b hb
        rw [← hrt, rtGo, ← hq, hb]
        split <;> rfl
      have HQ : Hid (q = 2 ^ t ∧ g = q * 2) := ⟨hq, hg⟩
      have hLq : L + q < 137438953472 := by omega
      clear hq hg
      have hF := hf (L + q) hLq
      clear hf
      generalize fitB p k (L + q) = b at *
      cases b
      · go_wp2_with (go_at_call 52; rw [hmid]; refine (hF _).mono ?_; rintro e w1 ⟨rfl, rfl⟩)
        go_round
        case rel =>
          have := HQ.out
          refine ⟨t, L, q, by omega, by go_num, rfl, by go_num, (show Hid _ from this.1), by omega, by have := hc.out _ rfl; simpa using this⟩
        case measure => simp [intOf]; omega
      · go_wp2_with (go_at_call 52; rw [hmid]; refine (hF _).mono ?_; rintro e w1 ⟨rfl, rfl⟩)
        go_round
        case rel =>
          have := HQ.out
          refine ⟨t, L + q, q, by omega, by go_num, by go_num, by go_num, (show Hid _ from this.1), by omega, by have := hc.out _ rfl; simpa using this⟩
        case measure => simp [intOf]; omega

set_option maxHeartbeats 400000 in
theorem root_no (p k : Int) (h : p < 2 ∨ 1000 < p ∨ k < 2 ∨ 3 < k) (w : World) :
    Calls Tryd.prog 49 #[.int .i64 p, .int .i64 k] w fun e w' => e = .returned (.tuple #[.int .u32 0, .int .i64 1]) ∧ w' = w := by
  by_cases h1 : p < 2
  · go_enter Tryd.func49, Tryd.ntmps49
    go_wp2
    go_ret2
    exact ⟨rfl, rfl⟩
  by_cases h2 : 1000 < p
  · go_enter Tryd.func49, Tryd.ntmps49
    go_wp2
    go_ret2
    exact ⟨rfl, rfl⟩
  by_cases h3 : k < 2
  · go_enter Tryd.func49, Tryd.ntmps49
    go_wp2
    go_ret2
    exact ⟨rfl, rfl⟩
  have h4 : 3 < k := by omega
  go_enter Tryd.func49, Tryd.ntmps49
  go_wp2
  go_ret2
  exact ⟨rfl, rfl⟩
end Go.Proofs.YtilfmemfnheppaaDoor.Pr
