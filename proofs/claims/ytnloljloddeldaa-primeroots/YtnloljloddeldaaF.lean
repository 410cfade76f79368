/- The walk of PrimeSquares: squares and cubes have roots without a fraction, their neighbours below have one. No conditions. -/
import Derived.Test.YtnloljloddeldaaE
namespace Go.Proofs.Ytnloljloddeldaa
open Go.RowKit
set_option linter.unusedVariables false

theorem sq_facts : ∀ n, n < 32 → 2 ≤ n → rt (n * n) 2 % 4294967296 = 0 ∧ rt (n * n - 1) 2 % 4294967296 ≠ 0 := by decide +kernel
theorem cu_facts : ∀ n, n < 11 → 2 ≤ n → rt (n * n * n) 3 % 4294967296 = 0 ∧ rt (n * n * n - 1) 3 % 4294967296 ≠ 0 := by decide +kernel
theorem sq_bd : ∀ n : Nat, n < 32 → 2 ≤ n → 4 ≤ n * n ∧ n * n ≤ 961 := by decide +kernel
theorem cu_bd : ∀ n : Nat, n < 11 → 2 ≤ n → 8 ≤ n * n * n ∧ n * n * n ≤ 1000 := by decide +kernel

theorem root_at (x : Int) (p k : Nat) (hx : x = p) (hp2 : 2 ≤ p) (hp : p ≤ 1000) (hk : k = 2 ∨ k = 3) (w : World) :
    Calls Try.prog 12 #[.int .i64 x, .int .i64 k] w fun e w' => e = .returned (.tuple #[.int .u32 ((rt p k % 4294967296 : Nat) : Int), .int .i64 0]) ∧ w' = w := by
  rw [hx]; exact root_any p k hp2 hp hk w

set_option maxHeartbeats 1000000 in
theorem squares_big (x y : Int) (m b : Nat) (hm : m < 32) (hm11 : 11 ≤ m) (hb : b ≠ 0) (hx : (m : Int) * m = x) (hy : x - 1 = y) (hx0 : 4 ≤ x) (hx1 : x ≤ 961)
    (r1 : ∀ w, Calls Try.prog 12 #[.int .i64 x, .int .i64 2] w fun e w' => e = .returned (.tuple #[.int .u32 0, .int .i64 0]) ∧ w' = w)
    (r2 : ∀ w, Calls Try.prog 12 #[.int .i64 y, .int .i64 2] w fun e w' => e = .returned (.tuple #[.int .u32 b, .int .i64 0]) ∧ w' = w) (w : World) :
    Calls Try.prog 6 #[.int .i64 m] w fun e w' => e = .returned (.bool true) ∧ Below w.heap.size w w' := by
  have hb' : ((b : Int) == 0) = false := by simp; exact hb
  go_enter Try.func6, Try.ntmps6
  go_wp2_with fail
  refine (wakes_any _).mono ?_
  rintro e w1 ⟨rfl, hb1⟩
  go_wp2_with fail
  refine (r1 _).mono ?_
  rintro e w2 ⟨rfl, rfl⟩
  go_wp2_with fail
  refine (r2 _).mono ?_
  rintro e w3 ⟨rfl, rfl⟩
  go_wp2
  go_ret
  exact ⟨rfl, hb1⟩

set_option maxHeartbeats 1000000 in
theorem squares_small (x y z u : Int) (m b d : Nat) (hm : m < 11) (hm2 : 2 ≤ m) (hb : b ≠ 0) (hd : d ≠ 0) (hx : (m : Int) * m = x) (hy : x - 1 = y) (hz : x * m = z) (hu : z - 1 = u) (hx0 : 4 ≤ x) (hx1 : x ≤ 961) (hz0 : 8 ≤ z) (hz1 : z ≤ 1000)
    (r1 : ∀ w, Calls Try.prog 12 #[.int .i64 x, .int .i64 2] w fun e w' => e = .returned (.tuple #[.int .u32 0, .int .i64 0]) ∧ w' = w)
    (r2 : ∀ w, Calls Try.prog 12 #[.int .i64 y, .int .i64 2] w fun e w' => e = .returned (.tuple #[.int .u32 b, .int .i64 0]) ∧ w' = w)
    (r3 : ∀ w, Calls Try.prog 12 #[.int .i64 z, .int .i64 3] w fun e w' => e = .returned (.tuple #[.int .u32 0, .int .i64 0]) ∧ w' = w)
    (r4 : ∀ w, Calls Try.prog 12 #[.int .i64 u, .int .i64 3] w fun e w' => e = .returned (.tuple #[.int .u32 d, .int .i64 0]) ∧ w' = w) (w : World) :
    Calls Try.prog 6 #[.int .i64 m] w fun e w' => e = .returned (.bool true) ∧ Below w.heap.size w w' := by
  have hb' : ((b : Int) == 0) = false := by simp; exact hb
  have hd' : ((d : Int) != 0) = true := by simp; exact hd
  go_enter Try.func6, Try.ntmps6
  go_wp2_with fail
  refine (wakes_any _).mono ?_
  rintro e w1 ⟨rfl, hb1⟩
  go_wp2_with fail
  refine (r1 _).mono ?_
  rintro e w2 ⟨rfl, rfl⟩
  go_wp2_with fail
  refine (r2 _).mono ?_
  rintro e w3 ⟨rfl, rfl⟩
  go_wp2_with fail
  refine (r3 _).mono ?_
  rintro e w4 ⟨rfl, rfl⟩
  go_wp2_with fail
  refine (r4 _).mono ?_
  rintro e w5 ⟨rfl, rfl⟩
  go_wp2
  go_ret
  exact ⟨rfl, hb1⟩

set_option maxHeartbeats 1000000 in
theorem squares_out (n : Int) (h : n < 2 ∨ 31 < n) (w : World) :
    Calls Try.prog 6 #[.int .i64 n] w fun e w' => e = .returned (.bool true) ∧ Below w.heap.size w w' := by
  by_cases ha : n < 2
  · go_enter Try.func6, Try.ntmps6
    go_wp2_with fail
    refine (wakes_any _).mono ?_
    rintro e w1 ⟨rfl, hb1⟩
    go_wp2
    go_ret
    exact ⟨rfl, hb1⟩
  · have hb : 31 < n := by omega
    go_enter Try.func6, Try.ntmps6
    go_wp2_with fail
    refine (wakes_any _).mono ?_
    rintro e w1 ⟨rfl, hb1⟩
    go_wp2
    go_ret
    exact ⟨rfl, hb1⟩

theorem law_squares (n : Int) (w : World) :
    Calls Try.prog 6 #[.int .i64 n] w fun e w' => e = .returned (.bool true) ∧ Below w.heap.size w w' := by
  by_cases h : n < 2 ∨ 31 < n
  · exact squares_out n h w
  obtain ⟨m, rfl⟩ : ∃ m : Nat, n = m := ⟨n.toNat, by omega⟩
  obtain ⟨s1, s2⟩ := sq_facts m (by omega) (by omega)
  obtain ⟨b1, b2⟩ := sq_bd m (by omega) (by omega)
  have c1 : (m : Int) * m = ((m * m : Nat) : Int) := by simp
  have r1 := fun w => root_at ((m : Int) * m) (m * m) 2 c1 (by omega) (by omega) (.inl rfl) w
  have r2 := fun w => root_at ((m : Int) * m - 1) (m * m - 1) 2 (by omega) (by omega) (by omega) (.inl rfl) w
  rw [s1] at r1
  by_cases hm : m < 11
  · obtain ⟨t1, t2⟩ := cu_facts m hm (by omega)
    obtain ⟨d1, d2⟩ := cu_bd m hm (by omega)
    have c2 : (m : Int) * m * m = ((m * m * m : Nat) : Int) := by simp
    have r3 := fun w => root_at ((m : Int) * m * m) (m * m * m) 3 c2 (by omega) (by omega) (.inr rfl) w
    have r4 := fun w => root_at ((m : Int) * m * m - 1) (m * m * m - 1) 3 (by omega) (by omega) (by omega) (.inr rfl) w
    rw [t1] at r3
    exact squares_small _ _ _ _ m _ _ hm (by omega) s2 t2 rfl rfl rfl rfl (by omega) (by omega) (by omega) (by omega) r1 r2 r3 r4 w
  · exact squares_big _ _ m _ (by omega) (by omega) s2 rfl rfl (by omega) (by omega) r1 r2 w
end Go.Proofs.Ytnloljloddeldaa
