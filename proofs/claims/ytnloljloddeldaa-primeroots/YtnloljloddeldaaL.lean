/- The walk of PrimeRoots: the program's Root is the fraction that the document asks for, and ErrArg beyond. No conditions. -/
import Derived.Test.YtnloljloddeldaaK
namespace Go.Proofs.Ytnloljloddeldaa
open Go.RowKit
set_option linter.unusedVariables false

set_option maxHeartbeats 1000000 in
theorem roots_no (p k : Int) (h : p < 2 ∨ 1000 < p ∨ k < 2 ∨ 3 < k) (w : World) :
    Calls Try.prog 5 #[.int .i64 p, .int .i64 k] w fun e w' => e = .returned (.bool true) ∧ Below w.heap.size w w' := by
  have HR : Hid (∀ w, Calls Try.prog 12 #[.int .i64 p, .int .i64 k] w fun e w' => e = .returned (.tuple #[.int .u32 0, .int .i64 1]) ∧ w' = w) := fun w => root_no p k h w
  by_cases h1 : p < 2
  · go_enter Try.func5, Try.ntmps5
    go_wp2_with fail
    refine (wakes_any _).mono ?_
    rintro e w1 ⟨rfl, hb1⟩
    go_wp2_with fail
    refine (HR.out _).mono ?_
    rintro e w2 ⟨rfl, rfl⟩
    go_wp2
    go_ret
    exact ⟨rfl, hb1⟩
  by_cases h2 : 1000 < p
  · go_enter Try.func5, Try.ntmps5
    go_wp2_with fail
    refine (wakes_any _).mono ?_
    rintro e w1 ⟨rfl, hb1⟩
    go_wp2_with fail
    refine (HR.out _).mono ?_
    rintro e w2 ⟨rfl, rfl⟩
    go_wp2
    go_ret
    exact ⟨rfl, hb1⟩
  have h3 : (k != 2) = true := by simp; omega
  have h4 : (k != 3) = true := by simp; omega
  clear h
  go_enter Try.func5, Try.ntmps5
  go_wp2_with fail
  refine (wakes_any _).mono ?_
  rintro e w1 ⟨rfl, hb1⟩
  go_wp2_with fail
  refine (HR.out _).mono ?_
  rintro e w2 ⟨rfl, rfl⟩
  go_wp2
  go_ret
  exact ⟨rfl, hb1⟩

set_option maxHeartbeats 1000000 in
theorem roots_two (p f : Nat) (hp2 : 2 ≤ p) (hp : p ≤ 1000)
    (r1 : ∀ w, Calls Try.prog 12 #[.int .i64 p, .int .i64 2] w fun e w' => e = .returned (.tuple #[.int .u32 f, .int .i64 0]) ∧ w' = w)
    (r2 : ∀ w, Calls Try.prog 13 #[.int .i64 p, .int .i64 2, .int .u32 f] w fun e w' => e = .returned (.bool true) ∧ Below w.heap.size w w') (w : World) :
    Calls Try.prog 5 #[.int .i64 p, .int .i64 2] w fun e w' => e = .returned (.bool true) ∧ Below w.heap.size w w' := by
  go_enter Try.func5, Try.ntmps5
  go_wp2_with fail
  refine (wakes_any _).mono ?_
  rintro e w1 ⟨rfl, hb1⟩
  go_wp2_with fail
  refine (r1 _).mono ?_
  rintro e w2 ⟨rfl, rfl⟩
  go_wp2_with fail
  refine (r2 _).mono ?_
  rintro e w3 ⟨rfl, hb3⟩
  go_wp2
  go_ret
  exact ⟨rfl, below_next hb1 (Nat.le_refl _) hb3⟩

set_option maxHeartbeats 1000000 in
theorem roots_three (p f : Nat) (hp2 : 2 ≤ p) (hp : p ≤ 1000)
    (r1 : ∀ w, Calls Try.prog 12 #[.int .i64 p, .int .i64 3] w fun e w' => e = .returned (.tuple #[.int .u32 f, .int .i64 0]) ∧ w' = w)
    (r2 : ∀ w, Calls Try.prog 13 #[.int .i64 p, .int .i64 3, .int .u32 f] w fun e w' => e = .returned (.bool true) ∧ Below w.heap.size w w') (w : World) :
    Calls Try.prog 5 #[.int .i64 p, .int .i64 3] w fun e w' => e = .returned (.bool true) ∧ Below w.heap.size w w' := by
  go_enter Try.func5, Try.ntmps5
  go_wp2_with fail
  refine (wakes_any _).mono ?_
  rintro e w1 ⟨rfl, hb1⟩
  go_wp2_with fail
  refine (r1 _).mono ?_
  rintro e w2 ⟨rfl, rfl⟩
  go_wp2_with fail
  refine (r2 _).mono ?_
  rintro e w3 ⟨rfl, hb3⟩
  go_wp2
  go_ret
  exact ⟨rfl, below_next hb1 (Nat.le_refl _) hb3⟩

theorem law_roots (p k : Int) (w : World) :
    Calls Try.prog 5 #[.int .i64 p, .int .i64 k] w fun e w' => e = .returned (.bool true) ∧ Below w.heap.size w w' := by
  by_cases h : p < 2 ∨ 1000 < p ∨ k < 2 ∨ 3 < k
  · exact roots_no p k h w
  obtain ⟨q, rfl⟩ : ∃ q : Nat, p = q := ⟨p.toNat, by omega⟩
  have hk : k = 2 ∨ k = 3 := by omega
  rcases hk with rfl | rfl
  · exact roots_two q _ (by omega) (by omega) (fun w => root_any q 2 (by omega) (by omega) (.inl rfl) w) (fun w => rfits_any q 2 (by omega) (by omega) (.inl rfl) _ rfl w) w
  · exact roots_three q _ (by omega) (by omega) (fun w => root_any q 3 (by omega) (by omega) (.inr rfl) w) (fun w => rfits_any q 3 (by omega) (by omega) (.inr rfl) _ rfl w) w
end Go.Proofs.Ytnloljloddeldaa
