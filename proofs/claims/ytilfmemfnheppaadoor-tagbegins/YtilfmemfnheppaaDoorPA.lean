/- What a prime is, and the contracts of the program's Is and of the document's own Is. No conditions. -/
import Derived.Test.YtilfmemfnheppaaDoorRows
import Derived.WalkKit
import Derived.WalkSpells
import Derived.WalkLawsBesides
import Derived.Handy
namespace Go.Proofs.YtilfmemfnheppaaDoor.Pr
open Go.RowKit
set_option linter.unusedVariables false

/-- is n, from 2 to 2^20, a prime? -/
def isB (n : Int) : Bool := decide (2 ≤ n ∧ n ≤ 1048576 ∧ ∀ d : Nat, d < 1025 → 2 ≤ d → (d : Int) * d ≤ n → n % d ≠ 0)

theorem sq_mono {a b : Int} (h0 : 0 ≤ a) (h : a ≤ b) : a * a ≤ b * b := Int.mul_le_mul h h h0 (by omega)

theorem isB_iff (n : Int) : isB n = true ↔ 2 ≤ n ∧ n ≤ 1048576 ∧ ∀ d : Int, 2 ≤ d → d * d ≤ n → n % d ≠ 0 := by
  unfold isB
  rw [decide_eq_true_iff]
  constructor
  · rintro ⟨h1, h2, h3⟩
    refine ⟨h1, h2, fun d hd hdd => ?_⟩
    have hlt : d < 1025 := by
      apply Classical.byContradiction
      intro hn
      have := sq_mono (a := 1025) (b := d) (by omega) (by omega)
      omega
    have := h3 d.toNat (by omega) (by omega)
    rw [show ((d.toNat : Nat) : Int) = d from by omega] at this
    exact this hdd
  · rintro ⟨h1, h2, h3⟩
    exact ⟨h1, h2, fun d _ hd hdd => h3 d (by omega) hdd⟩

theorem isB_out (n : Int) (h : n < 2 ∨ 1048576 < n) : isB n = false := by
  apply Bool.eq_false_iff.2
  intro hb
  have := (isB_iff n).1 hb
  omega

theorem ret_int {k : IntKind} {a b : Int} (h : a = b) : Ending.returned (.int k a) = .returned (.int k b) := by rw [h]
theorem ret_bool {a b : Bool} (h : a = b) : Ending.returned (.bool a) = .returned (.bool b) := by rw [h]

theorem tmod_pos (n k : Int) (h : 0 ≤ n) : n.tmod k = n % k := Int.tmod_eq_emod_of_nonneg h
theorem tdiv_pos (n k : Int) (h : 0 ≤ n) : n.tdiv k = n / k := Int.tdiv_eq_ediv_of_nonneg h

set_option maxHeartbeats 400000 in
theorem is_any (n : Int) (w : World) (h0 : -9223372036854775808 ≤ n) (h1 : n ≤ 9223372036854775807) :
    Calls Tryd.prog 56 #[.int .i64 n] w fun e w' => e = .returned (.bool (isB n)) ∧ w' = w := by
  by_cases ha : n < 2
  · go_enter Tryd.func56, Tryd.ntmps56
    go_wp2
    go_ret
    exact ⟨ret_bool (isB_out n (by omega)).symm, rfl⟩
  by_cases hb : 1048576 < n
  · go_enter Tryd.func56, Tryd.ntmps56
    go_wp2
    go_ret
    exact ⟨ret_bool (isB_out n (by omega)).symm, rfl⟩
  go_enter Tryd.func56, Tryd.ntmps56
  go_wp2
  go_loop [3] (fun d => ∃ k : Int, 2 ≤ k ∧ k ≤ 1025 ∧ d = .int .i64 k ∧ ∀ j, 2 ≤ j → j < k → n % j ≠ 0) (fun d => (1025 - intOf d).toNat)
  case atStart => exact ⟨2, by omega, by omega, rfl, fun j _ _ => by omega⟩
  case round =>
    obtain ⟨k, hk0, hk1, rfl, hno⟩ := hrel
    have HN : Hid (∀ j, 2 ≤ j → j < k → n % j ≠ 0) := hno
    clear hno
    have hkk := sq_mono (a := k) (b := 1025) (by omega) (by omega)
    have hkp := sq_mono (a := 2) (b := k) (by omega) (by omega)
    have htm := tmod_pos n k (by omega)
    by_cases hlt : k * k ≤ n
    · have hk2 : k < 1025 := by
        apply Classical.byContradiction
        intro hn
        have := sq_mono (a := 1025) (b := k) (by omega) (by omega)
        omega
      by_cases he : n % k = 0
      · have he' : (n % k == 0) = true := by simp [he]
        have HE : Hid (n % k = 0) := he
        clear he
        go_wp2
        go_ret
        exact ⟨ret_bool (by symm; apply Bool.eq_false_iff.2; intro hb; exact ((isB_iff n).1 hb).2.2 k hk0 hlt HE.out), rfl⟩
      · have he' : (n % k == 0) = false := by simp [he]
        have HE : Hid (¬ n % k = 0) := he
        clear he
        go_wp2
        go_round
        case rel =>
          refine ⟨k + 1, by omega, by omega, by go_num, fun j hj0 hj1 => ?_⟩
          by_cases hjk : j = k
          · subst hjk; exact HE.out
          · exact HN.out j hj0 (by omega)
        case measure => simp [intOf]; omega
    · go_wp2
      go_ret
      refine ⟨ret_bool (by
        symm
        refine (isB_iff n).2 ⟨by omega, by omega, fun d hd hdd => HN.out d hd ?_⟩
        apply Classical.byContradiction
        intro hn
        have := sq_mono (a := k) (b := d) (by omega) (by omega)
        omega), rfl⟩
theorem div_lt_of (n k : Int) (hk : 2 ≤ k) (h0 : 0 ≤ n) : 0 ≤ n / k ∧ n / k ≤ n := ⟨Int.ediv_nonneg h0 (by omega), Int.ediv_le_self k h0⟩
theorem le_div (n k : Int) (hk : 2 ≤ k) : k ≤ n / k ↔ k * k ≤ n := Int.le_ediv_iff_mul_le (by omega)
theorem div_mul_eq (n k : Int) (hk : 2 ≤ k) (h0 : 0 ≤ n) : 0 ≤ n / k * k ∧ n / k * k ≤ n ∧ (n / k * k = n ↔ n % k = 0) := by
  have h1 := Int.mul_ediv_add_emod n k
  have h2 := Int.emod_nonneg n (show k ≠ 0 by omega)
  have h3 : 0 ≤ n / k * k := Int.mul_nonneg (Int.ediv_nonneg h0 (by omega)) (by omega)
  rw [Int.mul_comm] at h1
  refine ⟨h3, by omega, by omega⟩
end Go.Proofs.YtilfmemfnheppaaDoor.Pr
