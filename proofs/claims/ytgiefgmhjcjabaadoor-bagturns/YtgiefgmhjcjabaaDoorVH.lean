/- The contracts of the library's own that compare numbers and texts, and of what takes the first that is not nought. No conditions. -/
import Derived.Test.YtgiefgmhjcjabaaDoorBV
import Derived.Lib.Bytealg
import Derived.Lib.Small
namespace Go.Proofs.YtgiefgmhjcjabaaDoor
open Go.RowKit Go.PlainAid
set_option linter.unusedVariables false

theorem ret_i {k : IntKind} {a b : Int} (h : a = b) : Ending.returned (.int k a) = .returned (.int k b) := by rw [h]

theorem nan3_any (x : Int) (w : World) : Calls Tryd.prog 54 #[.int .i64 x] w fun e w' => e = .returned (.bool false) ∧ w' = w := by
  go_enter Tryd.func54, Tryd.ntmps54
  go_wp2
  go_ret
  exact ⟨ret_b (by simp), rfl⟩
theorem nan2_any (x : Int) (w : World) : Calls Tryd.prog 55 #[.int .i64 x] w fun e w' => e = .returned (.bool false) ∧ w' = w := by
  go_enter Tryd.func55, Tryd.ntmps55
  go_wp2
  go_ret
  exact ⟨ret_b (by simp), rfl⟩
theorem cmp3_any (x y : Int) (w : World) : Calls Tryd.prog 44 #[.int .i64 x, .int .i64 y] w fun e w' => e = .returned (.int .i64 (Lib.compareInt x y)) ∧ w' = w := by
  go_enter Tryd.func44, Tryd.ntmps44
  go_wp2_with (go_at_call 54; refine (nan3_any _ _).mono ?_; rintro e w1 ⟨rfl, rfl⟩)
  all_goals go_ret
  all_goals refine ⟨ret_i ?_, rfl⟩
  all_goals unfold Lib.compareInt
  all_goals (repeat' split)
  all_goals first | rfl | omega
theorem cmp2_any (x y : Int) (w : World) : Calls Tryd.prog 45 #[.int .i64 x, .int .i64 y] w fun e w' => e = .returned (.int .i64 (Lib.compareInt x y)) ∧ w' = w := by
  go_enter Tryd.func45, Tryd.ntmps45
  go_wp2_with (go_at_call 55; refine (nan2_any _ _).mono ?_; rintro e w1 ⟨rfl, rfl⟩)
  all_goals go_ret
  all_goals refine ⟨ret_i ?_, rfl⟩
  all_goals unfold Lib.compareInt
  all_goals (repeat' split)
  all_goals first | rfl | omega

theorem cmpS_any (a b : ByteArray) (w : World) : Calls Tryd.prog 56 #[.string a, .string b] w fun e w' => e = .returned (.int .i64 (Lib.compareBytes a.data.toList b.data.toList)) ∧ w' = w := by
  go_enter Tryd.func56, Tryd.ntmps56
  go_wp2
  rw [run_callFunc_extern Tryd.func59 (by kernel_rfl) (by kernel_rfl) (by kernel_rfl) (e := Extern.BytealgCompare.compare) (by kernel_rfl), Lib.run_compareString]
  simp only [Result.andThen]
  rw [Oper.upon_value]
  go_wp2
  go_ret
  exact ⟨rfl, rfl⟩
theorem cmp9_any (a b : ByteArray) (w : World) : Calls Tryd.prog 46 #[.string a, .string b] w fun e w' => e = .returned (.int .i64 (Lib.compareBytes a.data.toList b.data.toList)) ∧ w' = w := by
  go_enter Tryd.func46, Tryd.ntmps46
  go_wp2_with (go_at_call 56; refine (cmpS_any _ _ _).mono ?_; rintro e w1 ⟨rfl, rfl⟩)
  go_ret
  exact ⟨rfl, rfl⟩

/-- the first of three that is not nought -/
def or3 (a b c : Int) : Int := if a ≠ 0 then a else if b ≠ 0 then b else c
theorem or3_a {a b c : Int} (h : a ≠ 0) : or3 a b c = a := if_pos h
theorem or3_b {a b c : Int} (h : a = 0) (k : b ≠ 0) : or3 a b c = b := by unfold or3; rw [if_neg (by omega), if_pos k]
theorem or3_c {a b c : Int} (h : a = 0) (k : b = 0) : or3 a b c = c := by unfold or3; rw [if_neg (by omega), if_neg (by omega)]

set_option maxHeartbeats 800000 in
theorem or_any (p : Nat) (a b c : Int) (w : World) (h0 : w.cell? ⟨p, 0, none⟩ = some (.int .i64 a)) (h1 : w.cell? ⟨p, 1, none⟩ = some (.int .i64 b)) (h2 : w.cell? ⟨p, 2, none⟩ = some (.int .i64 c)) :
    Calls Tryd.prog 43 #[.slice (some ⟨p, 0, none⟩) 3 3] w fun e w' => e = .returned (.int .i64 (or3 a b c)) ∧ w' = w := by
  go_enter Tryd.func43, Tryd.ntmps43
  go_wp2
  go_loop [8] (fun i => ∃ k : Nat, k ≤ 3 ∧ i = .int .i64 (k : Int) ∧ ((0 < k → a = 0) ∧ (1 < k → b = 0) ∧ (2 < k → c = 0))) (fun i => 3 - (intOf i).toNat)
  case atStart => exact ⟨0, by omega, rfl, fun h => by omega, fun h => by omega, fun h => by omega⟩
  case round =>
    obtain ⟨k, hk, rfl, hA⟩ := hrel
    have HA : Hid ((0 < k → a = 0) ∧ (1 < k → b = 0) ∧ (2 < k → c = 0)) := hA
    clear hA
    rcases (by omega : k = 0 ∨ k = 1 ∨ k = 2 ∨ k = 3) with rfl | rfl | rfl | rfl
    · by_cases hx : a = 0
      · have hx' : (a == 0) = true := by simp [hx]
        have HX : Hid (a = 0) := hx
        clear hx
        go_wp2
        go_round
        case rel => exact ⟨1, by omega, rfl, fun _ => HX.out, fun h => by omega, fun h => by omega⟩
        case measure => simp [intOf]
      · have hx' : (a == 0) = false := by simp [hx]
        have HX : Hid (a ≠ 0) := hx
        clear hx
        go_wp2
        go_ret
        exact ⟨ret_i (or3_a HX.out).symm, rfl⟩
    · by_cases hx : b = 0
      · have hx' : (b == 0) = true := by simp [hx]
        have HX : Hid (b = 0) := hx
        clear hx
        go_wp2
        go_round
        case rel => exact ⟨2, by omega, rfl, fun _ => HA.out.1 (by omega), fun _ => HX.out, fun h => by omega⟩
        case measure => simp [intOf]
      · have hx' : (b == 0) = false := by simp [hx]
        have HX : Hid (b ≠ 0) := hx
        clear hx
        go_wp2
        go_ret
        exact ⟨ret_i (or3_b (HA.out.1 (by omega)) HX.out).symm, rfl⟩
    · by_cases hx : c = 0
      · have hx' : (c == 0) = true := by simp [hx]
        have HX : Hid (c = 0) := hx
        clear hx
        go_wp2
        go_round
        case rel => exact ⟨3, by omega, rfl, fun _ => HA.out.1 (by omega), fun _ => HA.out.2.1 (by omega), fun _ => HX.out⟩
        case measure => simp [intOf]
      · have hx' : (c == 0) = false := by simp [hx]
        have HX : Hid (c ≠ 0) := hx
        clear hx
        go_wp2
        go_ret
        exact ⟨ret_i (or3_c (HA.out.1 (by omega)) (HA.out.2.1 (by omega))).symm, rfl⟩
    · go_wp2
      go_ret
      exact ⟨ret_i (by rw [or3_c (HA.out.1 (by omega)) (HA.out.2.1 (by omega)), HA.out.2.2 (by omega)]), rfl⟩
end Go.Proofs.YtgiefgmhjcjabaaDoor
