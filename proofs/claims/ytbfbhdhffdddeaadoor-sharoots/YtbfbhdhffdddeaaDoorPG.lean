/- Rows of digits of base 256 in memory and what they are worth; the contracts of the document's own at and most. Conditions: the rows lie in memory and are short. -/
import Derived.Test.YtbfbhdhffdddeaaDoorPE
import Derived.Deep.QuietTactic
import Derived.BigQuiet
namespace Go.Proofs.YtbfbhdhffdddeaaDoor.Pr
open Go.RowKit
set_option linter.unusedVariables false

/-- what a row of digits, the lowest first, is worth -/
def val : List Int → Int
  | [] => 0
  | x :: xs => x + 256 * val xs
/-- what it is worth from the j-th digit on -/
def valFrom (xs : List Int) (j : Nat) : Int := val (xs.drop j)

/-- every number of a row is a digit -/
def Dg (xs : List Int) : Prop := ∀ x ∈ xs, 0 ≤ x ∧ x ≤ 255

theorem nth_out (xs : List Int) (i : Nat) (h : xs.length ≤ i) : nth xs i = 0 := by unfold nth; simp [List.getElem?_eq_none h]
theorem nth_bd {xs : List Int} (h : Dg xs) (i : Nat) : 0 ≤ nth xs i ∧ nth xs i ≤ 255 := by
  by_cases hi : i < xs.length
  · rw [nth_eq xs i hi]; exact h _ (List.getElem_mem hi)
  · rw [nth_out xs i (by omega)]; omega

theorem valFrom_step (xs : List Int) (j : Nat) : valFrom xs j = nth xs j + 256 * valFrom xs (j + 1) := by
  unfold valFrom
  by_cases hj : j < xs.length
  · rw [List.drop_eq_getElem_cons hj, val, nth_eq xs j hj]
  · rw [List.drop_eq_nil_of_le (by omega), List.drop_eq_nil_of_le (by omega), nth_out xs j (by omega)]; rfl
theorem valFrom_out (xs : List Int) (j : Nat) (h : xs.length ≤ j) : valFrom xs j = 0 := by
  unfold valFrom; rw [List.drop_eq_nil_of_le h]; rfl
theorem valFrom_zero (xs : List Int) : valFrom xs 0 = val xs := by unfold valFrom; rw [List.drop_zero]

theorem val_lt {xs ys : List Int} (hx : Dg xs) (hy : Dg ys) : ∀ j, valFrom xs j < valFrom ys j → val xs < val ys := by
  intro j
  induction j with
  | zero => intro h; rw [valFrom_zero, valFrom_zero] at h; exact h
  | succ j ih =>
    intro h
    apply ih
    rw [valFrom_step xs j, valFrom_step ys j]
    have := nth_bd hx j
    have := nth_bd hy j
    omega

/-- in the world w the slice v has the digits xs -/
def Sl (w : World) (v : Value) (xs : List Int) : Prop :=
  ∃ (a : Option Addr) (cap : Nat), v = .slice a xs.length cap ∧ Dg xs ∧ xs.length ≤ 100 ∧ xs.length ≤ cap ∧
    (0 < xs.length → ∃ b off, a = some ⟨b, off, none⟩ ∧ b < w.heap.size ∧ ∀ i, i < xs.length → w.cell? ⟨b, off + i, none⟩ = some (.int .i64 (nth xs i)))

theorem Sl.later {w w' : World} {v : Value} {xs : List Int} (h : Sl w v xs) (hb : Below w.heap.size w w') : Sl w' v xs := by
  obtain ⟨a, cap, hv, hx, hl, hc, hr⟩ := h
  refine ⟨a, cap, hv, hx, hl, hc, fun h0 => ?_⟩
  obtain ⟨b, off, ha, hbs, hcell⟩ := hr h0
  exact ⟨b, off, ha, Nat.lt_of_lt_of_le hbs hb.size, fun i hi => (hb.cell (p := ⟨b, off + i, none⟩) hbs).trans (hcell i hi)⟩

set_option maxHeartbeats 400000 in
theorem at_any (v : Value) (xs : List Int) (j : Nat) (w : World) (hv : Sl w v xs) (hj : j ≤ 1000) :
    Calls Tryd.prog 43 #[v, .int .i64 j] w fun e w' => e = .returned (.int .i64 (nth xs j)) ∧ w' = w := by
  obtain ⟨a, cap, rfl, hx, hl, hc, hr⟩ := hv
  by_cases h : j < xs.length
  · obtain ⟨b, off, rfl, hbs, hcell⟩ := hr (by omega)
    have c1 := hcell j h
    have h' : (j : Int) < (xs.length : Int) := by omega
    clear hcell hr
    go_enter Tryd.func43, Tryd.ntmps43
    go_wp2
    go_ret
    exact ⟨rfl, rfl⟩
  · have h' : ¬ (j : Int) < (xs.length : Int) := by omega
    go_enter Tryd.func43, Tryd.ntmps43
    go_wp2
    go_ret
    exact ⟨ret_int (nth_out xs j (by omega)).symm, rfl⟩

set_option maxHeartbeats 400000 in
theorem most_any (v u : Value) (xs ys : List Int) (w : World) (hv : Sl w v xs) (hu : Sl w u ys) :
    Calls Tryd.prog 35 #[v, u] w fun e w' => e = .returned (.bool (decide (val xs ≤ val ys))) ∧ w' = w := by
  have HV : Hid (Sl w v xs) := hv
  have HU : Hid (Sl w u ys) := hu
  have hA : Hid (∀ j : Nat, j ≤ 1000 → Calls Tryd.prog 43 #[v, .int .i64 j] w fun e w' => e = .returned (.int .i64 (nth xs j)) ∧ w' = w) := fun j hj => at_any v xs j w hv hj
  have hB : Hid (∀ j : Nat, j ≤ 1000 → Calls Tryd.prog 43 #[u, .int .i64 j] w fun e w' => e = .returned (.int .i64 (nth ys j)) ∧ w' = w) := fun j hj => at_any u ys j w hu hj
  obtain ⟨a, cap, rfl, hx, hl, hc, hr⟩ := hv
  obtain ⟨a', cap', rfl, hx', hl', hc', hr'⟩ := hu
  clear hr hr'
  go_enter Tryd.func35, Tryd.ntmps35
  go_wp2
  go_loop [5] (fun i => ∃ k : Nat, k ≤ xs.length + ys.length + 1 ∧ i = .int .i64 ((k : Int) - 1) ∧ Hid (valFrom xs k = valFrom ys k)) (fun i => (intOf i + 1).toNat)
  case atStart => exact ⟨xs.length + ys.length + 1, by omega, by go_num, (show _ = _ from by rw [valFrom_out xs _ (by omega), valFrom_out ys _ (by omega)])⟩
  case round =>
    obtain ⟨k, hk, rfl, HE⟩ := hrel
    match k, hk, HE with
    | 0, hk, HE =>
      go_wp2
      go_ret
      exact ⟨ret_bool (by have := HE.out; rw [valFrom_zero, valFrom_zero] at this; rw [this]; simp), rfl⟩
    | j + 1, hk, HE =>
      have hj : ((j + 1 : Nat) : Int) - 1 = (j : Int) := by omega
      rw [hj]
      have hj1 : (0 : Int) ≤ (j : Int) := by omega
      have cA := hA.out j (by omega)
      have cB := hB.out j (by omega)
      have bx := nth_bd hx j
      have by' := nth_bd hx' j
      clear hj
      by_cases he : nth xs j = nth ys j
      · have he' : (nth xs j != nth ys j) = false := by simp [he]
        have HEE : Hid (nth xs j = nth ys j) := he
        clear he
        go_wp2_with fail
        refine cA.mono ?_
        rintro e w1 ⟨rfl, rfl⟩
        go_wp2_with fail
        refine cB.mono ?_
        rintro e w1 ⟨rfl, rfl⟩
        go_wp2_with fail
        go_round
        case rel => exact ⟨j, by omega, by go_num, (show _ = _ from by rw [valFrom_step xs j, valFrom_step ys j, HEE.out, HE.out])⟩
        case measure => simp [intOf]
      · have he' : (nth xs j != nth ys j) = true := by simp [he]
        have HEE : Hid (¬ nth xs j = nth ys j) := he
        clear he
        go_wp2_with fail
        refine cA.mono ?_
        rintro e w1 ⟨rfl, rfl⟩
        go_wp2_with fail
        refine cB.mono ?_
        rintro e w1 ⟨rfl, rfl⟩
        go_wp2_with fail
        refine cA.mono ?_
        rintro e w1 ⟨rfl, rfl⟩
        go_wp2_with fail
        refine cB.mono ?_
        rintro e w1 ⟨rfl, rfl⟩
        go_wp2
        go_ret
        refine ⟨ret_bool ?_, rfl⟩
        have e1 := valFrom_step xs j
        have e2 := valFrom_step ys j
        rw [HE.out] at e1
        have hne := HEE.out
        rw [Bool.eq_iff_iff, decide_eq_true_iff, decide_eq_true_iff]
        constructor
        · intro h
          exact Int.le_of_lt (val_lt hx hx' j (by omega))
        · intro h
          apply Classical.byContradiction
          intro hn
          have := val_lt hx' hx j (by omega)
          omega
end Go.Proofs.YtbfbhdhffdddeaaDoor.Pr
