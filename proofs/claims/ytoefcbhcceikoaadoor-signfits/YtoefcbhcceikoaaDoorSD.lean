/- When two rows of numbers are one; the contract of the document's Same. No conditions. -/
import Derived.Test.YtoefcbhcceikoaaDoorSA
import Derived.Lib.QuietBelow
namespace Go.Proofs.YtoefcbhcceikoaaDoor
open Go.RowKit Go.PlainAid Go.Sort
set_option linter.unusedVariables false

/-- are two rows one? -/
def sameB (xs ys : List Int) : Bool := decide (xs = ys)
theorem sameB_self (xs : List Int) : sameB xs xs = true := decide_eq_true rfl
theorem sameB_len {xs ys : List Int} (h : ¬ xs.length = ys.length) : sameB xs ys = false := decide_eq_false (fun e => h (by rw [e]))
theorem sameB_not {xs ys : List Int} {k : Nat} (h : ¬ nth xs k = nth ys k) : sameB xs ys = false := decide_eq_false (fun e => h (by rw [e]))
theorem sameB_all {xs ys : List Int} (hl : xs.length = ys.length) (h : ∀ j, j < xs.length → nth xs j = nth ys j) : sameB xs ys = true := by
  refine decide_eq_true (List.ext_getElem hl fun i h1 h2 => ?_)
  have := h i h1
  rw [nth_eq xs i h1, nth_eq ys i h2] at this
  exact this
theorem ret_bool {a b : Bool} (h : a = b) : Ending.returned (.bool a) = .returned (.bool b) := by rw [h]

set_option maxHeartbeats 2000000 in
theorem same_any (v u : Value) (xs ys : List Int) (w : World) (hv : ISl w v xs) (hu : ISl w u ys) :
    Calls Tryd.prog 21 #[v, u] w fun e w' => e = .returned (.bool (sameB xs ys)) ∧ Below w.heap.size w w' := by
  obtain ⟨a, cap, rfl, hl, hc, hr⟩ := hv
  obtain ⟨a', cap', rfl, hl', hc', hr'⟩ := hu
  have HR : Hid ((xs = [] ∧ (a = none → cap = 0)) ∨ ∃ b o, a = some ⟨b, o, none⟩ ∧ b < w.heap.size ∧ ∀ i, i < xs.length → w.cell? ⟨b, o + i, none⟩ = some (.int .i64 (nth xs i))) := hr
  have HR' : Hid ((ys = [] ∧ (a' = none → cap' = 0)) ∨ ∃ b o, a' = some ⟨b, o, none⟩ ∧ b < w.heap.size ∧ ∀ i, i < ys.length → w.cell? ⟨b, o + i, none⟩ = some (.int .i64 (nth ys i))) := hr'
  clear hr hr'
  by_cases hlen : xs.length = ys.length
  · have HL : Hid (xs.length = ys.length) := hlen
    have hne : ((xs.length : Int) != (ys.length : Int)) = false := by simp [hlen]
    have h1 : xs.length ≤ ys.length := by omega
    have h2 : ys.length ≤ xs.length := by omega
    clear hlen
    go_enter Tryd.func21, Tryd.ntmps21
    go_wp2
    go_loopw [5] (fun i wr => ∃ k : Nat, k ≤ xs.length ∧ i = .int .i64 k ∧ Below w.heap.size w wr ∧ ∀ j, j < k → nth xs j = nth ys j) (fun i _ => xs.length - (intOf i).toNat)
    case atStart => exact ⟨0, by omega, rfl, Below.refl _ _, fun j h => by omega⟩
    case round =>
      obtain ⟨k, hk, rfl, hb, hall⟩ := hrel
      have HA : Hid (∀ j, j < k → nth xs j = nth ys j) := hall
      clear hall
      by_cases hlt : k < xs.length
      · rcases HR.out with ⟨h0, _⟩ | ⟨b, off, rfl, hbs, hcell⟩
        · rw [h0] at hlt; cases hlt
        rcases HR'.out with ⟨h0, _⟩ | ⟨b', off', rfl, hbs', hcell'⟩
        · rw [h0] at h1; simp at h1; rw [h1] at hlt; cases hlt
        have c1 : wr.cell? ⟨b, off + k, none⟩ = some (.int .i64 (nth xs k)) := (hb.cell (p := ⟨b, off + k, none⟩) hbs).trans (hcell k hlt)
        have c2 : wr.cell? ⟨b', off' + k, none⟩ = some (.int .i64 (nth ys k)) := (hb.cell (p := ⟨b', off' + k, none⟩) hbs').trans (hcell' k (by omega))
        have hlt' : (k : Int) < (ys.length : Int) := by omega
        have hlt'' : (k : Int) < (xs.length : Int) := by omega
        have c1' := fun d os => cell_regrown c1 d os
        have c2' := fun d os => cell_regrown c2 d os
        have mixed : Tryd.prog.follows .mixedOrders = true := by kernel_rfl
        clear hcell hcell' c1 c2
        by_cases he : nth xs k = nth ys k
        · have he' : (nth xs k != nth ys k) = false := by simp [he]
          have HE : Hid (nth xs k = nth ys k) := he
          clear he
          go_wp2
          refine wp_region_quiet_below (by assumption) (by kernel_rfl) ?_
          repeat (quiet_step (fail))
          refine wpQuiet_nil ?_
          intro _ hw'
          obtain ⟨⟨dq, osq⟩, hw''⟩ := hw'
          subst hw''
          go_wp2
          go_roundw
          case rel =>
            refine ⟨k + 1, by omega, by go_num, ?_, fun j hj => ?_⟩
            · exact below_next hb (below_regrown _ _ _)
            · by_cases hjk : j = k
              · subst hjk; exact HE.out
              · exact HA.out j (by omega)
          case measure => simp [intOf]; omega
        · have he' : (nth xs k != nth ys k) = true := by simp [he]
          have HE : Hid (¬ nth xs k = nth ys k) := he
          clear he
          go_wp2
          refine wp_region_quiet_below (by assumption) (by kernel_rfl) ?_
          repeat (quiet_step (fail))
          refine wpQuiet_nil ?_
          intro _ hw'
          obtain ⟨⟨dq, osq⟩, hw''⟩ := hw'
          subst hw''
          go_wp2
          go_ret
          exact ⟨ret_bool (sameB_not HE.out).symm, by exact below_next hb (below_regrown _ _ _)⟩
      · go_wp2
        go_ret
        exact ⟨ret_bool (sameB_all HL.out (fun j hj => HA.out j (by omega))).symm, hb⟩
  · have hne : ((xs.length : Int) != (ys.length : Int)) = true := by simp; omega
    go_enter Tryd.func21, Tryd.ntmps21
    go_wp2
    go_ret
    exact ⟨ret_bool (sameB_len hlen).symm, Below.refl _ _⟩
end Go.Proofs.YtoefcbhcceikoaaDoor
