/- The contract of the document's Same. Conditions: at most a million texts. -/
import Derived.Test.YtmmlafhifnmkpaaDoorLB
import Derived.Lib.QuietBelow
namespace Go.Proofs.YtmmlafhifnmkpaaDoor
open Go.RowKit Go.PlainAid Go.Sort
set_option linter.unusedVariables false

/-- are two rows one? -/
def sameS (xs ys : List (List UInt8)) : Bool := decide (xs = ys)
theorem sameS_self (xs : List (List UInt8)) : sameS xs xs = true := decide_eq_true rfl
theorem sameS_f {xs ys : List (List UInt8)} (h : ¬ xs = ys) : sameS xs ys = false := decide_eq_false h
theorem sameS_t {xs ys : List (List UInt8)} (h : xs = ys) : sameS xs ys = true := decide_eq_true h
theorem eq_of_nt {xs ys : List (List UInt8)} (hl : xs.length = ys.length) (h : ∀ i, i < xs.length → nt xs i = nt ys i) : xs = ys := by
  apply List.ext_getElem hl
  intro i h1 h2
  rw [← nt_eq xs i h1, ← nt_eq ys i h2, h i h1]

set_option maxHeartbeats 2000000 in
theorem same_any (u v : Value) (xs ys : List (List UInt8)) (w : World) (hu : SSl w u xs) (hv : SSl w v ys) (hn : xs.length ≤ 1000000) : Calls Tryd.prog 8 #[u, v] w fun e w' => e = .returned (.bool (sameS xs ys)) ∧ Below w.heap.size w w' := by
  have HU : Hid (SSl w u xs) := hu
  have HV : Hid (SSl w v ys) := hv
  obtain ⟨a, c, rfl, _, _, _⟩ := hu.form
  obtain ⟨b, d, rfl, _, _, _⟩ := hv.form
  clear hu hv
  have mixed : Tryd.prog.follows .mixedOrders = true := by kernel_rfl
  by_cases hl : xs.length = ys.length
  · have HL : Hid (xs.length = ys.length) := hl
    obtain ⟨n, hN⟩ : ∃ n, xs.length = n := ⟨_, rfl⟩
    rw [← hl] at HV ⊢
    rw [hN] at HU HV hn HL ⊢
    have HN : Hid (xs.length = n) := hN
    clear hl hN
    go_enter Tryd.func8, Tryd.ntmps8
    go_wp2
    go_loopw [5] (fun i w' => ∃ k : Nat, k ≤ n ∧ i = .int .i64 (k : Int) ∧ Below w.heap.size w w' ∧ ∀ i, i < k → nt xs i = nt ys i) (fun i w' => n - (intOf i).toNat)
    case atStart => exact ⟨0, by omega, rfl, Below.refl _ _, fun i h => by omega⟩
    case round =>
      obtain ⟨k, hk, rfl, hb, hall⟩ := hrel
      have HA : Hid (∀ i, i < k → nt xs i = nt ys i) := hall
      clear hall
      by_cases hlt : k < n
      · have hlt' : (k : Int) < (n : Int) := by omega
        have HU2 := HU.out.later hb
        have HV2 := HV.out.later hb
        obtain ⟨p, o, rfl, _⟩ := HU2.block (by rw [HN.out]; omega)
        obtain ⟨q, r, rfl, _⟩ := HV2.block (by rw [← HL.out]; omega)
        have a0 := HU2.cell (i := k) (by rw [HN.out]; omega)
        have b0 := HV2.cell (i := k) (by rw [← HL.out]; omega)
        clear HU2 HV2
        obtain ⟨x, hx⟩ : ∃ x, nt xs k = x := ⟨_, rfl⟩
        obtain ⟨y, hy⟩ : ∃ y, nt ys k = y := ⟨_, rfl⟩
        have HE : Hid (nt xs k = nt ys k ↔ x = y) := by show _ ↔ _; rw [hx, hy]
        rw [hx] at a0
        rw [hy] at b0
        clear hx hy
        have tx1 := bs_toList x
        have ty1 := bs_toList y
        have a0' := fun d os => cell_regrown a0 d os
        have b0' := fun d os => cell_regrown b0 d os
        clear a0 b0
        by_cases hxy : x = y
        · have HK : Hid (nt xs k = nt ys k) := HE.out.2 hxy
          have hq : (x == y) = true := by simp [hxy]
          clear hxy
          go_wp2_with fail
          refine wp_region_quiet_below (by assumption) (by kernel_rfl) ?_
          repeat (quiet_step (fail))
          refine wpQuiet_nil ?_
          intro _ hw'
          obtain ⟨⟨dq, osq⟩, hw''⟩ := hw'
          subst hw''
          go_wp2
          go_roundw
          case rel =>
            refine ⟨k + 1, by omega, by go_num, below_next hb (below_regrown _ _ _), fun i hi => ?_⟩
            by_cases e : i = k
            · subst e; exact HK.out
            · exact HA.out i (by omega)
          case measure => simp [intOf]; omega
        · have HK : Hid (¬ nt xs k = nt ys k) := fun h => hxy (HE.out.1 h)
          have hq : (x == y) = false := by simp [hxy]
          go_wp2_with fail
          refine wp_region_quiet_below (by assumption) (by kernel_rfl) ?_
          repeat (quiet_step (fail))
          refine wpQuiet_nil ?_
          intro _ hw'
          obtain ⟨⟨dq, osq⟩, hw''⟩ := hw'
          subst hw''
          go_wp2
          go_ret
          exact ⟨ret_b (sameS_f (fun h => HK.out (by rw [h]))).symm, below_next hb (below_regrown _ _ _)⟩
      · have e : k = n := by omega
        subst e
        go_wp2
        go_ret
        exact ⟨ret_b (sameS_t (eq_of_nt (HN.out.trans HL.out) fun i hi => HA.out i (by rw [HN.out] at hi; exact hi))).symm, hb⟩
  · rw [sameS_f (fun h => hl (by rw [h]))]
    have hl' : ((xs.length : Int) == (ys.length : Int)) = false := by simp; omega
    go_enter Tryd.func8, Tryd.ntmps8
    go_wp2
    go_ret
    exact ⟨rfl, Below.refl _ _⟩
end Go.Proofs.YtmmlafhifnmkpaaDoor
