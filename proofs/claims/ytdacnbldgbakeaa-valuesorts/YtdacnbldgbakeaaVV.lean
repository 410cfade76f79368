/- The contract of the document's Same. Conditions: at most a million values. -/
import Derived.Test.YtdacnbldgbakeaaVJ
import Derived.Test.YtdacnbldgbakeaaVT
import Derived.Lib.QuietBelow
namespace Go.Proofs.Ytdacnbldgbakeaa
open Go.RowKit Go.PlainAid Go.Sort
set_option linter.unusedVariables false

/-- are two rows one? -/
def sameL (xs ys : List Val) : Bool := decide (xs.length = ys.length ∧ ∀ i, i < xs.length → nv xs i = nv ys i)
theorem sameL_self (xs : List Val) : sameL xs xs = true := decide_eq_true ⟨rfl, fun _ _ => rfl⟩
theorem sameL_f {xs ys : List Val} (h : ¬ (xs.length = ys.length ∧ ∀ i, i < xs.length → nv xs i = nv ys i)) : sameL xs ys = false := decide_eq_false h
theorem sameL_t {xs ys : List Val} (h : xs.length = ys.length ∧ ∀ i, i < xs.length → nv xs i = nv ys i) : sameL xs ys = true := decide_eq_true h
theorem at_block {w : World} {a : Option Addr} {n c : Nat} {xs : List Val} (h : VSl w (.slice a n c) xs) (hl : 0 < xs.length) : ∃ b o, a = some ⟨b, o, none⟩ := by
  obtain ⟨a', c', hv, _, _, h3⟩ := h
  injection hv with ha _ _
  rcases h3 with ⟨h3, _⟩ | ⟨b, o, h3, _⟩
  · rw [h3] at hl; cases hl
  · exact ⟨b, o, ha.trans h3⟩
theorem at_cells {w : World} {b o n c : Nat} {xs : List Val} (h : VSl w (.slice (some ⟨b, o, none⟩) n c) xs) {i : Nat} (hl : i < xs.length) : At w b (o + i * 3) (nv xs i) := by
  obtain ⟨a', c', hv, _, _, h3⟩ := h
  injection hv with ha _ _
  rcases h3 with ⟨h3, _⟩ | ⟨b', o', h3, _, hat⟩
  · rw [h3] at hl; cases hl
  · rw [h3] at ha
    injection ha with ha
    injection ha with h1 h2 _
    subst h1 h2
    exact hat i hl

set_option maxHeartbeats 2000000 in
theorem same_any (u v : Value) (xs ys : List Val) (w : World) (hu : VSl w u xs) (hv : VSl w v ys) (hn : xs.length ≤ 1000000) : Calls Try.prog 13 #[u, v] w fun e w' => e = .returned (.bool (sameL xs ys)) ∧ Below w.heap.size w w' := by
  have HU : Hid (VSl w u xs) := hu
  have HV : Hid (VSl w v ys) := hv
  obtain ⟨a, c, rfl, _, _, _⟩ := hu.form
  obtain ⟨b, d, rfl, _, _, _⟩ := hv.form
  clear hu hv
  have hg := eqgV
  have mixed : Try.prog.follows .mixedOrders = true := by kernel_rfl
  by_cases hl : xs.length = ys.length
  · have hl' : ((xs.length : Int) == (ys.length : Int)) = true := by simp [hl]
    have HL : Hid (xs.length = ys.length) := hl
    obtain ⟨n, hN⟩ : ∃ n, xs.length = n := ⟨_, rfl⟩
    rw [← hl] at HV ⊢
    rw [hN] at HU HV hn HL ⊢
    have HN : Hid (xs.length = n) := hN
    clear hl hl' hN
    go_enter Try.func13, Try.ntmps13
    go_wp2
    go_loopw [5] (fun i w' => ∃ k : Nat, k ≤ n ∧ i = .int .i64 (k : Int) ∧ Below w.heap.size w w' ∧ ∀ i, i < k → nv xs i = nv ys i) (fun i w' => n - (intOf i).toNat)
    case atStart => exact ⟨0, by omega, rfl, Below.refl _ _, fun i h => by omega⟩
    case round =>
      obtain ⟨k, hk, rfl, hb, hall⟩ := hrel
      have HA : Hid (∀ i, i < k → nv xs i = nv ys i) := hall
      clear hall
      by_cases hlt : k < n
      · have hlt' : (k : Int) < (n : Int) := by omega
        have HU2 := HU.out.later hb
        have HV2 := HV.out.later hb
        obtain ⟨p, o, rfl⟩ := at_block HU2 (by rw [HN.out]; omega)
        obtain ⟨q, r, rfl⟩ := at_block HV2 (by rw [← HL.out]; omega)
        obtain ⟨a0, a1, a2⟩ := at_cells HU2 (i := k) (by rw [HN.out]; omega)
        obtain ⟨b0, b1, b2⟩ := at_cells HV2 (i := k) (by rw [← HL.out]; omega)
        clear HU2 HV2
        obtain ⟨x1, x2, x3, hx⟩ : ∃ x1 x2 x3, nv xs k = (x1, x2, x3) := ⟨_, _, _, rfl⟩
        obtain ⟨y1, y2, y3, hy⟩ : ∃ y1 y2 y3, nv ys k = (y1, y2, y3) := ⟨_, _, _, rfl⟩
        have HE : Hid (nv xs k = nv ys k ↔ eqvB x1 x2 x3 y1 y2 y3 = true) := by show _ ↔ _; rw [eqvB_iff, hx, hy]
        rw [hx] at a0 a1 a2
        rw [hy] at b0 b1 b2
        dsimp only at a0 a1 a2 b0 b1 b2
        clear hx hy
        have hq := fun w => neV x1 x2 y1 y2 x3 y3 w
        generalize eqvB x1 x2 x3 y1 y2 y3 = eb at hq HE
        have a0' := fun d os => cell_regrown a0 d os
        have a1' := fun d os => cell_regrown a1 d os
        have a2' := fun d os => cell_regrown a2 d os
        have b0' := fun d os => cell_regrown b0 d os
        have b1' := fun d os => cell_regrown b1 d os
        have b2' := fun d os => cell_regrown b2 d os
        clear a0 a1 a2 b0 b1 b2
        go_wp2_with fail
        refine wp_region_quiet_below (by assumption) (by kernel_rfl) ?_
        repeat (quiet_step (fail))
        refine wpQuiet_nil ?_
        intro _ hw'
        obtain ⟨⟨dq, osq⟩, hw''⟩ := hw'
        subst hw''
        cases eb with
        | true =>
          have HK : Hid (nv xs k = nv ys k) := HE.out.2 rfl
          go_wp2
          go_roundw
          case rel =>
            refine ⟨k + 1, by omega, by go_num, below_next hb (below_regrown _ _ _), fun i hi => ?_⟩
            by_cases e : i = k
            · subst e; exact HK.out
            · exact HA.out i (by omega)
          case measure => simp [intOf]; omega
        | false =>
          have HK : Hid (¬ nv xs k = nv ys k) := fun h => by have := HE.out.1 h; cases this
          go_wp2
          go_ret
          exact ⟨ret_b (sameL_f (fun h => HK.out (h.2 k (by rw [HN.out]; omega)))).symm, below_next hb (below_regrown _ _ _)⟩
      · have e : k = n := by omega
        subst e
        go_wp2
        go_ret
        exact ⟨ret_b (sameL_t ⟨HN.out.trans HL.out, fun i hi => HA.out i (by rw [HN.out] at hi; exact hi)⟩).symm, hb⟩
  · rw [sameL_f (fun h => hl h.1)]
    have hl' : ((xs.length : Int) == (ys.length : Int)) = false := by simp; omega
    go_enter Try.func13, Try.ntmps13
    go_wp2
    go_ret
    exact ⟨rfl, Below.refl _ _⟩
end Go.Proofs.Ytdacnbldgbakeaa
