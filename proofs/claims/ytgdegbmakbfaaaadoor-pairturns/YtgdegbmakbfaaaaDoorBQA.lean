/- The contract of the document's Check. Conditions: the events and their lists lie in memory; sizes as the contracts take. The walk of PairChecks. Conditions: the table and the history lie in memory; numbers of 64 bits. -/
import Derived.Test.YtgdegbmakbfaaaaDoorPW
import Derived.Test.YtgdegbmakbfaaaaDoorPZ
namespace Go.Proofs.YtgdegbmakbfaaaaDoor
open Go.RowKit Go.PlainAid Ln
set_option linter.unusedVariables false
set_option linter.unusedSimpArgs false

set_option maxRecDepth 100000 in
set_option maxHeartbeats 8000000 in
theorem rcheck_any (v : Value) (ys : List YE) (w : World) (hv : YSl w v ys) (hl : InL w ys) (hz : ∀ i, i < ys.length → SzE (ye ys i).1) (hlen : ys.length ≤ 1000000) :
    Calls Tryd.prog 11 #[v] w fun e w' => e = .returned (.tuple #[.int .i64 (checkE (ys.map (·.1))).1, .int .i64 (checkE (ys.map (·.1))).2]) ∧ Below w.heap.size w w' := by
  have HW : Hid (∀ w' k, Below w.heap.size w w' → k < ys.length → Calls Tryd.prog 21 #[v, .int .i64 (k : Int)] w' fun e w'' => e = .returned (.int .i64 (wrongE (ys.map (·.1)) k)) ∧ Below w'.heap.size w' w'') := fun w' k h hk => rwrong_any v ys k w' (hv.later h) (hl.later h) hz hk (by omega)
  have HL : Hid ((ys.map (·.1)).length = ys.length) := List.length_map ..
  obtain ⟨a, c, rfl, hc1, hc2, _⟩ := hv.form
  clear hv hl hz
  generalize ys.map (·.1) = xs at *
  generalize ys.length = q at *
  go_enter Tryd.func11, Tryd.ntmps11
  go_wp2
  go_loopw [4] (fun i wr => ∃ k : Nat, k ≤ q ∧ i = .int .i64 (k : Int) ∧ okE xs k ∧ Below w.heap.size w wr) (fun i wr => q - (intOf i).toNat)
  case atStart => exact ⟨0, Nat.zero_le _, rfl, fun i hi => absurd hi (Nat.not_lt_zero i), Below.refl _ _⟩
  case round =>
    obtain ⟨k, hk, rfl, hok, hb⟩ := hrel
    have HO : Hid (okE xs k) := hok
    have HB : Hid (Below w.heap.size w wr) := hb
    clear hok hb
    by_cases hlt : k < q
    · have hlt' : (k : Int) < (q : Int) := by omega
      go_wp2_with fail
      refine (HW.out wr k HB.out hlt).mono ?_
      rintro e w1 ⟨rfl, b1⟩
      have HB1 : Hid (Below w.heap.size w w1) := below_next HB.out b1
      clear b1
      obtain ⟨cd, hcd⟩ : ∃ cd, wrongE xs k = cd := ⟨_, rfl⟩
      have HC : Hid (wrongE xs k = cd) := hcd
      rw [hcd]
      clear hcd
      by_cases h0 : cd = 0
      · subst h0
        go_wp2
        go_roundw
        case rel => exact ⟨k + 1, by omega, by go_num, okE_succ HO.out HC.out, HB1.out⟩
        case measure => simp [intOf] <;> omega
      · have hne : (cd != 0) = true := by simp [h0]
        have HN : Hid (cd ≠ 0) := h0
        clear h0
        go_wp2
        go_ret2
        exact ⟨by rw [checkE_bad (by rw [HL.out]; exact hlt) HO.out (by rw [HC.out]; exact HN.out), HC.out]; rfl, HB1.out⟩
    · obtain rfl : k = q := by omega
      go_wp2
      go_ret2
      exact ⟨by rw [checkE_ok (by rw [HL.out]; exact HO.out)]; rfl, HB.out⟩
end Go.Proofs.YtgdegbmakbfaaaaDoor
namespace Go.Proofs.YtgdegbmakbfaaaaDoor
open Go.RowKit Go.PlainAid Ln
set_option linter.unusedVariables false
set_option linter.unusedSimpArgs false

/-- what is asked of the events that came in -/
def InE (ys : List YE) : Prop := ∀ i, i < ys.length → bdE (ye ys i).1 ∧ LgE (ye ys i).1 ∧ (Lit.int .i64 (ye ys i).1.c.1).wf = true
theorem wf_i64 {n : Int} (h : -9223372036854775808 ≤ n ∧ n ≤ 9223372036854775807) : (Lit.int .i64 n).wf = true := by
  have h1 : IntKind.i64.min ≤ n := Int.le_trans (by decide) h.1
  have h2 : n ≤ IntKind.i64.max := Int.le_trans h.2 (by decide)
  show (decide (IntKind.i64.min ≤ n) && decide (n ≤ IntKind.i64.max)) = true
  rw [decide_eq_true h1, decide_eq_true h2]; rfl
theorem ine_kv {ys : List YE} (h : InE ys) : ∀ i, i < ys.length → KV (ye ys i).1.c := fun i hi => by
  obtain ⟨h1, h2, h3⟩ := h i hi
  exact ⟨h3, wf_i64 h1.2.1, by have := h2.1; unfold maxLen; omega⟩
set_option maxRecDepth 100000 in
set_option maxHeartbeats 8000000 in
theorem law_checks (v : Value) (ys : List YE) (w : World) (ht : Tb w) (hy : YSl w v ys) (hi : InL w ys) (hb : InE ys) : Calls Tryd.prog 3 #[v] w fun e w' => e = .returned (.bool true) ∧ Below w.heap.size w w' := by
  have HT : Hid (Tb w) := ht
  have HY : Hid (YSl w v ys) := hy
  have HI : Hid (InL w ys) := hi
  have HK : Hid (∀ i, i < ys.length → KV (ye ys i).1.c) := ine_kv hb
  have HG : Hid (∀ i, i < ys.length → LgE (ye ys i).1) := fun i h => (hb i h).2.1
  clear ht hy hi hb
  go_enter Tryd.func3, Tryd.ntmps3
  go_wp2_with fail
  refine (wakes_p _ HT.out).mono ?_
  rintro e w1 ⟨rfl, b1⟩
  have Hb1 : Hid (Below w.heap.size w w1) := b1
  clear b1
  go_wp2_with fail
  refine (rgreat_h v ys 60 w1 (HY.out.later Hb1.out) (HI.out.later Hb1.out) HG.out).mono ?_
  rintro e w2 ⟨g, rfl, hsm, b2⟩
  have Hb2 : Hid (Below w.heap.size w w2) := below_next Hb1.out b2
  clear b2
  cases g
  case true =>
    go_wp2
    go_ret
    exact ⟨rfl, Hb2.out⟩
  obtain ⟨hl, hse⟩ := hsm rfl
  have HL : Hid (ys.length ≤ 60) := hl
  have HZ : Hid (∀ i, i < ys.length → SzE (ye ys i).1) := fun i h => (hse i h).sz
  clear hsm hl hse
  go_wp2_with fail
  refine (check_any v ys w2 (HY.out.later Hb2.out) (HI.out.later Hb2.out) HZ.out HK.out (by have := HL.out; omega) (HT.out.later Hb2.out)).mono ?_
  rintro e w3 ⟨rfl, b3⟩
  have Hb3 : Hid (Below w.heap.size w w3) := below_next Hb2.out b3
  clear b3
  have HR : Hid (∀ w', Below w.heap.size w w' → Calls Tryd.prog 11 #[v] w' fun e w'' => e = .returned (.tuple #[.int .i64 (checkE (ys.map (·.1))).1, .int .i64 (checkE (ys.map (·.1))).2]) ∧ Below w'.heap.size w' w'') :=
    fun w' h => rcheck_any v ys w' (HY.out.later h) (HI.out.later h) HZ.out (by have := HL.out; omega)
  generalize checkE (ys.map (·.1)) = ck at *
  go_wp2_with fail
  have B1 := FBox.new w3 ck.1 ck.2 27
  have hb4 := below_more Hb3.out (.cells #[.int .i64 ck.1, .int .i64 ck.2] 27)
  obtain ⟨p, hp⟩ : ∃ p, p = w3.heap.size := ⟨_, rfl⟩
  rw [← hp] at B1 ⊢
  clear hp
  generalize w3.alloc (.cells #[.int .i64 ck.1, .int .i64 ck.2] 27) = w4 at B1 hb4 ⊢
  refine (HR.out w4 hb4).mono ?_
  rintro e w5 ⟨rfl, b5⟩
  obtain ⟨c6, c0, c1, z0, z1⟩ := B1.later b5
  have Hb5 : Hid (Below w.heap.size w w5) := below_next hb4 b5
  clear b5 hb4 B1
  go_wp2
  go_ret
  exact ⟨rfl, Hb5.out⟩
end Go.Proofs.YtgdegbmakbfaaaaDoor
