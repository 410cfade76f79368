/- When values are what may be handed in; the contracts of Fits, the program's and the document's. Conditions: texts of at most 2^62 bytes, at most a million values; the table lies in memory. The contract of Args. Conditions: the table lies in memory. -/
import Derived.Test.YtpboleifllcehaaDoorSE
import Derived.Lib.QuietBelow
namespace Go.Proofs.YtpboleifllcehaaDoor
open Go.RowKit Go.PlainAid Go.Sort
set_option linter.unusedVariables false
set_option linter.unusedSimpArgs false

/-- are the values of these domains? -/
def fitsL (ds : List Int) (xs : List Val) : Bool := decide (xs.length = ds.length ∧ ∀ i, i < xs.length → takesB (nth ds i) (nv xs i).1 (nv xs i).2.1 (nv xs i).2.2 = true)
theorem fitsL_len {ds : List Int} {xs : List Val} (h : ¬ xs.length = ds.length) : fitsL ds xs = false := decide_eq_false (fun e => h e.1)
theorem fitsL_no {ds : List Int} {xs : List Val} {k : Nat} (hk : k < xs.length) (h : takesB (nth ds k) (nv xs k).1 (nv xs k).2.1 (nv xs k).2.2 = false) : fitsL ds xs = false := decide_eq_false (fun e => by have := e.2 k hk; rw [h] at this; cases this)
theorem fitsL_all {ds : List Int} {xs : List Val} (hl : xs.length = ds.length) (h : ∀ i, i < xs.length → takesB (nth ds i) (nv xs i).1 (nv xs i).2.1 (nv xs i).2.2 = true) : fitsL ds xs = true := decide_eq_true ⟨hl, h⟩
/-- what the document's table says of what comes out: the domain (-1: nothing comes, 99: pairs), and whether it may be nothing -/
def dO (r : Rw) : Int := if r.m = 0 then 0 else if r.out = [] then -1 else if r.c = 2 then 99 else nth r.out 0
def dM (r : Rw) : Bool := r.c == 1
/-- how the document's Find ends -/
def RRef (w : World) (m o : Int) (e : Ending) (w' : World) : Prop := ∃ vi, e = .returned (.agg #[vi, .int .i64 (dO (fr m o)), .bool (dM (fr m o)), .bool (fi m o)]) ∧ ISl w' vi (fr m o).inn ∧ Below w.heap.size w w'

set_option maxHeartbeats 4000000 in
theorem fits_any (m o : Int) (v : Value) (xs : List Val) (w : World) (ht : Tb w) (hv : VSl w v xs) (hs : ∀ i, i < xs.length → (nv xs i).2.2.size ≤ 4611686018427387904) (hn : xs.length ≤ 1000000) :
    Calls Tryd.prog 31 #[.int .i64 m, .int .i64 o, v] w fun e w' => e = .returned (.bool (fi m o && fitsL (fr m o).inn xs)) ∧ Below w.heap.size w w' := by
  have hF := find_any m o w ht
  clear ht
  have HV : Hid (VSl w v xs) := hv
  have HS : Hid (∀ i, i < xs.length → (nv xs i).2.2.size ≤ 4611686018427387904) := hs
  obtain ⟨a, c, rfl, hl, hm, _⟩ := hv
  have mixed : Tryd.prog.follows .mixedOrders = true := by kernel_rfl
  clear hs
  cases hfi : fi m o
  · go_enter Tryd.func31, Tryd.ntmps31
    go_wp2_with (go_at_call 27; refine hF.mono ?_; rintro e w1 ⟨vi, vo, rfl, hi, ho, hb1⟩; obtain ⟨ao, co, rfl⟩ := ho.form; have HI : Hid (ISl w1 vi (fr m o).inn) := hi; obtain ⟨ai, ci, rfl⟩ := hi.form; clear hi ho)
    go_ret
    exact ⟨rfl, below_more hb1 _⟩
  · rw [Bool.true_and]
    by_cases hlen : xs.length = (fr m o).inn.length
    · have hne : ((xs.length : Int) != ((fr m o).inn.length : Int)) = false := by simp [hlen]
      have HL : Hid (xs.length = (fr m o).inn.length) := hlen
      have hle : xs.length ≤ (fr m o).inn.length := by omega
      clear hlen
      go_enter Tryd.func31, Tryd.ntmps31
      go_wp2_with (go_at_call 27; refine hF.mono ?_; rintro e w1 ⟨vi, vo, rfl, hi, ho, hb1⟩; obtain ⟨ao, co, rfl⟩ := ho.form; have HI : Hid (ISl w1 vi (fr m o).inn) := hi; obtain ⟨ai, ci, rfl⟩ := hi.form; clear hi ho)
      have B1 : (w1.alloc (.cells #[.int .i64 (fr m o).m, .int .i64 (fr m o).o, .slice ai (fr m o).inn.length ci, .slice ao (fr m o).out.length co, .int .i64 (fr m o).c] 60)).cell? ⟨w1.heap.size, 2, none⟩ = some (.slice ai (fr m o).inn.length ci) := by simp
      have hp : w1.heap.size < (w1.alloc (.cells #[.int .i64 (fr m o).m, .int .i64 (fr m o).o, .slice ai (fr m o).inn.length ci, .slice ao (fr m o).out.length co, .int .i64 (fr m o).c] 60)).heap.size := by simp
      have hb2 := below_box w1 (.cells #[.int .i64 (fr m o).m, .int .i64 (fr m o).o, .slice ai (fr m o).inn.length ci, .slice ao (fr m o).out.length co, .int .i64 (fr m o).c] 60)
      generalize w1.alloc (.cells #[.int .i64 (fr m o).m, .int .i64 (fr m o).o, .slice ai (fr m o).inn.length ci, .slice ao (fr m o).out.length co, .int .i64 (fr m o).c] 60) = w2 at *
      have hbw : Below w.heap.size w w2 := below_next hb1 hb2
      go_loopw [29] (fun i wr => ∃ k : Nat, k ≤ xs.length ∧ i = .int .i64 (k : Int) ∧ Below w2.heap.size w2 wr ∧ ∀ i, i < k → takesB (nth (fr m o).inn i) (nv xs i).1 (nv xs i).2.1 (nv xs i).2.2 = true) (fun i wr => xs.length - (intOf i).toNat)
      case atStart => exact ⟨0, by omega, rfl, Below.refl _ _, fun i h => by omega⟩
      case round =>
        obtain ⟨k, hk, rfl, hb, hall⟩ := hrel
        have HA : Hid (∀ i, i < k → takesB (nth (fr m o).inn i) (nv xs i).1 (nv xs i).2.1 (nv xs i).2.2 = true) := hall
        clear hall
        by_cases hlt : k < xs.length
        · have hlt' : (k : Int) < (xs.length : Int) := by omega
          have hlt2 : (k : Int) < ((fr m o).inn.length : Int) := by omega
          have hbr : Below w.heap.size w wr := below_next hbw hb
          have hb1r : Below w1.heap.size w1 wr := below_next hb2 hb
          have HV2 := HV.out.later hbr
          have HI2 := HI.out.later hb1r
          obtain ⟨p, q, rfl⟩ := vat_block HV2 (by omega)
          obtain ⟨a0, a1, a2⟩ := vat_cells HV2 hlt
          obtain ⟨b, off, rfl, hbl, hci⟩ := isl_at HI2 (by omega)
          have r1 := hci k (by omega)
          have c2 := (hb.cell (p := ⟨w1.heap.size, 2, none⟩) hp).trans B1
          have hpr : w1.heap.size < wr.heap.size := Nat.lt_of_lt_of_le hp hb.size
          have hz := HS.out k hlt
          clear HV2 HI2 hci
          obtain ⟨x1, x2, x3, hx⟩ : ∃ x1 x2 x3, nv xs k = (x1, x2, x3) := ⟨_, _, _, rfl⟩
          have hT := fun w => takes_any (nth (fr m o).inn k) x1 x2 x3 w (by rw [hx] at hz; exact hz)
          have HE : Hid (takesB (nth (fr m o).inn k) (nv xs k).1 (nv xs k).2.1 (nv xs k).2.2 = takesB (nth (fr m o).inn k) x1 x2 x3) := by show _ = _; rw [hx]
          rw [hx] at a0 a1 a2
          dsimp only at a0 a1 a2
          clear hx hz
          generalize takesB (nth (fr m o).inn k) x1 x2 x3 = tb at hT HE
          generalize nth (fr m o).inn k = dk at hT r1
          go_wp2_with fail
          have V0 := VBox.new wr x1 x2 x3 25
          have hb3 := below_box wr (.cells #[.int .i64 x1, .int .i64 x2, .string x3] 25)
          replace c2 := (hb3.cell (p := ⟨w1.heap.size, 2, none⟩) hpr).trans c2
          replace r1 := (hb3.cell (p := ⟨b, off + k, none⟩) hbl).trans r1
          replace hb3 := below_next hb hb3
          obtain ⟨_, v0, v1, v2, _⟩ := V0
          clear a0 a1 a2
          generalize wr.alloc (.cells #[.int .i64 x1, .int .i64 x2, .string x3] 25) = w3 at *
          have a0' := fun d os => cell_regrown v0 d os
          have a1' := fun d os => cell_regrown v1 d os
          have a2' := fun d os => cell_regrown v2 d os
          clear v0 v1 v2
          have c2' := fun d os => cell_regrown c2 d os
          have r1' := fun d os => cell_regrown r1 d os
          clear c2 r1
          refine wp_region_quiet_below (by assumption) (by kernel_rfl) ?_
          repeat (quiet_step (first | (go_at_call 30; with_reducible exact Calls.regrown_of (hT _))))
          refine wpQuiet_nil ?_
          intro _ hw'
          obtain ⟨⟨dq, osq⟩, hw''⟩ := hw'
          subst hw''
          replace hb3 := below_next hb3 (below_regrown _ dq osq)
          cases tb
          · go_wp2
            go_ret
            exact ⟨ret_bool2 (fitsL_no hlt HE.out).symm, below_next hbw hb3⟩
          · go_wp2
            go_roundw
            case rel =>
              refine ⟨k + 1, by omega, by go_num, hb3, fun i hi => ?_⟩
              by_cases e : i = k
              · subst e; exact HE.out
              · exact HA.out i (by omega)
            case measure => simp [intOf]; omega
        · have e : k = xs.length := by omega
          subst e
          go_wp2
          go_ret
          exact ⟨ret_bool2 (fitsL_all HL.out HA.out).symm, below_next hbw hb⟩
    · have hne : ((xs.length : Int) != ((fr m o).inn.length : Int)) = true := by simp; omega
      go_enter Tryd.func31, Tryd.ntmps31
      go_wp2_with (go_at_call 27; refine hF.mono ?_; rintro e w1 ⟨vi, vo, rfl, hi, ho, hb1⟩; obtain ⟨ao, co, rfl⟩ := ho.form; have HI : Hid (ISl w1 vi (fr m o).inn) := hi; obtain ⟨ai, ci, rfl⟩ := hi.form; clear hi ho)
      go_ret
      exact ⟨ret_bool2 (fitsL_len hlen).symm, below_more hb1 _⟩
set_option maxHeartbeats 4000000 in
theorem rfits_of (m o : Int) (v : Value) (xs : List Val) (w : World) (hF : Calls Tryd.prog 34 #[.int .i64 m, .int .i64 o] w fun e w' => RRef w m o e w') (hv : VSl w v xs) (hs : ∀ i, i < xs.length → (nv xs i).2.2.size ≤ 4611686018427387904) (hn : xs.length ≤ 1000000) :
    Calls Tryd.prog 25 #[.int .i64 m, .int .i64 o, v] w fun e w' => e = .returned (.bool (fi m o && fitsL (fr m o).inn xs)) ∧ Below w.heap.size w w' := by
  have HV : Hid (VSl w v xs) := hv
  have HS : Hid (∀ i, i < xs.length → (nv xs i).2.2.size ≤ 4611686018427387904) := hs
  obtain ⟨a, c, rfl, hl, hm, _⟩ := hv
  have mixed : Tryd.prog.follows .mixedOrders = true := by kernel_rfl
  clear hs
  cases hfi : fi m o
  · go_enter Tryd.func25, Tryd.ntmps25
    go_wp2_with (go_at_call 34; refine hF.mono ?_; rintro e w1 ⟨vi, rfl, hi, hb1⟩; have HI : Hid (ISl w1 vi (fr m o).inn) := hi; obtain ⟨ai, ci, rfl⟩ := hi.form; clear hi)
    go_ret
    exact ⟨rfl, below_more hb1 _⟩
  · rw [Bool.true_and]
    by_cases hlen : xs.length = (fr m o).inn.length
    · have hne : ((xs.length : Int) != ((fr m o).inn.length : Int)) = false := by simp [hlen]
      have HL : Hid (xs.length = (fr m o).inn.length) := hlen
      have hle : xs.length ≤ (fr m o).inn.length := by omega
      clear hlen
      go_enter Tryd.func25, Tryd.ntmps25
      go_wp2_with (go_at_call 34; refine hF.mono ?_; rintro e w1 ⟨vi, rfl, hi, hb1⟩; have HI : Hid (ISl w1 vi (fr m o).inn) := hi; obtain ⟨ai, ci, rfl⟩ := hi.form; clear hi)
      have B1 : (w1.alloc (.cells #[.slice ai (fr m o).inn.length ci, .int .i64 (dO (fr m o)), .bool (dM (fr m o)), .bool true] 67)).cell? ⟨w1.heap.size, 0, none⟩ = some (.slice ai (fr m o).inn.length ci) := by simp
      have hp : w1.heap.size < (w1.alloc (.cells #[.slice ai (fr m o).inn.length ci, .int .i64 (dO (fr m o)), .bool (dM (fr m o)), .bool true] 67)).heap.size := by simp
      have hb2 := below_box w1 (.cells #[.slice ai (fr m o).inn.length ci, .int .i64 (dO (fr m o)), .bool (dM (fr m o)), .bool true] 67)
      generalize w1.alloc (.cells #[.slice ai (fr m o).inn.length ci, .int .i64 (dO (fr m o)), .bool (dM (fr m o)), .bool true] 67) = w2 at *
      have hbw : Below w.heap.size w w2 := below_next hb1 hb2
      go_loopw [8] (fun i wr => ∃ k : Nat, k ≤ xs.length ∧ i = .int .i64 (k : Int) ∧ Below w2.heap.size w2 wr ∧ ∀ i, i < k → takesB (nth (fr m o).inn i) (nv xs i).1 (nv xs i).2.1 (nv xs i).2.2 = true) (fun i wr => xs.length - (intOf i).toNat)
      case atStart => exact ⟨0, by omega, rfl, Below.refl _ _, fun i h => by omega⟩
      case round =>
        obtain ⟨k, hk, rfl, hb, hall⟩ := hrel
        have HA : Hid (∀ i, i < k → takesB (nth (fr m o).inn i) (nv xs i).1 (nv xs i).2.1 (nv xs i).2.2 = true) := hall
        clear hall
        by_cases hlt : k < xs.length
        · have hlt' : (k : Int) < (xs.length : Int) := by omega
          have hlt2 : (k : Int) < ((fr m o).inn.length : Int) := by omega
          have hbr : Below w.heap.size w wr := below_next hbw hb
          have hb1r : Below w1.heap.size w1 wr := below_next hb2 hb
          have HV2 := HV.out.later hbr
          have HI2 := HI.out.later hb1r
          obtain ⟨p, q, rfl⟩ := vat_block HV2 (by omega)
          obtain ⟨a0, a1, a2⟩ := vat_cells HV2 hlt
          obtain ⟨b, off, rfl, hbl, hci⟩ := isl_at HI2 (by omega)
          have r1 := hci k (by omega)
          have c2 := (hb.cell (p := ⟨w1.heap.size, 0, none⟩) hp).trans B1
          have hpr : w1.heap.size < wr.heap.size := Nat.lt_of_lt_of_le hp hb.size
          have hz := HS.out k hlt
          clear HV2 HI2 hci
          obtain ⟨x1, x2, x3, hx⟩ : ∃ x1 x2 x3, nv xs k = (x1, x2, x3) := ⟨_, _, _, rfl⟩
          have hT := fun w => rtakes_any (nth (fr m o).inn k) x1 x2 x3 w (by rw [hx] at hz; exact hz)
          have HE : Hid (takesB (nth (fr m o).inn k) (nv xs k).1 (nv xs k).2.1 (nv xs k).2.2 = takesB (nth (fr m o).inn k) x1 x2 x3) := by show _ = _; rw [hx]
          rw [hx] at a0 a1 a2
          dsimp only at a0 a1 a2
          clear hx hz
          generalize takesB (nth (fr m o).inn k) x1 x2 x3 = tb at hT HE
          generalize nth (fr m o).inn k = dk at hT r1
          have hb3 := hb
          have a0' := fun d os => cell_regrown a0 d os
          have a1' := fun d os => cell_regrown a1 d os
          have a2' := fun d os => cell_regrown a2 d os
          clear a0 a1 a2
          have c2' := fun d os => cell_regrown c2 d os
          have r1' := fun d os => cell_regrown r1 d os
          clear c2 r1
          go_wp2_with fail
          refine wp_region_quiet_below (by assumption) (by kernel_rfl) ?_
          repeat (quiet_step (first | (go_at_call 35; with_reducible exact Calls.regrown_of (hT _))))
          refine wpQuiet_nil ?_
          intro _ hw'
          obtain ⟨⟨dq, osq⟩, hw''⟩ := hw'
          subst hw''
          replace hb3 := below_next hb3 (below_regrown _ dq osq)
          cases tb
          · go_wp2
            go_ret
            exact ⟨ret_bool2 (fitsL_no hlt HE.out).symm, below_next hbw hb3⟩
          · go_wp2
            go_roundw
            case rel =>
              refine ⟨k + 1, by omega, by go_num, hb3, fun i hi => ?_⟩
              by_cases e : i = k
              · subst e; exact HE.out
              · exact HA.out i (by omega)
            case measure => simp [intOf]; omega
        · have e : k = xs.length := by omega
          subst e
          go_wp2
          go_ret
          exact ⟨ret_bool2 (fitsL_all HL.out HA.out).symm, below_next hbw hb⟩
    · have hne : ((xs.length : Int) != ((fr m o).inn.length : Int)) = true := by simp; omega
      go_enter Tryd.func25, Tryd.ntmps25
      go_wp2_with (go_at_call 34; refine hF.mono ?_; rintro e w1 ⟨vi, rfl, hi, hb1⟩; have HI : Hid (ISl w1 vi (fr m o).inn) := hi; obtain ⟨ai, ci, rfl⟩ := hi.form; clear hi)
      go_ret
      exact ⟨ret_bool2 (fitsL_len hlen).symm, below_more hb1 _⟩
end Go.Proofs.YtpboleifllcehaaDoor
namespace Go.Proofs.YtpboleifllcehaaDoor
open Go.RowKit Go.PlainAid
set_option linter.unusedVariables false
set_option linter.unusedSimpArgs false

/-- how Args ends: what it answers lies in new memory -/
def RArgsN (w : World) (m o : Int) (e : Ending) (w' : World) : Prop := ∃ v, e = .returned (.tuple #[v, .bool (fi m o)]) ∧ ISl w' v (fr m o).inn ∧ (∀ g, v.ownBlock = some g → w.heap.size ≤ g) ∧ Below w.heap.size w w'
end Go.Proofs.YtpboleifllcehaaDoor
