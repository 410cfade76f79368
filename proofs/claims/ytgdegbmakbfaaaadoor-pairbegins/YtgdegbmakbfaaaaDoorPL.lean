/- The contracts of the document's last and next. Conditions: the events lie in memory, a thousand millions at most. -/
import Derived.Test.YtgdegbmakbfaaaaDoorPE
import Derived.Test.YtgdegbmakbfaaaaDoorBH
import Derived.Test.YtgdegbmakbfaaaaDoorBV
import Derived.Lib.QuietBelow
import Derived.BigQuiet
namespace Go.Proofs.YtgdegbmakbfaaaaDoor
open Go.RowKit Go.PlainAid Ln
set_option linter.unusedVariables false
set_option linter.unusedSimpArgs false

/-- the client of an event of a row, where it lies -/
def ClAt (w : World) (b o : Nat) (v : Val) : Prop := w.cell? ⟨b, o + 1, none⟩ = some (.int .i64 v.1) ∧ w.cell? ⟨b, o + 2, none⟩ = some (.int .i64 v.2.1) ∧ w.cell? ⟨b, o + 3, none⟩ = some (.string v.2.2)
theorem cl_at {w : World} {b o : Nat} {y : YE} (h : w.rangeAt b o (encE y)) : ClAt w b o y.1.c := ⟨h 1 _ rfl, h 2 _ rfl, h 3 _ rfl⟩
set_option maxRecDepth 100000 in
set_option maxHeartbeats 8000000 in
theorem rlast_any (v : Value) (ys : List YE) (n : Nat) (w : World) (hv : YSl w v ys) (hn : n < ys.length) (hl : ys.length ≤ 1000000000) :
    Calls Tryd.prog 29 #[v, .int .i64 (n : Int)] w fun e w' => e = .returned (.int .i64 (lastB (ys.map (·.1)) (ye ys n).1.c n)) ∧ Below w.heap.size w w' := by
  have mixed : Tryd.prog.follows .mixedOrders = true := by kernel_rfl
  obtain ⟨a, c, rfl, hc1, hc2, _⟩ := hv.form
  obtain ⟨b, o, rfl, hb1⟩ := hv.block (by omega)
  have HC : Hid (∀ k, k < ys.length → ClAt w b (o + k * 14) (ye ys k).1.c) := fun k hk => cl_at (hv.at hk)
  have HE : Hid (∀ k, ev (ys.map (·.1)) k = (ye ys k).1) := fun k => ev_ye ys k
  clear hv
  generalize ys.map (·.1) = xs at *
  generalize ys.length = m at *
  obtain ⟨⟨y0, y1, y2⟩, hyn⟩ : ∃ v, (ye ys n).1.c = v := ⟨_, rfl⟩
  obtain ⟨D0, D1, D2⟩ := HC.out n hn
  rw [hyn] at D0 D1 D2 ⊢
  clear hyn
  have HD : Hid (ClAt w b (o + n * 14) (y0, y1, y2)) := ⟨D0, D1, D2⟩
  clear D0 D1 D2
  go_enter Tryd.func29, Tryd.ntmps29
  go_wp2
  go_loopw [5] (fun i wr => ∃ k : Nat, k ≤ n ∧ i = .int .i64 ((k : Int) - 1) ∧ lastB xs (y0, y1, y2) n = lastB xs (y0, y1, y2) k ∧ Below w.heap.size w wr) (fun i wr => ((intOf i) + 1).toNat)
  case atStart => exact ⟨n, Nat.le_refl _, rfl, rfl, Below.refl _ _⟩
  case round =>
    obtain ⟨k, hk, rfl, hL, hb⟩ := hrel
    have HB : Hid (Below w.heap.size w wr) := hb
    have HL : Hid (lastB xs (y0, y1, y2) n = lastB xs (y0, y1, y2) k) := hL
    clear hb hL
    rcases Nat.eq_zero_or_pos k with h0 | h0
    · subst h0
      rw [show ((0 : Nat) : Int) - 1 = -1 by rfl]
      go_wp2
      go_ret
      exact ⟨by rw [HL.out]; rfl, HB.out⟩
    · obtain ⟨r, rfl⟩ : ∃ r, k = r + 1 := ⟨k - 1, by omega⟩
      rw [show ((r + 1 : Nat) : Int) - 1 = (r : Int) by omega]
      have e1 := HE.out r
      obtain ⟨⟨x0, x1, x2⟩, hye⟩ : ∃ v, (ye ys r).1.c = v := ⟨_, rfl⟩
      have HA := HC.out r (by omega)
      rw [hye] at HA
      have hq := fun w => eqV x0 x1 y0 y1 x2 y2 w
      have hg := eqgV
      have HEE : Hid (eqv (ev xs r).c (y0, y1, y2) = eqvB x0 x1 x2 y0 y1 y2) := by show _ = _; rw [e1, hye]; rfl
      clear e1 hye
      have hrn : (r : Int) < (m : Int) := by omega
      have hnm : (n : Int) < (m : Int) := by omega
      have hr0 : (0 : Int) ≤ (r : Int) := by omega
      have A0 := fun d os => cell_regrown (HB.out.cell hb1 |>.trans HA.1) d os
      have A1 := fun d os => cell_regrown (HB.out.cell hb1 |>.trans HA.2.1) d os
      have A2 := fun d os => cell_regrown (HB.out.cell hb1 |>.trans HA.2.2) d os
      have D0 := fun d os => cell_regrown (HB.out.cell hb1 |>.trans HD.out.1) d os
      have D1 := fun d os => cell_regrown (HB.out.cell hb1 |>.trans HD.out.2.1) d os
      have D2 := fun d os => cell_regrown (HB.out.cell hb1 |>.trans HD.out.2.2) d os
      clear HA
      dsimp only at A0 A1 A2 D0 D1 D2
      cases hE : eqvB x0 x1 x2 y0 y1 y2
      · rw [hE] at HEE hq
        go_wp2_with fail
        refine wp_region_quiet_below mixed (by kernel_rfl) ?_
        repeat (quiet_step (fail))
        refine wpQuiet_nil ?_
        intro _ hw'
        obtain ⟨⟨dq, osq⟩, hw''⟩ := hw'
        have HN : Hid (Below w.heap.size w _) := below_next HB.out (hw'' ▸ below_regrown wr dq osq)
        clear hw''
        go_wp2
        go_roundw
        case rel => exact ⟨r, by omega, rfl, by rw [HL.out, lastB_miss HEE.out], HN.out⟩
        case measure => simp [intOf]
      · rw [hE] at HEE hq
        go_wp2_with fail
        refine wp_region_quiet_below mixed (by kernel_rfl) ?_
        repeat (quiet_step (fail))
        refine wpQuiet_nil ?_
        intro _ hw'
        obtain ⟨⟨dq, osq⟩, hw''⟩ := hw'
        have HN : Hid (Below w.heap.size w _) := below_next HB.out (hw'' ▸ below_regrown wr dq osq)
        clear hw''
        go_wp2
        go_ret
        exact ⟨by rw [HL.out, lastB_hit HEE.out]; rfl, HN.out⟩
set_option maxRecDepth 100000 in
set_option maxHeartbeats 8000000 in
theorem rnext_any0 (v : Value) (ys : List YE) (n : Nat) (w : World) (hv : YSl w v ys) (hn : n < ys.length) (hl : ys.length ≤ 1000000000) :
    Calls Tryd.prog 23 #[v, .int .i64 (n : Int)] w fun e w' => e = .returned (.int .i64 (nextB (ys.map (·.1)) (ye ys n).1.c (n + 1) (ys.length - (n + 1)))) ∧ Below w.heap.size w w' := by
  have mixed : Tryd.prog.follows .mixedOrders = true := by kernel_rfl
  obtain ⟨a, c, rfl, hc1, hc2, _⟩ := hv.form
  obtain ⟨b, o, rfl, hb1⟩ := hv.block (by omega)
  have HC : Hid (∀ k, k < ys.length → ClAt w b (o + k * 14) (ye ys k).1.c) := fun k hk => cl_at (hv.at hk)
  have HE : Hid (∀ k, ev (ys.map (·.1)) k = (ye ys k).1) := fun k => ev_ye ys k
  clear hv
  generalize ys.map (·.1) = xs at *
  generalize ys.length = m at *
  obtain ⟨⟨y0, y1, y2⟩, hyn⟩ : ∃ v, (ye ys n).1.c = v := ⟨_, rfl⟩
  obtain ⟨D0, D1, D2⟩ := HC.out n hn
  rw [hyn] at D0 D1 D2 ⊢
  clear hyn
  have HD : Hid (ClAt w b (o + n * 14) (y0, y1, y2)) := ⟨D0, D1, D2⟩
  clear D0 D1 D2
  go_enter Tryd.func23, Tryd.ntmps23
  go_wp2
  go_loopw [5] (fun i wr => ∃ k : Nat, n < k ∧ k ≤ m ∧ i = .int .i64 (k : Int) ∧ nextB xs (y0, y1, y2) (n + 1) (m - (n + 1)) = nextB xs (y0, y1, y2) k (m - k) ∧ Below w.heap.size w wr) (fun i wr => m - (intOf i).toNat)
  case atStart => exact ⟨n + 1, Nat.lt_succ_self _, by omega, congrArg (Value.int IntKind.i64) (by omega), rfl, Below.refl _ _⟩
  case round =>
    obtain ⟨k, hkn, hk, rfl, hL, hb⟩ := hrel
    have HB : Hid (Below w.heap.size w wr) := hb
    have HL : Hid (nextB xs (y0, y1, y2) (n + 1) (m - (n + 1)) = nextB xs (y0, y1, y2) k (m - k)) := hL
    clear hb hL
    rcases Nat.lt_or_ge k m with h0 | h0
    case inr =>
      obtain rfl : k = m := by omega
      go_wp2
      go_ret
      exact ⟨by rw [HL.out, Nat.sub_self]; rfl, HB.out⟩
    case inl =>
      have HS : Hid (m - k = (m - (k + 1)) + 1) := by show _ = _; omega
      have e1 := HE.out k
      obtain ⟨⟨x0, x1, x2⟩, hye⟩ : ∃ v, (ye ys k).1.c = v := ⟨_, rfl⟩
      have HA := HC.out k (by omega)
      rw [hye] at HA
      have hq := fun w => eqV x0 x1 y0 y1 x2 y2 w
      have hg := eqgV
      have HEE : Hid (eqv (ev xs k).c (y0, y1, y2) = eqvB x0 x1 x2 y0 y1 y2) := by show _ = _; rw [e1, hye]; rfl
      clear e1 hye
      have hrn : (k : Int) < (m : Int) := by omega
      have hnm : (n : Int) < (m : Int) := by omega
      have hr0 : (0 : Int) ≤ (k : Int) := by omega
      have A0 := fun d os => cell_regrown (HB.out.cell hb1 |>.trans HA.1) d os
      have A1 := fun d os => cell_regrown (HB.out.cell hb1 |>.trans HA.2.1) d os
      have A2 := fun d os => cell_regrown (HB.out.cell hb1 |>.trans HA.2.2) d os
      have D0 := fun d os => cell_regrown (HB.out.cell hb1 |>.trans HD.out.1) d os
      have D1 := fun d os => cell_regrown (HB.out.cell hb1 |>.trans HD.out.2.1) d os
      have D2 := fun d os => cell_regrown (HB.out.cell hb1 |>.trans HD.out.2.2) d os
      clear HA
      dsimp only at A0 A1 A2 D0 D1 D2
      cases hE : eqvB x0 x1 x2 y0 y1 y2
      · rw [hE] at HEE hq
        go_wp2_with fail
        refine wp_region_quiet_below mixed (by kernel_rfl) ?_
        repeat (quiet_step (fail))
        refine wpQuiet_nil ?_
        intro _ hw'
        obtain ⟨⟨dq, osq⟩, hw''⟩ := hw'
        have HN : Hid (Below w.heap.size w _) := below_next HB.out (hw'' ▸ below_regrown wr dq osq)
        clear hw''
        go_wp2
        go_roundw
        case rel => exact ⟨k + 1, by omega, by omega, by go_num, by rw [HL.out, HS.out, nextB_miss HEE.out], HN.out⟩
        case measure => simp [intOf]; omega
      · rw [hE] at HEE hq
        go_wp2_with fail
        refine wp_region_quiet_below mixed (by kernel_rfl) ?_
        repeat (quiet_step (fail))
        refine wpQuiet_nil ?_
        intro _ hw'
        obtain ⟨⟨dq, osq⟩, hw''⟩ := hw'
        have HN : Hid (Below w.heap.size w _) := below_next HB.out (hw'' ▸ below_regrown wr dq osq)
        clear hw''
        go_wp2
        go_ret
        exact ⟨by rw [HL.out, HS.out, nextB_hit HEE.out]; rfl, HN.out⟩
theorem rnext_any (v : Value) (ys : List YE) (n : Nat) (w : World) (hv : YSl w v ys) (hn : n < ys.length) (hl : ys.length ≤ 1000000000) :
    Calls Tryd.prog 23 #[v, .int .i64 (n : Int)] w fun e w' => e = .returned (.int .i64 (nxt (ys.map (·.1)) n)) ∧ Below w.heap.size w w' := by
  have h := rnext_any0 v ys n w hv hn hl
  unfold nxt
  rw [ev_ye, List.length_map]
  exact h
end Go.Proofs.YtgdegbmakbfaaaaDoor
