/- The walks of SignOuts and SignFits; a Did that came in. Conditions: the table lies in memory. -/
import Derived.Test.YtoefcbhcceikoaaDoorSN
import Derived.Test.YtoefcbhcceikoaaDoorVO
namespace Go.Proofs.YtoefcbhcceikoaaDoor
open Go.RowKit Go.PlainAid Go.Sort
set_option linter.unusedVariables false
set_option linter.unusedSimpArgs false

/-- a Did laid in memory -/
def DBox (w : World) (p : Nat) (m o : Int) (v : Value) : Prop := p < w.heap.size ∧ w.cell? ⟨p, 0, none⟩ = some (.int .i64 m) ∧ w.cell? ⟨p, 1, none⟩ = some (.int .i64 o) ∧ w.cell? ⟨p, 2, none⟩ = some v
theorem DBox.later {w w' : World} {p : Nat} {m o : Int} {v : Value} (h : DBox w p m o v) (hb : Below w.heap.size w w') : DBox w' p m o v :=
  ⟨Nat.lt_of_lt_of_le h.1 hb.size, (hb.cell (p := ⟨p, 0, none⟩) h.1).trans h.2.1, (hb.cell (p := ⟨p, 1, none⟩) h.1).trans h.2.2.1, (hb.cell (p := ⟨p, 2, none⟩) h.1).trans h.2.2.2⟩
theorem DBox.new (w : World) (m o : Int) (v : Value) (T : TypeId) : DBox (w.alloc (.cells #[.int .i64 m, .int .i64 o, v] T)) w.heap.size m o v :=
  ⟨by simp, by simp, by simp, by simp⟩

set_option maxHeartbeats 4000000 in
theorem law_outs (m o : Int) (v : Value) (xs : List Val) (w : World) (ht : Tb w) (hv : VSl w v xs) :
    Calls Tryd.prog 6 #[.agg #[.int .i64 m, .int .i64 o, v]] w fun e w' => e = .returned (.bool true) ∧ Below w.heap.size w w' := by
  have HT : Hid (Tb w) := ht
  have HV : Hid (VSl w v xs) := hv
  obtain ⟨a, c, rfl, hl, hm, _⟩ := hv
  have D0 := DBox.new w m o (.slice a xs.length c) 41
  have hb0 := below_box w (.cells #[.int .i64 m, .int .i64 o, .slice a xs.length c] 41)
  clear ht
  go_enter Tryd.func6, Tryd.ntmps6
  go_wp2_with fail
  refine (wakes_any _ (HT.out.later hb0)).mono ?_
  rintro e w1 ⟨rfl, hb1⟩
  replace D0 := D0.later hb1
  have HB1 : Hid (Below w.heap.size w w1) := below_next hb0 hb1
  have HD : Hid (DBox w1 w.heap.size m o (.slice a xs.length c)) := D0
  obtain ⟨hp, c0, c1, c2⟩ := D0
  clear hb0 hb1
  by_cases hn : 40 < xs.length
  · have hn' : (40 : Int) < (xs.length : Int) := by omega
    go_wp2
    go_ret
    exact ⟨rfl, HB1.out⟩
  have hn' : ¬ (40 : Int) < (xs.length : Int) := by omega
  go_wp2
  go_loopw [18] (fun i w' => ∃ k : Nat, k ≤ xs.length ∧ i = .int .i64 (k : Int) ∧ Below w1.heap.size w1 w' ∧ ∀ i, i < k → (nv xs i).2.2.size ≤ 200) (fun i w' => xs.length - (intOf i).toNat)
  case atStart => exact ⟨0, by omega, rfl, Below.refl _ _, fun i h => by omega⟩
  case round =>
    obtain ⟨k, hk, rfl, hb, hall⟩ := hrel
    have HA : Hid (∀ i, i < k → (nv xs i).2.2.size ≤ 200) := hall
    clear hall c0 c1 c2
    by_cases hlt : k < xs.length
    · have hlt' : (k : Int) < (xs.length : Int) := by omega
      have HV2 := HV.out.later (below_next HB1.out hb)
      obtain ⟨p, q, rfl⟩ := vat_block HV2 (by omega)
      obtain ⟨a0, a1, a2⟩ := vat_cells HV2 hlt
      clear HV2
      by_cases hs : 200 < (nv xs k).2.2.size
      · have hs' : (200 : Int) < ((nv xs k).2.2.size : Int) := by omega
        go_wp2
        go_ret
        exact ⟨rfl, below_next HB1.out (below_more hb _)⟩
      · have hs' : ¬ (200 : Int) < ((nv xs k).2.2.size : Int) := by omega
        go_wp2
        go_roundw
        case rel =>
          refine ⟨k + 1, by omega, by go_num, below_more hb _, fun i hi => ?_⟩
          by_cases e : i = k
          · subst e; omega
          · exact HA.out i (by omega)
        case measure => simp [intOf]; omega
    · have e : k = xs.length := by omega
      subst e
      have hbw := below_next HB1.out hb
      have hsz : Hid (∀ i, i < xs.length → (nv xs i).2.2.size ≤ 4611686018427387904) := fun i hi => Nat.le_trans (HA.out i hi) (by decide)
      have HD1 : Hid (DBox wr w.heap.size m o (.slice a xs.length c)) := HD.out.later hb
      obtain ⟨_, c0, c1, c2⟩ := HD.out.later hb
      go_wp2_with fail
      refine (outs_any m o _ xs _ (HT.out.later hbw) (HV.out.later hbw) hsz.out (by omega)).mono ?_
      rintro e w4 ⟨v4, rfl, s4, hb4⟩
      obtain ⟨a4, k4, rfl⟩ := s4.form
      have hbw4 := below_next hbw hb4
      clear c0 c1 c2
      obtain ⟨_, c0, c1, c2⟩ := HD1.out.later hb4
      have hR := fun w hv => routs_any m o (.slice a xs.length c) xs w hv hsz.out (by omega)
      unfold ROuts at hR
      have HVn : Hid (VSl w4 (.slice a xs.length c) xs) := HV.out.later hbw4
      clear HV HT
      generalize (if fi m o = true then outsL (fr m o) xs else []) = L at *
      generalize (fi m o && outsOK (fr m o) xs) = ok at *
      go_wp2_with fail
      refine (hR _ HVn.out).mono ?_
      rintro e w5 ⟨v5, rfl, s5, hb5⟩
      obtain ⟨a5, k5, rfl⟩ := s5.form
      replace s4 := s4.later hb5
      clear c0 c1 c2 hR
      go_wp2_with fail
      refine (same_any _ _ _ _ _ s4 s5).mono ?_
      rintro e w6 ⟨rfl, hb6⟩
      rw [sameB_self]
      go_wp2
      go_ret
      exact ⟨rfl, below_next hbw4 (below_next hb5 hb6)⟩

set_option maxHeartbeats 4000000 in
theorem law_fits (m o : Int) (v : Value) (xs : List Val) (w : World) (ht : Tb w) (hv : VSl w v xs) :
    Calls Tryd.prog 7 #[.agg #[.int .i64 m, .int .i64 o, v]] w fun e w' => e = .returned (.bool true) ∧ Below w.heap.size w w' := by
  have HT : Hid (Tb w) := ht
  have HV : Hid (VSl w v xs) := hv
  obtain ⟨a, c, rfl, hl, hm, _⟩ := hv
  have D0 := DBox.new w m o (.slice a xs.length c) 41
  have hb0 := below_box w (.cells #[.int .i64 m, .int .i64 o, .slice a xs.length c] 41)
  clear ht
  go_enter Tryd.func7, Tryd.ntmps7
  go_wp2_with fail
  refine (wakes_any _ (HT.out.later hb0)).mono ?_
  rintro e w1 ⟨rfl, hb1⟩
  replace D0 := D0.later hb1
  have HB1 : Hid (Below w.heap.size w w1) := below_next hb0 hb1
  have HD : Hid (DBox w1 w.heap.size m o (.slice a xs.length c)) := D0
  obtain ⟨hp, c0, c1, c2⟩ := D0
  clear hb0 hb1
  by_cases hn : 40 < xs.length
  · have hn' : (40 : Int) < (xs.length : Int) := by omega
    go_wp2
    go_ret
    exact ⟨rfl, HB1.out⟩
  have hn' : ¬ (40 : Int) < (xs.length : Int) := by omega
  go_wp2
  go_loopw [14] (fun i w' => ∃ k : Nat, k ≤ xs.length ∧ i = .int .i64 (k : Int) ∧ Below w1.heap.size w1 w' ∧ ∀ i, i < k → (nv xs i).2.2.size ≤ 200) (fun i w' => xs.length - (intOf i).toNat)
  case atStart => exact ⟨0, by omega, rfl, Below.refl _ _, fun i h => by omega⟩
  case round =>
    obtain ⟨k, hk, rfl, hb, hall⟩ := hrel
    have HA : Hid (∀ i, i < k → (nv xs i).2.2.size ≤ 200) := hall
    clear hall c0 c1 c2
    by_cases hlt : k < xs.length
    · have hlt' : (k : Int) < (xs.length : Int) := by omega
      have HV2 := HV.out.later (below_next HB1.out hb)
      obtain ⟨p, q, rfl⟩ := vat_block HV2 (by omega)
      obtain ⟨a0, a1, a2⟩ := vat_cells HV2 hlt
      clear HV2
      by_cases hs : 200 < (nv xs k).2.2.size
      · have hs' : (200 : Int) < ((nv xs k).2.2.size : Int) := by omega
        go_wp2
        go_ret
        exact ⟨rfl, below_next HB1.out (below_more hb _)⟩
      · have hs' : ¬ (200 : Int) < ((nv xs k).2.2.size : Int) := by omega
        go_wp2
        go_roundw
        case rel =>
          refine ⟨k + 1, by omega, by go_num, below_more hb _, fun i hi => ?_⟩
          by_cases e : i = k
          · subst e; omega
          · exact HA.out i (by omega)
        case measure => simp [intOf]; omega
    · have e : k = xs.length := by omega
      subst e
      have hbw := below_next HB1.out hb
      have hsz : Hid (∀ i, i < xs.length → (nv xs i).2.2.size ≤ 4611686018427387904) := fun i hi => Nat.le_trans (HA.out i hi) (by decide)
      have HD1 : Hid (DBox wr w.heap.size m o (.slice a xs.length c)) := HD.out.later hb
      obtain ⟨_, c0, c1, c2⟩ := HD.out.later hb
      have h1 := fun d os => fits_any m o (.slice a xs.length c) xs _ ((HT.out.later hbw).later (below_regrown wr d os)) ((HV.out.later hbw).later (below_regrown wr d os)) hsz.out (by omega)
      have h2 := fun d os => rfits_of m o (.slice a xs.length c) xs _ (rfind_any m o _) ((HV.out.later hbw).later (below_regrown wr d os)) hsz.out (by omega)
      generalize (fi m o && fitsL (fr m o).inn xs) = ok at h1 h2
      have mixed : Tryd.prog.follows .mixedOrders = true := by kernel_rfl
      have c0' := fun d os => cell_regrown c0 d os
      have c1' := fun d os => cell_regrown c1 d os
      have c2' := fun d os => cell_regrown c2 d os
      clear c0 c1 c2
      go_wp2_with fail
      refine wp_region_quiet_below (by assumption) (by kernel_rfl) ?_
      repeat (go_big_quiet_step (first | (go_at_call 24; with_reducible exact Calls.regrown_of (h1 _ _)) | (go_at_call 25; with_reducible exact Calls.regrown_of (h2 _ _))))
      refine wpQuiet_nil ?_
      intro _ hw'
      obtain ⟨⟨dq, osq⟩, hw''⟩ := hw'
      subst hw''
      go_wp2
      go_ret
      exact ⟨rfl, below_next hbw (below_regrown _ _ _)⟩

/-- a Did that came in -/
theorem open_did {H : Type} {enc : TypeId × Value → H} {W : World} {r : Reach} {b0 : Nat} {held : Bool} {v : Value} {d : DataW H} {ps : List MemPlace}
    (hv : Value.okWide Tryd.prog W r b0 41 v) (hd : DataW.Trod enc Tryd.prog W 0 (fun _ => true) held 41 v d ps) :
    ∃ (m o : Int) (u : Value) (xs : List Val), v = .agg #[.int .i64 m, .int .i64 o, u] ∧ VSl W u xs := by
  obtain ⟨v0, v1, v2, y0, y1, y2, m, rfl, _, _, h0, h1, h2⟩ := Go.Joins.open_agg3 Tryd.underlying41 (by kernel_rfl) (by kernel_rfl) hv hd
  obtain ⟨k, hk, _, wk⟩ := DataW.trod_int Tryd.underlying3 h0
  obtain ⟨n, hn, _, wn⟩ := DataW.trod_int Tryd.underlying3 h1
  simp at hk hn
  subst hk hn
  obtain ⟨a, l, c, rfl⟩ : ∃ a l c, v2 = .slice a l c := by
    rcases Deep.open_slice Tryd.underlying39 h2 with ⟨hcs, _⟩ | ⟨x, l, c, _, _, _, _, hcs, _⟩
    · simp at hcs; exact ⟨_, _, _, hcs⟩
    · simp at hcs; exact ⟨_, _, _, hcs⟩
  obtain ⟨xs, hx⟩ := vsl_of_trod (held := held) (d := y2.1) (p := y2.2) ⟨m, h2⟩
  exact ⟨k, n, _, xs, rfl, hx⟩
end Go.Proofs.YtoefcbhcceikoaaDoor
