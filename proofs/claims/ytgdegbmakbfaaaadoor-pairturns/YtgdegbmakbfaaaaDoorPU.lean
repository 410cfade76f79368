/- The contract of whose turn it is. Conditions: the walk's state, the table and the events' lists lie in memory; a client is a key; sizes as the contracts take. -/
import Derived.Test.YtgdegbmakbfaaaaDoorPF
import Derived.Test.YtgdegbmakbfaaaaDoorPQ
namespace Go.Proofs.YtgdegbmakbfaaaaDoor
open Go.RowKit Go.PlainAid Ln
set_option linter.unusedVariables false
set_option linter.unusedSimpArgs false

/-- a client's three cells among an event's -/
theorem evC_cl (x : Ev) (va vr : Value) : ∀ (j : Nat) (v : Value), (vls x.c.1 x.c.2.1 x.c.2.2)[j]? = some v → (evC x va vr)[1 + j]? = some v := by
  intro j v h
  rcases j with _ | _ | _ | j
  · exact h
  · exact h
  · exact h
  · exact absurd h (by simp [vls])
set_option maxRecDepth 100000 in
set_option maxHeartbeats 16000000 in
theorem turn_any (p mb ml n b o q c B : Nat) (ve : Value) (ys : List YE) (X : Ev) (va vr : Value) (w : World) (hst : St w B p mb ml (.slice (some ⟨b, o, none⟩) q c) ve (ys.map (·.1)) n) (hq : ys.length = q) (hv : ∀ k, k < q → w.rangeAt b (o + k * 14) (encE (ye ys k))) (hbw : b < w.heap.size) (hil : InL w ys)
    (hx : ye ys n = (X, va, vr)) (hn : n < q) (hq1 : q ≤ 1000000000) (hc : q ≤ c) (hc2 : c ≤ 9223372036854775807) (ht : Tb w) (hz : SzE X) (hk : KV X.c) :
    Calls Tryd.prog 34 #[.pointer (some ⟨p, 0, none⟩), .agg (evC X va vr).toArray] w fun e w' => e = .returned (.bool (turnB (ys.map (·.1)) n)) ∧ Below w.heap.size w w' := by
  have mixed : Tryd.prog.follows .mixedOrders = true := by kernel_rfl
  have hin := hil n (by omega)
  rw [hx] at hin
  have HX : Hid (ev (ys.map (·.1)) n = X) := by show _ = _; rw [ev_ye, hx]
  have hplace : busyB (ys.map (·.1)) X.c n = true → ∃ i : Nat, lastB (ys.map (·.1)) X.c n = (i : Int) ∧ i < n := fun h => by
    obtain ⟨i, h1, h2, _⟩ := busy_place h
    exact ⟨i, h1, h2⟩
  have HPl : Hid (busyB (ys.map (·.1)) X.c n = true → ∃ i : Nat, lastB (ys.map (·.1)) X.c n = (i : Int) ∧ i < n) := hplace
  have HEv : Hid (∀ k, ev (ys.map (·.1)) k = (ye ys k).1) := fun k => ev_ye ys k
  have HI : Hid (∀ k, k < q → (ye ys k).2.1.oneCell' = true ∧ (ye ys k).2.2.oneCell' = true) := fun k h => InL.one hil k (by omega)
  have HV : Hid (∀ k, k < q → w.rangeAt b (o + k * 14) (encE (ye ys k))) := hv
  obtain ⟨w1, hw1⟩ : ∃ w1, w.alloc (.cells (evC X va vr).toArray 47) = w1 := ⟨_, rfl⟩
  have B1 := Blk.new w (evC X va vr) 47
  rw [hw1] at B1
  have b1 : Below w.heap.size w w1 := by rw [← hw1]; exact below_more (Below.refl _ _) _
  have ea := hw1
  simp only [evC] at ea
  obtain ⟨pe, hpp⟩ : ∃ pe, w.heap.size = pe := ⟨_, rfl⟩
  have HP : Hid (w.heap.size = pe) := hpp
  rw [hpp] at B1
  have HBk : Hid (Blk w1 pe (evC X va vr) 47) := B1
  have HBel : Hid (Below w.heap.size w w1) := b1
  have HSt : Hid (St w1 B p mb ml (.slice (some ⟨b, o, none⟩) q c) ve (ys.map (·.1)) n) := hst.later b1
  have HT : Hid (Tb w1) := ht.later b1
  have HR : Hid (VSl w1 vr X.r) := hin.2.later b1
  have HZ : Hid (SzE X) := hz
  have HKV : Hid (KV X.c) := hk
  have HBb : Hid (b < w.heap.size) := hbw
  clear hw1 B1 b1 hst hv hil hin ht hz hk hx hplace hbw
  generalize ys.map (·.1) = xs at *
  have k0 := fun d os => cell_regrown (HSt.out.blk.cell 0 _ rfl) d os
  have k1 := fun d os => cell_regrown (HSt.out.blk.cell 1 _ rfl) d os
  have e4 := fun d os => cell_regrown (HBk.out.cell 4 _ rfl) d os
  simp only [evC]
  go_enter Tryd.func34, Tryd.ntmps34
  go_wp2_with fail
  refine wp_region_quiet_below mixed (by kernel_rfl) ?_
  go_big_quiet_step (fail)
  go_big_quiet_step (fail)
  go_big_quiet_step (fail)
  go_big_quiet_step (fail)
  go_big_quiet_step (fail)
  refine quietH 15 (.agg (vls X.c.1 X.c.2.1 X.c.2.2).toArray) rfl (yieldsIf_load_mid rfl 38 (.tmp 14) rfl pe 1 rfl (vls X.c.1 X.c.2.1 X.c.2.2) _ (fun wx hx => (HBk.out.later (by obtain ⟨⟨d, os⟩, rfl⟩ := hx; exact below_regrown w1 d os)).range 1 _ (evC_cl X va vr)) Tryd.underlying38 rfl sizeV) ?_
  simp only [List.setIfInBounds_toArray, List.set_cons_zero, List.set_cons_succ]
  refine quietH 16 (.tuple #[.int .i64 ((openG xs n X.c).getD 0), .bool (openG xs n X.c).isSome]) rfl (yieldsIf_ilook true (.tmp 13) (.tmp 15) rfl rfl Tryd.underlying58 Tryd.underlying3 zero_int mb n (openG xs n) rfl (fun wx hx => HSt.out.busy.later (by obtain ⟨⟨d, os⟩, rfl⟩ := hx; exact below_regrown w1 d os)) X.c HKV.out rfl _ rfl) ?_
  simp only [List.setIfInBounds_toArray, List.set_cons_zero, List.set_cons_succ]
  rw [openG_some]
  have hgi : busyB xs X.c n = true → (openG xs n X.c).getD 0 = lastB xs X.c n := fun h => by rw [openG_get h]; rfl
  have HGi : Hid (busyB xs X.c n = true → (openG xs n X.c).getD 0 = lastB xs X.c n) := hgi
  clear hgi
  obtain ⟨gi, hgi⟩ : ∃ gi, (openG xs n X.c).getD 0 = gi := ⟨_, rfl⟩
  rw [hgi] at HGi ⊢
  obtain ⟨bu, hbu⟩ : ∃ bu, busyB xs X.c n = bu := ⟨_, rfl⟩
  rw [hbu] at HGi HPl ⊢
  have HBu : Hid (busyB xs X.c n = bu) := hbu
  clear hbu hgi
  repeat (go_big_quiet_step (fail))
  refine wpQuiet_nil ?_
  intro w3 hw'
  have hb3 : Below w1.heap.size w1 w3 := by obtain ⟨⟨d, os⟩, rfl⟩ := hw'; exact below_regrown w1 d os
  have HN : Hid (Below w1.heap.size w1 w3) := hb3
  replace e4 := (HBk.out.later hb3).cell 4 _ rfl
  replace k0 := (HSt.out.blk.later hb3).cell 0 _ rfl
  replace k1 := (HSt.out.blk.later hb3).cell 2 _ rfl
  clear hw' hb3 ea
  by_cases y1 : X.y = 1
  · have e1 : (X.y == 1) = true := by simp [y1]
    have HTu : Hid (turnB xs n = (!bu && !lostB xs X.c n)) := by show _ = _; unfold turnB; rw [HX.out, if_pos y1, HBu.out]
    clear y1
    go_wp2_with fail
    rename_i K hKK
    have HW1 : Below w3.heap.size w3 { w3 with drawn := w3.drawn + 1 } := ⟨rfl, rfl, rfl, Nat.le_refl _, fun _ _ => rfl⟩
    refine wp_region_held (S := fun wx => Below w3.heap.size w3 wx) mixed ?_
    generalize ({ w3 with drawn := w3.drawn + 1 } : World) = n0 at HW1 ⊢
    refine takeH 0 24 (.pointer (some ⟨p, 0, none⟩)) rfl rfl (by kernel_rfl) (by kernel_rfl) (by kernel_rfl) (fun c a w h => h) (.inl ⟨rfl, fun w _ => rfl⟩) HW1 ?_
    simp only [List.setIfInBounds_toArray, List.set_cons_zero, List.set_cons_succ]
    refine takeH 1 25 (.pointer (some ⟨p, 0, none⟩)) rfl rfl (by kernel_rfl) (by kernel_rfl) (by kernel_rfl) (fun c a w h => h) (.inl ⟨rfl, fun w _ => by go_simp⟩) HW1 ?_
    simp only [List.setIfInBounds_toArray, List.set_cons_zero, List.set_cons_succ]
    refine takeH 2 26 (.pointer (some ⟨p, 2, none⟩)) rfl rfl (by kernel_rfl) (by kernel_rfl) (by kernel_rfl) (fun c a w h => h) (.inl ⟨rfl, fun w _ => by go_simp⟩) HW1 ?_
    simp only [List.setIfInBounds_toArray, List.set_cons_zero, List.set_cons_succ]
    refine takeH 3 27 (.map (some ml)) rfl rfl (by kernel_rfl) (by kernel_rfl) (by kernel_rfl) (fun c a w h => h) (.inl ⟨rfl, fun wx hx => by have c := (HSt.out.blk.later (below_next HN.out hx)).cell 2 _ rfl; go_simp⟩) HW1 ?_
    simp only [List.setIfInBounds_toArray, List.set_cons_zero, List.set_cons_succ]
    refine takeH 4 28 (.pointer (some ⟨pe, 1, none⟩)) rfl rfl (by kernel_rfl) (by kernel_rfl) (by kernel_rfl) (fun c a w h => h) (.inl ⟨rfl, fun w _ => by go_simp⟩) HW1 ?_
    simp only [List.setIfInBounds_toArray, List.set_cons_zero, List.set_cons_succ]
    refine takeH 5 29 (.agg (vls X.c.1 X.c.2.1 X.c.2.2).toArray) rfl rfl (by kernel_rfl) (by kernel_rfl) (by kernel_rfl) (fun c a w h => h) (yieldsIf_load_mid rfl 38 (.tmp 28) rfl pe 1 rfl (vls X.c.1 X.c.2.1 X.c.2.2) _ (fun wx hx => (HBk.out.later (below_next HN.out hx)).range 1 _ (evC_cl X va vr)) Tryd.underlying38 rfl sizeV) HW1 ?_
    simp only [List.setIfInBounds_toArray, List.set_cons_zero, List.set_cons_succ]
    refine takeH 6 30 (.tuple #[.agg #[], .bool (lostG xs n X.c).isSome]) rfl rfl (by kernel_rfl) (by kernel_rfl) (by kernel_rfl) (fun c a w h => h) (yieldsIf_ulook (.tmp 27) (.tmp 29) rfl rfl Tryd.underlying59 zero_unit ml n (lostG xs n) rfl (fun wx hx => HSt.out.lost.later (below_next HN.out hx)) X.c HKV.out rfl _ rfl) HW1 ?_
    simp only [List.setIfInBounds_toArray, List.set_cons_zero, List.set_cons_succ]
    refine takeH 7 23 (.tuple #[.agg #[], .bool (lostG xs n X.c).isSome]) rfl rfl (by kernel_rfl) (by kernel_rfl) (by kernel_rfl) (fun c a w h => h) (.inl ⟨rfl, fun w _ => rfl⟩) HW1 ?_
    simp only [List.setIfInBounds_toArray, List.set_cons_zero, List.set_cons_succ]
    refine takeH 8 31 (.agg #[]) rfl rfl (by kernel_rfl) (by kernel_rfl) (by kernel_rfl) (fun c a w h => h) (.inl ⟨rfl, fun w _ => by go_simp⟩) HW1 ?_
    simp only [List.setIfInBounds_toArray, List.set_cons_zero, List.set_cons_succ]
    refine takeH 9 32 (.bool (lostG xs n X.c).isSome) rfl rfl (by kernel_rfl) (by kernel_rfl) (by kernel_rfl) (fun c a w h => h) (.inl ⟨rfl, fun w _ => by go_simp⟩) HW1 ?_
    simp only [List.setIfInBounds_toArray, List.set_cons_zero, List.set_cons_succ]
    refine wpAnyH_all (rs := [10]) (by kernel_rfl) (by simp) (fun i hi => ?_)
    obtain rfl : i = 10 := by simpa using hi
    refine wpOp_doG 10 (by rfl) (by rfl) ?_
    go_wp2_with fail
    have B0 : Blk (n0.alloc (.cells #[] 69)) n0.heap.size [] 69 := Blk.new n0 [] 69
    have hb : Below n0.heap.size n0 (n0.alloc (.cells #[] 69)) := below_more (Below.refl _ _) _
    have hzz : w3.heap.size ≤ n0.heap.size := HW1.size
    obtain ⟨z, hz⟩ : ∃ z, n0.heap.size = z := ⟨_, rfl⟩
    rw [hz] at B0 hzz
    simp only [hz]
    replace hb : Below n0.heap.size n0 _ := hb
    generalize n0.alloc (.cells #[] 69) = q1 at B0 hb ⊢
    refine ⟨below_next HW1 hb, ?_⟩
    replace HW1 := below_next HW1 hb
    clear hb
    refine wpAnyH_all (rs := [11]) (by kernel_rfl) (by simp) (fun i hi => ?_)
    obtain rfl : i = 11 := by simpa using hi
    refine wpOp_doG 11 (by rfl) (by rfl) ?_
    refine wpo_storeB 69 (.tmp 7) (.tmp 31) z 0 [] [] 69 infoU (Nat.le_refl _) (fun v h => by cases h) rfl rfl rfl B0 ?_
    intro q2 _ ho
    have hb : Below w3.heap.size w3 q2 := ⟨ho.os.trans HW1.os, ho.tape.trans HW1.tape, ho.output.trans HW1.output, Nat.le_trans HW1.size ho.size, fun j hj => (ho.block j (Nat.lt_of_lt_of_le hj HW1.size) (by omega) (by omega)).trans (HW1.block j hj)⟩
    clear ho B0
    refine ⟨hb, ?_⟩
    replace HW1 := hb
    clear hb
    refine takeH 12 8 (.bool (lostG xs n X.c).isSome) rfl rfl (by kernel_rfl) (by kernel_rfl) (by kernel_rfl) (fun c a w h => h) (.inl ⟨rfl, fun w _ => rfl⟩) HW1 ?_
    simp only [List.setIfInBounds_toArray, List.set_cons_zero, List.set_cons_succ]
    refine wpAnyH_done (by kernel_rfl) ?_ _
    show K _ _
    refine hKK _ _ ?_
    rw [lostG_some]
    have HW3 : Hid (Below w3.heap.size w3 _) := HW1
    clear HW1
    obtain ⟨lo, hlo⟩ : ∃ lo, lostB xs X.c n = lo := ⟨_, rfl⟩
    rw [hlo] at HTu ⊢
    clear hlo
    cases bu
    · go_wp2
      go_ret
      exact ⟨by rw [HTu.out]; rfl, by first | exact below_next HBel.out (below_next HN.out HW3.out) | (rw [← HP.out]; exact below_next HBel.out (below_next HN.out HW3.out))⟩
    · go_wp2
      go_ret
      exact ⟨by rw [HTu.out]; rfl, by first | exact below_next HBel.out (below_next HN.out HW3.out) | (rw [← HP.out]; exact below_next HBel.out (below_next HN.out HW3.out))⟩
  · have e1 : (X.y == 1) = false := by simp [y1]
    by_cases y2 : X.y = 2
    · have e2 : (X.y == 2) = true := by simp [y2]
      have hTu : turnB xs n = (bu && outE (ev xs (lastB xs X.c n).toNat) X.r) := by unfold turnB; rw [HX.out, if_neg y1, if_pos y2, HBu.out]
      have HTu : Hid (turnB xs n = (bu && outE (ev xs (lastB xs X.c n).toNat) X.r)) := hTu
      clear y1 y2 hTu
      cases bu
      · go_wp2_with fail
        refine wp_region_quiet_below mixed (by kernel_rfl) ?_
        repeat (go_big_quiet_step (fail))
        refine wpQuiet_nil ?_
        intro w4 hw'
        have HW3 : Hid (Below w3.heap.size w3 w4) := by show Below _ _ _; obtain ⟨⟨d, os⟩, rfl⟩ := hw'; exact below_regrown w3 d os
        clear hw'
        go_wp2
        go_ret
        exact ⟨by rw [HTu.out]; rfl, by first | exact below_next HBel.out (below_next HN.out HW3.out) | (rw [← HP.out]; exact below_next HBel.out (below_next HN.out HW3.out))⟩
      · obtain ⟨i, hi, hin⟩ := HPl.out rfl
        have hiq : i < q := by omega
        have hiq' : (i : Int) < (q : Int) := by omega
        have hi0 : (0 : Int) ≤ (i : Int) := by omega
        have hgi := HGi.out rfl
        rw [hi] at hgi HTu
        subst hgi
        rw [Int.toNat_natCast] at HTu
        have hei := HEv.out i
        have hri := HV.out i hiq
        have hoi := HI.out i hiq
        rcases hyi : ye ys i with ⟨Y, ya, yr⟩
        rw [hyi] at hei hri hoi
        rw [hei] at HTu
        have hC : ∀ w', Below w3.heap.size w3 w' → Calls Tryd.prog 43 #[.agg (evC Y ya yr).toArray, vr] w' fun e w'' => e = .returned (.bool (outE Y X.r)) ∧ Below w'.heap.size w' w'' := fun w' h =>
          comes_any Y ya yr vr X.r w' (HT.out.later (below_next HN.out h)) hoi.1 hoi.2 (HR.out.later (below_next HN.out h)) HZ.out.2.2.2.1 HZ.out.2.2.2.2.2
        have HC : Hid (∀ w', Below w3.heap.size w3 w' → Calls Tryd.prog 43 #[.agg (evC Y ya yr).toArray, vr] w' fun e w'' => e = .returned (.bool (outE Y X.r)) ∧ Below w'.heap.size w' w'') := hC
        have HRi : Hid (w.rangeAt b (o + i * 14) (evC Y ya yr)) := hri
        replace k0 := fun d os => cell_regrown ((HSt.out.blk.later HN.out).cell 0 _ rfl) d os
        have e11 := fun d os => cell_regrown ((HBk.out.later HN.out).cell 11 _ rfl) d os
        clear hi hei hri hoi hyi hC hin
        generalize outE Y X.r = ok at *
        go_wp2_with fail
        refine wp_region_quiet_below mixed (by kernel_rfl) ?_
        go_big_quiet_step (fail)
        go_big_quiet_step (fail)
        go_big_quiet_step (fail)
        go_big_quiet_step (fail)
        go_big_quiet_step (fail)
        go_big_quiet_step (fail)
        go_big_quiet_step (fail)
        go_big_quiet_step (fail)
        refine quietH 49 (.agg (evC Y ya yr).toArray) rfl (yieldsIf_load_mid rfl 47 (.tmp 48) rfl b (o + i * 14) rfl (evC Y ya yr) _ (fun wx hx => by
          have hx2 : Below w.heap.size w wx := by obtain ⟨⟨d, os⟩, rfl⟩ := hx; exact below_next HBel.out (below_next HN.out (below_regrown w3 d os))
          exact fun j u hj => (hx2.cell (p := ⟨b, o + i * 14 + j, none⟩) HBb.out).trans (HRi.out j u hj)) Tryd.underlying47 rfl sizeE) ?_
        simp only [List.setIfInBounds_toArray, List.set_cons_zero, List.set_cons_succ]
        repeat (go_big_quiet_step (first | (go_at_call 43; with_reducible exact Calls.regrown_of (HC.out _ (below_regrown _ _ _)))))
        refine wpQuiet_nil ?_
        intro w4 hw'
        have HW3 : Hid (Below w3.heap.size w3 w4) := by show Below _ _ _; obtain ⟨⟨d, os⟩, rfl⟩ := hw'; exact below_regrown w3 d os
        clear hw' k0 e11
        go_wp2
        go_ret
        exact ⟨by rw [HTu.out]; rfl, by first | exact below_next HBel.out (below_next HN.out HW3.out) | (rw [← HP.out]; exact below_next HBel.out (below_next HN.out HW3.out))⟩
    · have e2 : (X.y == 2) = false := by simp [y2]
      have hTu : turnB xs n = bu := by unfold turnB; rw [HX.out, if_neg y1, if_neg y2, HBu.out]
      have HTu : Hid (turnB xs n = bu) := hTu
      have HW3 : Hid (Below w3.heap.size w3 w3) := Below.refl _ _
      clear y1 y2 hTu
      go_wp2
      go_ret
      exact ⟨by rw [HTu.out]; rfl, by first | exact below_next HBel.out (below_next HN.out HW3.out) | (rw [← HP.out]; exact below_next HBel.out (below_next HN.out HW3.out))⟩
end Go.Proofs.YtgdegbmakbfaaaaDoor
