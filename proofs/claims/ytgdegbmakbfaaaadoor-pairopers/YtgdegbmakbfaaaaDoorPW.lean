/- The contract of the document's wrong. Conditions: the events and their lists lie in memory; sizes as the contracts take. -/
import Derived.Test.YtgdegbmakbfaaaaDoorPL
import Derived.Test.YtgdegbmakbfaaaaDoorRF
import Derived.Test.YtgdegbmakbfaaaaDoorSM
import Derived.Test.YtgdegbmakbfaaaaDoorHW
namespace Go.Proofs.YtgdegbmakbfaaaaDoor
open Go.RowKit Go.PlainAid Ln
set_option linter.unusedVariables false
set_option linter.unusedSimpArgs false

theorem form_call {xs : List Ev} {n : Nat} (hy : (ev xs n).y = 1) : formE xs n = if (busyB xs (ev xs n).c n || lostB xs (ev xs n).c n) = true then 4 else 0 := if_pos hy
theorem form_free {xs : List Ev} {n : Nat} (hy : ¬ (ev xs n).y = 1) (hb : busyB xs (ev xs n).c n = false) : formE xs n = 4 := by unfold formE; rw [if_neg hy, hb]; rfl
theorem form_done {xs : List Ev} {n : Nat} (hy : (ev xs n).y = 2) (hb : busyB xs (ev xs n).c n = true) : formE xs n = if outE (ev xs (lastB xs (ev xs n).c n).toNat) (ev xs n).r = true then 0 else 4 := by
  unfold formE; rw [if_neg (by omega), if_pos hb]
  cases outE (ev xs (lastB xs (ev xs n).c n).toNat) (ev xs n).r
  · rw [if_pos ⟨hy, rfl⟩]; rfl
  · rw [if_neg (fun h => by cases h.2)]; rfl
theorem form_else {xs : List Ev} {n : Nat} (h1 : ¬ (ev xs n).y = 1) (h2 : ¬ (ev xs n).y = 2) (hb : busyB xs (ev xs n).c n = true) : formE xs n = 0 := by
  unfold formE; rw [if_neg h1, if_pos hb, if_neg (fun h => h2 h.1)]
theorem busy_none {xs : List Ev} {v : Val} {n : Nat} (h : lastB xs v n = -1) : busyB xs v n = false ∧ lostB xs v n = false := by unfold busyB lostB; rw [h]; exact ⟨rfl, rfl⟩
/-- the cells of an event in a row, in a later world -/
theorem row_cells {w w' : World} {b o : Nat} {x : Ev} {va vr : Value} (h : w.rangeAt b o (evC x va vr)) (hb : b < w.heap.size) (hw : Below w.heap.size w w') :
    w'.cell? ⟨b, o, none⟩ = some (.int .i64 x.t) ∧ w'.cell? ⟨b, o + 4, none⟩ = some (.int .i64 x.y) ∧ w'.cell? ⟨b, o + 5, none⟩ = some (.int .i64 x.m) ∧ w'.cell? ⟨b, o + 9, none⟩ = some (.int .i64 x.o) :=
  ⟨(hw.cell (p := ⟨b, o, none⟩) hb).trans (h 0 _ rfl), (hw.cell (p := ⟨b, o + 4, none⟩) hb).trans (h 4 _ rfl), (hw.cell (p := ⟨b, o + 5, none⟩) hb).trans (h 5 _ rfl), (hw.cell (p := ⟨b, o + 9, none⟩) hb).trans (h 9 _ rfl)⟩
def sndC : Code → Code
  | .seq _ b => b
  | c => c
set_option maxRecDepth 100000 in
set_option maxHeartbeats 16000000 in
theorem wrong_tail (ys : List YE) (xs : List Ev) (X : Ev) (w w2 wz : World) (av ar : Option Addr) (b o q c n p cv cr : Nat) (L : Int) (u2 u3 u7 u8 u9 u10 u11 u12 u13 u14 u15 u16 u17 u18 u19 u20 u21 u22 u23 u24 u25 u26 u27 u28 u29 u30 u31 u32 u33 u34 u35 u36 u37 u38 u39 u40 u41 u42 u43 u44 u45 u46 u47 u48 u49 u50 u51 u52 u53 u54 u55 u56 u57 u58 u59 u60 u61 u62 u63 u64 u65 u66 u67 u68 u69 u70 u71 u72 u73 u74 u75 u76 u77 u78 u79 u80 u81 u82 u83 u84 u85 : Value) (hb1 : b < w.heap.size) (hn : n < q) (hlen : q ≤ 1000000000) (hc1 : q ≤ c) (hc2 : c ≤ 9223372036854775807)
    (hV : ∀ k, k < q → w.rangeAt b (o + k * 14) (encE (ye ys k))) (hE : ∀ k, ev xs k = (ye ys k).1) (h2 : VSl w (.slice ar X.r.length cr) X.r) (hz : SzE X) (hx : ev xs n = X) (hL : lastB xs X.c n = L) (hB : Below w.heap.size w w2) (hK : Blk w2 p (evC X (.slice av X.a.length cv) (.slice ar X.r.length cr)) 47) (hB2 : Below w2.heap.size w2 wz) (hW : wrongE xs n = formE xs n) :
    Code.wp Tryd.prog (sndC (sndC (sndC (sndC (sndC (sndC (Tryd.f21.body.getD .skip))))))) (bodyPost Tryd.prog Tryd.f21 fun e w' => e = .returned (.int .i64 (wrongE xs n)) ∧ Below w.heap.size w w') ⟨#[.slice (some ⟨b, o, none⟩) q c, .int .i64 (n : Int), u2, u3, .int .i64 0, .pointer (some ⟨p, 0, none⟩), .int .i64 L, u7, u8, u9, u10, u11, u12, u13, u14, u15, u16, u17, u18, u19, u20, u21, u22, u23, u24, u25, u26, u27, u28, u29, u30, u31, u32, u33, u34, u35, u36, u37, u38, u39, u40, u41, u42, u43, u44, u45, u46, u47, u48, u49, u50, u51, u52, u53, u54, u55, u56, u57, u58, u59, u60, u61, u62, u63, u64, u65, u66, u67, u68, u69, u70, u71, u72, u73, u74, u75, u76, u77, u78, u79, u80, u81, u82, u83, u84, u85], []⟩ wz := by
  have mixed : Tryd.prog.follows .mixedOrders = true := by kernel_rfl
  have HB : Hid (Below w.heap.size w wz) := below_next hB hB2
  have a4 := (hK.later hB2).cell 4 _ rfl
  have a11 := (hK.later hB2).cell 11 _ rfl
  have HKz : Hid (Blk wz p (evC X (.slice av X.a.length cv) (.slice ar X.r.length cr)) 47) := hK.later hB2
  have H2 : Hid (VSl wz (.slice ar X.r.length cr) X.r) := h2.later HB.out
  have HZ : Hid (SzE X) := hz
  have HX : Hid (ev xs n = X) := hx
  have HV : Hid (∀ k, k < q → w.rangeAt b (o + k * 14) (encE (ye ys k))) := hV
  have HE : Hid (∀ k, ev xs k = (ye ys k).1) := hE
  have HW : Hid (wrongE xs n = formE xs n) := hW
  have hcase := lastB_lo xs X.c n
  have HL : Hid (lastB xs X.c n = L) := hL
  rw [hL] at hcase
  clear hV hE h2 hz hx hB hK hB2 hW hL
  rcases hcase with rfl | ⟨i, rfl, hi, hic⟩
  · have HN := busy_none HL.out
    have HBu : Hid (busyB xs (ev xs n).c n = false) := by show _ = _; rw [HX.out]; exact HN.1
    have HLo : Hid (lostB xs (ev xs n).c n = false) := by show _ = _; rw [HX.out]; exact HN.2
    clear HN
    by_cases y1 : X.y = 1
    · have e1 : (X.y == 1) = true := by simp [y1]
      have HY : Hid ((ev xs n).y = 1) := by show _ = _; rw [HX.out]; exact y1
      clear y1
      unfold Tryd.f21
      dsimp only [sndC, Option.getD]
      go_wp2
      go_ret
      exact ⟨by rw [HW.out, form_call HY.out, HBu.out, HLo.out]; rfl, HB.out⟩
    · have e1 : (X.y == 1) = false := by simp [y1]
      have HY : Hid (¬ (ev xs n).y = 1) := by show ¬ _; rw [HX.out]; exact y1
      clear y1
      unfold Tryd.f21
      dsimp only [sndC, Option.getD]
      go_wp2
      go_ret
      exact ⟨by rw [HW.out, form_free HY.out HBu.out]; rfl, HB.out⟩
  · have hiq : i < q := by omega
    have hiq' : (i : Int) < (q : Int) := by omega
    have hi0 : (0 : Int) ≤ (i : Int) := by omega
    have HEi := HE.out i
    have HR := HV.out i hiq
    rcases hyi : ye ys i with ⟨Y, ya, yr⟩
    rw [hyi] at HEi HR
    have HYi : Hid (ev xs i = Y) := HEi
    have HRi : Hid (w.rangeAt b (o + i * 14) (evC Y ya yr)) := HR
    obtain ⟨c0, c4, c5, c9⟩ := row_cells HR hb1 HB.out
    have HBu : Hid (busyB xs (ev xs n).c n = decide (Y.y = 1)) := by show _ = _; rw [HX.out, busy_at HL.out, HYi.out]
    have HLo : Hid (lostB xs (ev xs n).c n = decide (Y.y = 4)) := by show _ = _; rw [HX.out, lost_at HL.out, HYi.out]
    have HOut : Hid (outE (ev xs (lastB xs (ev xs n).c n).toNat) (ev xs n).r = outE Y X.r) := by show _ = _; rw [HX.out, HL.out, Int.toNat_natCast, HYi.out]
    clear HR HEi hyi hic hi
    by_cases b1 : Y.y = 1
    · have f1 : (Y.y == 1) = true := by simp [b1]
      have f4 : (Y.y == 4) = false := by simp [b1]
      rw [b1] at HBu HLo
      clear b1
      by_cases y1 : X.y = 1
      · have e1 : (X.y == 1) = true := by simp [y1]
        have HY : Hid ((ev xs n).y = 1) := by show _ = _; rw [HX.out]; exact y1
        clear y1
        unfold Tryd.f21
        dsimp only [sndC, Option.getD]
        go_wp2
        go_ret
        exact ⟨by rw [HW.out, form_call HY.out, HBu.out]; rfl, HB.out⟩
      · have e1 : (X.y == 1) = false := by simp [y1]
        have HY : Hid (¬ (ev xs n).y = 1) := by show ¬ _; rw [HX.out]; exact y1
        clear y1
        by_cases y2 : X.y = 2
        · have e2 : (X.y == 2) = true := by simp [y2]
          have HY2 : Hid ((ev xs n).y = 2) := by show _ = _; rw [HX.out]; exact y2
          clear y2
          unfold Tryd.f21
          dsimp only [sndC, Option.getD]
          go_wp2_with fail
          rename_i K hKK
          have HBb : Hid (b < wz.heap.size) := Nat.lt_of_lt_of_le hb1 HB.out.size
          have HW1 : Below wz.heap.size wz { wz with drawn := wz.drawn + 1 } := ⟨rfl, rfl, rfl, Nat.le_refl _, fun _ _ => rfl⟩
          refine wp_region_held (S := fun wx => Below wz.heap.size wz wx) mixed ?_
          generalize ({ wz with drawn := wz.drawn + 1 } : World) = n0 at HW1 ⊢
          refine takeH 0 69 (.slice (some ⟨b, o, none⟩) q c) rfl rfl (by kernel_rfl) (by kernel_rfl) (by kernel_rfl) (fun c a w h => h) (.inl ⟨rfl, fun w _ => rfl⟩) HW1 ?_
          simp only [List.setIfInBounds_toArray, List.set_cons_zero, List.set_cons_succ]
          refine takeH 1 70 (.int .i64 (i : Int)) rfl rfl (by kernel_rfl) (by kernel_rfl) (by kernel_rfl) (fun c a w h => h) (.inl ⟨rfl, fun w _ => rfl⟩) HW1 ?_
          simp only [List.setIfInBounds_toArray, List.set_cons_zero, List.set_cons_succ]
          refine takeH 2 71 (.pointer (some ⟨b, o + i * 14, none⟩)) rfl rfl (by kernel_rfl) (by kernel_rfl) (by kernel_rfl) (fun c a w h => h) (.inl ⟨rfl, fun w _ => by go_simp⟩) HW1 ?_
          simp only [List.setIfInBounds_toArray, List.set_cons_zero, List.set_cons_succ]
          refine takeH 3 72 (.pointer (some ⟨b, o + i * 14 + 5, none⟩)) rfl rfl (by kernel_rfl) (by kernel_rfl) (by kernel_rfl) (fun c a w h => h) (.inl ⟨rfl, fun w _ => by go_simp⟩) HW1 ?_
          simp only [List.setIfInBounds_toArray, List.set_cons_zero, List.set_cons_succ]
          refine takeH 4 73 (.int .i64 Y.m) rfl rfl (by kernel_rfl) (by kernel_rfl) (by kernel_rfl) (fun c a w h => h) (.inl ⟨rfl, fun wx hx => by have c := hx.cell (p := ⟨b, o + i * 14 + 5, none⟩) HBb.out |>.trans c5; go_simp⟩) HW1 ?_
          simp only [List.setIfInBounds_toArray, List.set_cons_zero, List.set_cons_succ]
          refine takeH 5 74 (.slice (some ⟨b, o, none⟩) q c) rfl rfl (by kernel_rfl) (by kernel_rfl) (by kernel_rfl) (fun c a w h => h) (.inl ⟨rfl, fun w _ => rfl⟩) HW1 ?_
          simp only [List.setIfInBounds_toArray, List.set_cons_zero, List.set_cons_succ]
          refine takeH 6 75 (.int .i64 (i : Int)) rfl rfl (by kernel_rfl) (by kernel_rfl) (by kernel_rfl) (fun c a w h => h) (.inl ⟨rfl, fun w _ => rfl⟩) HW1 ?_
          simp only [List.setIfInBounds_toArray, List.set_cons_zero, List.set_cons_succ]
          refine takeH 7 76 (.pointer (some ⟨b, o + i * 14, none⟩)) rfl rfl (by kernel_rfl) (by kernel_rfl) (by kernel_rfl) (fun c a w h => h) (.inl ⟨rfl, fun w _ => by go_simp⟩) HW1 ?_
          simp only [List.setIfInBounds_toArray, List.set_cons_zero, List.set_cons_succ]
          refine takeH 8 77 (.pointer (some ⟨b, o + i * 14 + 9, none⟩)) rfl rfl (by kernel_rfl) (by kernel_rfl) (by kernel_rfl) (fun c a w h => h) (.inl ⟨rfl, fun w _ => by go_simp⟩) HW1 ?_
          simp only [List.setIfInBounds_toArray, List.set_cons_zero, List.set_cons_succ]
          refine takeH 9 78 (.int .i64 Y.o) rfl rfl (by kernel_rfl) (by kernel_rfl) (by kernel_rfl) (fun c a w h => h) (.inl ⟨rfl, fun wx hx => by have c := hx.cell (p := ⟨b, o + i * 14 + 9, none⟩) HBb.out |>.trans c9; go_simp⟩) HW1 ?_
          simp only [List.setIfInBounds_toArray, List.set_cons_zero, List.set_cons_succ]
          refine takeH 10 79 (.pointer (some ⟨p, 11, none⟩)) rfl rfl (by kernel_rfl) (by kernel_rfl) (by kernel_rfl) (fun c a w h => h) (.inl ⟨rfl, fun w _ => by go_simp⟩) HW1 ?_
          simp only [List.setIfInBounds_toArray, List.set_cons_zero, List.set_cons_succ]
          refine takeH 11 80 ((.slice ar X.r.length cr)) rfl rfl (by kernel_rfl) (by kernel_rfl) (by kernel_rfl) (fun c a w h => h) (.inl ⟨rfl, fun wx hx => by have c := (HKz.out.later hx).cell 11 _ rfl; go_simp⟩) HW1 ?_
          simp only [List.setIfInBounds_toArray, List.set_cons_zero, List.set_cons_succ]
          refine wpAnyH_all (rs := [12]) (by kernel_rfl) (by simp) (fun i hi => ?_)
          obtain rfl : i = 12 := by simpa using hi
          refine wpOp_doG 12 (by rfl) (by rfl) ?_
          go_wp2_with fail
          refine (routs_any Y.m Y.o (.slice ar X.r.length cr) X.r n0 (H2.out.later HW1) HZ.out.2.2.2.1 HZ.out.2.2.2.2.2).mono ?_
          rintro e q1 ⟨vo, rfl, _, hb⟩
          refine ⟨below_next HW1 hb, ?_⟩
          replace HW1 := below_next HW1 hb
          clear hb
          refine takeH 13 68 (.tuple #[vo, .bool (outE Y X.r)]) rfl rfl (by kernel_rfl) (by kernel_rfl) (by kernel_rfl) (fun c a w h => h) (.inl ⟨rfl, fun w _ => rfl⟩) HW1 ?_
          simp only [List.setIfInBounds_toArray, List.set_cons_zero, List.set_cons_succ]
          refine takeH 14 82 (vo) rfl rfl (by kernel_rfl) (by kernel_rfl) (by kernel_rfl) (fun c a w h => h) (.inl ⟨rfl, fun w _ => by go_simp⟩) HW1 ?_
          simp only [List.setIfInBounds_toArray, List.set_cons_zero, List.set_cons_succ]
          refine takeH 15 83 (.bool (outE Y X.r)) rfl rfl (by kernel_rfl) (by kernel_rfl) (by kernel_rfl) (fun c a w h => h) (.inl ⟨rfl, fun w _ => by go_simp⟩) HW1 ?_
          simp only [List.setIfInBounds_toArray, List.set_cons_zero, List.set_cons_succ]
          refine takeH 16 9 (vo) rfl rfl (by kernel_rfl) (by kernel_rfl) (by kernel_rfl) (fun c a w h => h) (.inl ⟨rfl, fun w _ => rfl⟩) HW1 ?_
          simp only [List.setIfInBounds_toArray, List.set_cons_zero, List.set_cons_succ]
          refine takeH 17 10 (.bool (outE Y X.r)) rfl rfl (by kernel_rfl) (by kernel_rfl) (by kernel_rfl) (fun c a w h => h) (.inl ⟨rfl, fun w _ => rfl⟩) HW1 ?_
          simp only [List.setIfInBounds_toArray, List.set_cons_zero, List.set_cons_succ]
          refine wpAnyH_done (by kernel_rfl) ?_ _
          show K _ _
          refine hKK _ _ ?_
          have HN : Hid (Below wz.heap.size wz _) := HW1
          clear HW1
          generalize outE Y X.r = ok at *
          cases ok
          · go_wp2
            go_ret
            exact ⟨by rw [HW.out, form_done HY2.out (by rw [HBu.out]; rfl), HOut.out]; rfl, below_next HB.out HN.out⟩
          · go_wp2
            go_ret
            exact ⟨by rw [HW.out, form_done HY2.out (by rw [HBu.out]; rfl), HOut.out]; rfl, below_next HB.out HN.out⟩
        · have e2 : (X.y == 2) = false := by simp [y2]
          have HY2 : Hid (¬ (ev xs n).y = 2) := by show ¬ _; rw [HX.out]; exact y2
          clear y2
          unfold Tryd.f21
          dsimp only [sndC, Option.getD]
          go_wp2
          go_ret
          exact ⟨by rw [HW.out, form_else HY.out HY2.out (by rw [HBu.out]; rfl)]; rfl, HB.out⟩
    · have f1 : (Y.y == 1) = false := by simp [b1]
      rw [decide_eq_false b1] at HBu
      clear b1
      by_cases y1 : X.y = 1
      · have e1 : (X.y == 1) = true := by simp [y1]
        have HY : Hid ((ev xs n).y = 1) := by show _ = _; rw [HX.out]; exact y1
        clear y1
        by_cases b4 : Y.y = 4
        · have f4 : (Y.y == 4) = true := by simp [b4]
          rw [decide_eq_true b4] at HLo
          clear b4
          unfold Tryd.f21
          dsimp only [sndC, Option.getD]
          go_wp2
          go_ret
          exact ⟨by rw [HW.out, form_call HY.out, HBu.out, HLo.out]; rfl, HB.out⟩
        · have f4 : (Y.y == 4) = false := by simp [b4]
          rw [decide_eq_false b4] at HLo
          clear b4
          unfold Tryd.f21
          dsimp only [sndC, Option.getD]
          go_wp2
          go_ret
          exact ⟨by rw [HW.out, form_call HY.out, HBu.out, HLo.out]; rfl, HB.out⟩
      · have e1 : (X.y == 1) = false := by simp [y1]
        have HY : Hid (¬ (ev xs n).y = 1) := by show ¬ _; rw [HX.out]; exact y1
        clear y1
        by_cases b4 : Y.y = 4
        · have f4 : (Y.y == 4) = true := by simp [b4]
          clear b4
          unfold Tryd.f21
          dsimp only [sndC, Option.getD]
          go_wp2
          go_ret
          exact ⟨by rw [HW.out, form_free HY.out HBu.out]; rfl, HB.out⟩
        · have f4 : (Y.y == 4) = false := by simp [b4]
          clear b4
          unfold Tryd.f21
          dsimp only [sndC, Option.getD]
          go_wp2
          go_ret
          exact ⟨by rw [HW.out, form_free HY.out HBu.out]; rfl, HB.out⟩
set_option maxRecDepth 100000 in
set_option maxHeartbeats 16000000 in
theorem rwrong_any (v : Value) (ys : List YE) (n : Nat) (w : World) (hv : YSl w v ys) (hl : InL w ys) (hz : ∀ i, i < ys.length → SzE (ye ys i).1) (hn : n < ys.length) (hlen : ys.length ≤ 1000000000) :
    Calls Tryd.prog 21 #[v, .int .i64 (n : Int)] w fun e w' => e = .returned (.int .i64 (wrongE (ys.map (·.1)) n)) ∧ Below w.heap.size w w' := by
  have mixed : Tryd.prog.follows .mixedOrders = true := by kernel_rfl
  by_cases hbig : n < 4096
  case neg =>
    rw [wrong_many hbig]
    have hbig' : (4096 : Int) ≤ (n : Int) := by omega
    go_enter Tryd.func21, Tryd.ntmps21
    go_wp2
    go_ret
    exact ⟨rfl, Below.refl _ _⟩
  have hbig' : ¬ (4096 : Int) ≤ (n : Int) := by omega
  have hlast := fun w' (hb : Below w.heap.size w w') => rlast_any v ys n w' (hv.later hb) hn hlen
  obtain ⟨a, c, rfl, hc1, hc2, _⟩ := hv.form
  obtain ⟨b, o, rfl, hb1⟩ := hv.block (by omega)
  have HLast : Hid (∀ w', Below w.heap.size w w' → _) := hlast
  have HV : Hid (∀ k, k < ys.length → w.rangeAt b (o + k * 14) (encE (ye ys k))) := fun k hk => hv.at hk
  have HE : Hid (∀ k, ev (ys.map (·.1)) k = (ye ys k).1) := fun k => ev_ye ys k
  have hx0 := hv.at hn
  have hin := hl n hn
  have hzn := hz n hn
  have hen := ev_ye ys n
  have hL0 := lastB_lo (ys.map (·.1)) (ye ys n).1.c n
  clear hl hz hv hlast
  generalize ys.map (·.1) = xs at *
  generalize ys.length = q at *
  rcases hye : ye ys n with ⟨X, va, vr⟩
  rw [hye] at hx0 hin hzn hen HLast hL0
  have hnq : (n : Int) < (q : Int) := by omega
  have HX : Hid (w.rangeAt b (o + n * 14) (evC X va vr)) := hx0
  have H1 : Hid (VSl w va X.a) := hin.1
  have H2 : Hid (VSl w vr X.r) := hin.2
  have HZ : Hid (SzE X) := hzn
  have HEn : Hid (ev xs n = X) := hen
  have HL0 : Hid (lastB xs X.c n = -1 ∨ ∃ i : Nat, lastB xs X.c n = (i : Int) ∧ i < n ∧ eqv (ev xs i).c X.c = true) := hL0
  obtain ⟨av, cv, rfl⟩ : ∃ a c, va = .slice a X.a.length c := by obtain ⟨a, c, h, _⟩ := hin.1; exact ⟨a, c, h⟩
  obtain ⟨ar, cr, rfl⟩ : ∃ a c, vr = .slice a X.r.length c := by obtain ⟨a, c, h, _⟩ := hin.2; exact ⟨a, c, h⟩
  clear hye hx0 hin hzn hen hL0
  obtain ⟨w1, hw1⟩ : ∃ w1, w.alloc (.cells (evC X (.slice av X.a.length cv) (.slice ar X.r.length cr)).toArray 47) = w1 := ⟨_, rfl⟩
  have B1 := Blk.new w (evC X (.slice av X.a.length cv) (.slice ar X.r.length cr)) 47
  rw [hw1] at B1
  have b1 : Below w.heap.size w w1 := by rw [← hw1]; exact below_more (Below.refl _ _) _
  have ea := hw1
  simp only [evC] at ea
  obtain ⟨p, hpp⟩ : ∃ p, w.heap.size = p := ⟨_, rfl⟩
  have HP : Hid (w.heap.size = p) := hpp
  rw [hpp] at B1
  have HBk : Hid (Blk w1 p (evC X (.slice av X.a.length cv) (.slice ar X.r.length cr)) 47) := B1
  have HBel : Hid (Below w.heap.size w w1) := b1
  obtain ⟨a0, a1, a2, a3, a4, a5, a6, a7, a8, a9, a10, a11, a12, a13⟩ := ev_cells B1
  clear hw1 B1 b1
  have hR := rright_ev X _ _ w1 (H1.out.later HBel.out) (H2.out.later HBel.out) HZ.out
  have HR : Hid (Calls Tryd.prog 28 #[.agg (evC X (.slice av X.a.length cv) (.slice ar X.r.length cr)).toArray] w1 fun e w' => e = .returned (.bool (rightE X)) ∧ Below w1.heap.size w1 w') := hR
  clear hR
  have HRt : Hid (rightE (ev xs n) = rightE X) := by show _ = _; rw [HEn.out]
  generalize rightE X = rt at *
  go_enter Tryd.func21, Tryd.ntmps21
  go_wp2_with ((with_reducible refine wpList_load_mid ?_ 47 (.tmp 15) ?_ b (o + n * 14) ?_ (evC X (.slice av X.a.length cv) (.slice ar X.r.length cr)) _ HX.out Tryd.underlying47 ?_ ?_ ?_); (exact rfl); (exact rfl); (exact rfl); (exact rfl); (exact sizeE); (simp only [evC]))
  go_wp2_with fail
  refine HR.out.mono ?_
  rintro e w2 ⟨rfl, b2⟩
  have HB2 : Hid (Below w.heap.size w w2) := below_next HBel.out b2
  have HBk2 : Hid (Blk w2 p (evC X (.slice av X.a.length cv) (.slice ar X.r.length cr)) 47) := HBk.out.later b2
  clear a0 a1 a2 a3 a4 a5 a6 a7 a8 a9 a10 a11 a12 a13 b2 ea
  cases rt
  · go_wp2
    go_ret
    exact ⟨by rw [wrong_syntax hbig HRt.out]; rfl, HB2.out⟩
  have HV2 := HV.out
  have hcl := HBk2.out.cell 0 _ rfl
  by_cases h0 : n = 0
  · have hdec : decide (0 < n) = false := by simp [h0]
    have hpos : ¬ (0 : Int) < (n : Int) := by omega
    have HW : Hid (wrongE xs n = formE xs n) := wrong_form hbig HRt.out (fun h => by omega)
    clear h0
    go_wp2_with fail
    refine wp_region_quiet_below mixed (by kernel_rfl) ?_
    repeat (go_big_quiet_step (fail))
    refine wpQuiet_nil ?_
    intro _ hw'
    obtain ⟨⟨dq, osq⟩, hw''⟩ := hw'
    have HN : Hid (Below w2.heap.size w2 _) := hw'' ▸ below_regrown w2 dq osq
    clear hw'' hcl
    go_wp2_with fail
    rename_i K8 hK8 K9 hK9
    have HK8 : Hid (∀ (a : Act) (w : World), _ → K8 a w) := hK8
    clear hK8
    refine (HLast.out _ (below_next HB2.out HN.out)).mono ?_
    rintro e w4 ⟨rfl, b4⟩
    have HB4 : Hid (Below w2.heap.size w2 w4) := below_next HN.out b4
    clear b4
    go_wp2_with fail
    refine HK8.out _ _ ?_
    exact wrong_tail ys xs X w w2 w4 av ar b o q c n p cv cr (lastB xs X.c n) _ _ _ _ _ _ _ _ _ _ _ _ _ _ _ _ _ _ _ _ _ _ _ _ _ _ _ _ _ _ _ _ _ _ _ _ _ _ _ _ _ _ _ _ _ _ _ _ _ _ _ _ _ _ _ _ _ _ _ _ _ _ _ _ _ _ _ _ _ _ _ _ _ _ _ _ _ _ _ _ _ hb1 hn hlen hc1 hc2 HV.out HE.out H2.out HZ.out HEn.out rfl HB2.out HBk2.out HB4.out HW.out
  · have hpos : (0 : Int) < (n : Int) := by omega
    have hdec : decide (0 < n) = true := by simp; omega
    obtain ⟨r, hr⟩ : ∃ r : Nat, (n : Int) - 1 = (r : Int) := ⟨n - 1, by omega⟩
    have hrn : n - 1 = r := by omega
    have hrq : r < q := by omega
    have hrq' : (r : Int) < (q : Int) := by omega
    have hr0 : (0 : Int) ≤ (r : Int) := by omega
    have HEr := HE.out r
    have HRr := HV.out r hrq
    rcases hyr : ye ys r with ⟨Y, ya, yr⟩
    rw [hyr] at HEr HRr
    have c0 := fun d os => cell_regrown (row_cells HRr hb1 HB2.out).1 d os
    replace hcl := fun d os => cell_regrown hcl d os
    have HYr : Hid (ev xs (n - 1) = Y) := by show _ = _; rw [hrn]; exact HEr
    clear HRr HEr hyr hrn
    by_cases ht : X.t < Y.t
    · have HW : Hid (wrongE xs n = 4) := wrong_time hbig HRt.out (by omega) (by rw [HYr.out, HEn.out]; exact ht)
      go_wp2_with fail
      refine wp_region_quiet_below mixed (by kernel_rfl) ?_
      repeat (go_big_quiet_step (fail))
      refine wpQuiet_nil ?_
      intro _ hw'
      obtain ⟨⟨dq, osq⟩, hw''⟩ := hw'
      have HN : Hid (Below w2.heap.size w2 _) := hw'' ▸ below_regrown w2 dq osq
      clear hw'' hcl c0
      go_wp2
      go_ret
      exact ⟨by rw [HW.out]; rfl, below_next HB2.out HN.out⟩
    · have HW : Hid (wrongE xs n = formE xs n) := wrong_form hbig HRt.out (fun h => by rw [HYr.out, HEn.out] at h; exact ht h.2)
      go_wp2_with fail
      refine wp_region_quiet_below mixed (by kernel_rfl) ?_
      repeat (go_big_quiet_step (fail))
      refine wpQuiet_nil ?_
      intro _ hw'
      obtain ⟨⟨dq, osq⟩, hw''⟩ := hw'
      have HN : Hid (Below w2.heap.size w2 _) := hw'' ▸ below_regrown w2 dq osq
      clear hw'' hcl c0 hr hdec
      go_wp2_with fail
      rename_i K8 hK8 K9 hK9
      have HK8 : Hid (∀ (a : Act) (w : World), _ → K8 a w) := hK8
      clear hK8
      refine (HLast.out _ (below_next HB2.out HN.out)).mono ?_
      rintro e w4 ⟨rfl, b4⟩
      have HB4 : Hid (Below w2.heap.size w2 w4) := below_next HN.out b4
      clear b4
      go_wp2_with fail
      refine HK8.out _ _ ?_
      exact wrong_tail ys xs X w w2 w4 av ar b o q c n p cv cr (lastB xs X.c n) _ _ _ _ _ _ _ _ _ _ _ _ _ _ _ _ _ _ _ _ _ _ _ _ _ _ _ _ _ _ _ _ _ _ _ _ _ _ _ _ _ _ _ _ _ _ _ _ _ _ _ _ _ _ _ _ _ _ _ _ _ _ _ _ _ _ _ _ _ _ _ _ _ _ _ _ _ _ _ _ _ hb1 hn hlen hc1 hc2 HV.out HE.out H2.out HZ.out HEn.out rfl HB2.out HBk2.out HB4.out HW.out
end Go.Proofs.YtgdegbmakbfaaaaDoor
