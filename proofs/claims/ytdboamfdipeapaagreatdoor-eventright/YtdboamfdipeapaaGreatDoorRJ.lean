/- The walk of EventRight. Conditions: the tables and the event's lists lie in memory; the event's numbers are of 64 bits, its texts at most 2^47 bytes, its lists at most 2^47 values. -/
import Derived.Test.YtdboamfdipeapaaGreatDoorRI
import Derived.Test.YtdboamfdipeapaaGreatDoorRG
namespace Go.Proofs.YtdboamfdipeapaaGreatDoor
open Go.RowKit Go.PlainAid Ln
set_option linter.unusedVariables false
set_option linter.unusedSimpArgs false

theorem SmE.len {x : Ev} (h : SmE x) : x.r.length ≤ 900000 := by have := h.2.2.2.2.1; omega
set_option maxRecDepth 100000 in
set_option maxHeartbeats 8000000 in
theorem law_right_ev (x : Ev) (va vr : Value) (w : World) (ht : Tbs w) (hp : Pt w) (h1 : VSl w va x.a) (h2 : VSl w vr x.r) (hl : LgE x) (hb : bdE x) :
    Calls Tryz.prog 3 #[.agg (evC x va vr).toArray] w fun e w' => e = .returned (.bool true) ∧ Below w.heap.size w w' := by
  have mixed : Tryz.prog.follows .mixedOrders = true := by kernel_rfl
  obtain ⟨w1, hw1⟩ : ∃ w1, w.alloc (.cells (evC x va vr).toArray 26) = w1 := ⟨_, rfl⟩
  have B1 := Blk.new w (evC x va vr) 26
  rw [hw1] at B1
  have b1 : Below w.heap.size w w1 := by rw [← hw1]; exact below_more (Below.refl _ _) _
  have ea := hw1
  simp only [evC] at ea
  obtain ⟨p, hpp⟩ : ∃ p, w.heap.size = p := ⟨_, rfl⟩
  have Hpp : Hid (w.heap.size = p) := hpp
  rw [hpp] at B1
  have HB1 : Hid (Blk w1 p (evC x va vr) 26) := B1
  have Hb1 : Hid (Below w.heap.size w w1) := b1
  have HT : Hid (Tbs w) := ht
  have HP : Hid (Pt w) := hp
  have H1 : Hid (VSl w va x.a) := h1
  have H2 : Hid (VSl w vr x.r) := h2
  have HL : Hid (LgE x) := hl
  have Hbd : Hid (bdE x) := hb
  clear hw1 B1 b1 ht hp h1 h2 hl hb
  simp only [evC]
  go_enter Tryz.func3, Tryz.ntmps3
  go_wp2_with fail
  refine (wakes_ev _ (HT.out.later Hb1.out)).mono ?_
  rintro e w2 ⟨rfl, b2⟩
  have HW2 : Hid (SPq p x va vr w1 w2) := ⟨HB1.out.later b2, b2⟩
  clear b2 ea hpp
  go_wp2_with fail
  rename_i K hKK
  have BRd := HW2.out.drew
  refine wp_region_held (S := SPq p x va vr w1) mixed ?_
  generalize ({ w2 with drawn := w2.drawn + 1 } : World) = n0 at BRd ⊢
  have HW := BRd
  clear BRd
  refine takeH 0 5 (.agg (evC x va vr).toArray) rfl rfl (by kernel_rfl) (by kernel_rfl) (by kernel_rfl) (fun c a w h => h) (yieldsIf_load_mid rfl 26 (.tmp 1) rfl p 0 rfl (evC x va vr) _ (fun wx hx => hx.1.all) Tryz.underlying26 rfl sizeE) HW ?_
  simp only [List.setIfInBounds_toArray, List.set_cons_zero, List.set_cons_succ]
  refine wpAnyH_all (rs := [1]) (by kernel_rfl) (by simp) (fun i hi => ?_)
  obtain rfl : i = 1 := by simpa using hi
  refine wpOp_doG 1 (by rfl) (by rfl) ?_
  go_wp2_with fail
  refine (rgreat_ev x va vr n0 (H1.out.later (below_next Hb1.out HW.2)) (H2.out.later (below_next Hb1.out HW.2)) HL.out).mono ?_
  rintro e n1 ⟨b, rfl, hsm, hb⟩
  refine ⟨HW.later hb, ?_⟩
  replace HW := HW.later hb
  clear hb
  cases b
  · have HS : Hid (SmE x) := hsm rfl
    clear hsm
    have k1 := fun w' (hb : Below w.heap.size w w') => eright_any x va vr w' (HT.out.later hb).1 (H1.out.later hb) (H2.out.later hb) HS.out.sz
    have k2 := fun w' (hb : Below w.heap.size w w') => rright_ev x va vr w' (H1.out.later hb) (H2.out.later hb) HS.out.sz
    have k3 := fun w' (hb : Below w.heap.size w w') => eprint_any x va vr w' (HT.out.later hb) (HP.out.later hb) (H1.out.later hb) (H2.out.later hb) HS.out.sz Hbd.out HS.out.len
    have k4 := fun w' (hb : Below w.heap.size w w') => rprint_ev x va vr w' (H1.out.later hb) (H2.out.later hb) HS.out.sz Hbd.out HS.out.len
    obtain ⟨s, hs⟩ : ∃ s, (if rightE x = true then bs (lineE x) else (⟨#[]⟩ : ByteArray)) = s := ⟨_, rfl⟩
    rw [hs] at k3 k4
    clear hs
    generalize rightE x = r at *
    have HC1 : Hid (∀ w', Below w.heap.size w w' → _) := k1
    have HC2 : Hid (∀ w', Below w.heap.size w w' → _) := k2
    have HC3 : Hid (∀ w', Below w.heap.size w w' → _) := k3
    have HC4 : Hid (∀ w', Below w.heap.size w w' → _) := k4
    clear k1 k2 k3 k4
    have hrr : (r == r) = true := by simp
    have hss : (s.toList == s.toList) = true := by simp
    refine takeH 2 7 (.bool false) rfl rfl (by kernel_rfl) (by kernel_rfl) (by kernel_rfl) (fun c a w h => h) (.inl ⟨rfl, fun w _ => by go_simp⟩) HW ?_
    simp only [List.setIfInBounds_toArray, List.set_cons_zero, List.set_cons_succ]
    refine takeH 3 8 (.agg (evC x va vr).toArray) rfl rfl (by kernel_rfl) (by kernel_rfl) (by kernel_rfl) (fun c a w h => h) (yieldsIf_load_mid rfl 26 (.tmp 1) rfl p 0 rfl (evC x va vr) _ (fun wx hx => hx.1.all) Tryz.underlying26 rfl sizeE) HW ?_
    simp only [List.setIfInBounds_toArray, List.set_cons_zero, List.set_cons_succ]
    refine takeH 5 10 (.agg (evC x va vr).toArray) rfl rfl (by kernel_rfl) (by kernel_rfl) (by kernel_rfl) (fun c a w h => h) (yieldsIf_load_mid rfl 26 (.tmp 1) rfl p 0 rfl (evC x va vr) _ (fun wx hx => hx.1.all) Tryz.underlying26 rfl sizeE) HW ?_
    simp only [List.setIfInBounds_toArray, List.set_cons_zero, List.set_cons_succ]
    refine wpAnyH_all (rs := [4]) (by kernel_rfl) (by simp) (fun i hi => ?_)
    obtain rfl : i = 4 := by simpa using hi
    refine wpOp_doG 4 (by rfl) (by rfl) ?_
    go_wp2_with fail
    refine (HC1.out n1 (below_next Hb1.out HW.2)).mono ?_
    rintro e n2_1 ⟨rfl, hb⟩
    refine ⟨HW.later hb, ?_⟩
    replace HW := HW.later hb
    clear hb
    refine wpAnyH_all (rs := [6]) (by kernel_rfl) (by simp) (fun i hi => ?_)
    obtain rfl : i = 6 := by simpa using hi
    refine wpOp_doG 6 (by rfl) (by rfl) ?_
    go_wp2_with fail
    refine (HC2.out n2_1 (below_next Hb1.out HW.2)).mono ?_
    rintro e n2_2 ⟨rfl, hb⟩
    refine ⟨HW.later hb, ?_⟩
    replace HW := HW.later hb
    clear hb
    refine takeH 7 12 (.bool true) rfl rfl (by kernel_rfl) (by kernel_rfl) (by kernel_rfl) (fun c a w h => h) (.inl ⟨rfl, fun w _ => by go_simp⟩) HW ?_
    simp only [List.setIfInBounds_toArray, List.set_cons_zero, List.set_cons_succ]
    refine takeH 8 13 (.bool true) rfl rfl (by kernel_rfl) (by kernel_rfl) (by kernel_rfl) (fun c a w h => h) (.inl ⟨rfl, fun w _ => rfl⟩) HW ?_
    simp only [List.setIfInBounds_toArray, List.set_cons_zero, List.set_cons_succ]
    refine takeH 9 14 (.agg (evC x va vr).toArray) rfl rfl (by kernel_rfl) (by kernel_rfl) (by kernel_rfl) (fun c a w h => h) (yieldsIf_load_mid rfl 26 (.tmp 1) rfl p 0 rfl (evC x va vr) _ (fun wx hx => hx.1.all) Tryz.underlying26 rfl sizeE) HW ?_
    simp only [List.setIfInBounds_toArray, List.set_cons_zero, List.set_cons_succ]
    refine takeH 11 16 (.agg (evC x va vr).toArray) rfl rfl (by kernel_rfl) (by kernel_rfl) (by kernel_rfl) (fun c a w h => h) (yieldsIf_load_mid rfl 26 (.tmp 1) rfl p 0 rfl (evC x va vr) _ (fun wx hx => hx.1.all) Tryz.underlying26 rfl sizeE) HW ?_
    simp only [List.setIfInBounds_toArray, List.set_cons_zero, List.set_cons_succ]
    refine wpAnyH_all (rs := [10]) (by kernel_rfl) (by simp) (fun i hi => ?_)
    obtain rfl : i = 10 := by simpa using hi
    refine wpOp_doG 10 (by rfl) (by rfl) ?_
    go_wp2_with fail
    refine (HC3.out n2_2 (below_next Hb1.out HW.2)).mono ?_
    rintro e n2_3 ⟨rfl, hb⟩
    refine ⟨HW.later hb, ?_⟩
    replace HW := HW.later hb
    clear hb
    refine wpAnyH_all (rs := [12]) (by kernel_rfl) (by simp) (fun i hi => ?_)
    obtain rfl : i = 12 := by simpa using hi
    refine wpOp_doG 12 (by rfl) (by rfl) ?_
    go_wp2_with fail
    refine (HC4.out n2_3 (below_next Hb1.out HW.2)).mono ?_
    rintro e n2_4 ⟨rfl, hb⟩
    refine ⟨HW.later hb, ?_⟩
    replace HW := HW.later hb
    clear hb
    refine takeH 13 18 (.bool true) rfl rfl (by kernel_rfl) (by kernel_rfl) (by kernel_rfl) (fun c a w h => h) (.inl ⟨rfl, fun w _ => by go_simp⟩) HW ?_
    simp only [List.setIfInBounds_toArray, List.set_cons_zero, List.set_cons_succ]
    refine takeH 14 19 (.bool true) rfl rfl (by kernel_rfl) (by kernel_rfl) (by kernel_rfl) (fun c a w h => h) (.inl ⟨rfl, fun w _ => by go_simp⟩) HW ?_
    simp only [List.setIfInBounds_toArray, List.set_cons_zero, List.set_cons_succ]
    refine takeH 15 20 (.bool true) rfl rfl (by kernel_rfl) (by kernel_rfl) (by kernel_rfl) (fun c a w h => h) (.inl ⟨rfl, fun w _ => by go_simp⟩) HW ?_
    simp only [List.setIfInBounds_toArray, List.set_cons_zero, List.set_cons_succ]
    refine takeH 16 2 (.bool true) rfl rfl (by kernel_rfl) (by kernel_rfl) (by kernel_rfl) (fun c a w h => h) (.inl ⟨rfl, fun w _ => rfl⟩) HW ?_
    simp only [List.setIfInBounds_toArray, List.set_cons_zero, List.set_cons_succ]
    refine wpAnyH_done (by kernel_rfl) ?_ _
    show K _ _
    apply hKK
    clear hKK
    go_wp2_with fail
    go_ret
    exact ⟨rfl, below_next Hb1.out HW.2⟩
  · clear hsm
    refine takeH 2 7 (.bool true) rfl rfl (by kernel_rfl) (by kernel_rfl) (by kernel_rfl) (fun c a w h => h) (.inl ⟨rfl, fun w _ => by go_simp⟩) HW ?_
    simp only [List.setIfInBounds_toArray, List.set_cons_zero, List.set_cons_succ]
    refine takeH 3 8 (undef) rfl rfl (by kernel_rfl) (by kernel_rfl) (by kernel_rfl) (fun c a w h => h) (.inr ⟨rfl, rfl⟩) HW ?_
    simp only [List.setIfInBounds_toArray, List.set_cons_zero, List.set_cons_succ]
    refine takeH 4 9 (undef) rfl rfl (by kernel_rfl) (by kernel_rfl) (by kernel_rfl) (fun c a w h => h) (.inr ⟨rfl, rfl⟩) HW ?_
    simp only [List.setIfInBounds_toArray, List.set_cons_zero, List.set_cons_succ]
    refine takeH 5 10 (undef) rfl rfl (by kernel_rfl) (by kernel_rfl) (by kernel_rfl) (fun c a w h => h) (.inr ⟨rfl, rfl⟩) HW ?_
    simp only [List.setIfInBounds_toArray, List.set_cons_zero, List.set_cons_succ]
    refine takeH 6 11 (undef) rfl rfl (by kernel_rfl) (by kernel_rfl) (by kernel_rfl) (fun c a w h => h) (.inr ⟨rfl, rfl⟩) HW ?_
    simp only [List.setIfInBounds_toArray, List.set_cons_zero, List.set_cons_succ]
    refine takeH 7 12 (undef) rfl rfl (by kernel_rfl) (by kernel_rfl) (by kernel_rfl) (fun c a w h => h) (.inr ⟨rfl, rfl⟩) HW ?_
    simp only [List.setIfInBounds_toArray, List.set_cons_zero, List.set_cons_succ]
    refine takeH 8 13 (undef) rfl rfl (by kernel_rfl) (by kernel_rfl) (by kernel_rfl) (fun c a w h => h) (.inr ⟨rfl, rfl⟩) HW ?_
    simp only [List.setIfInBounds_toArray, List.set_cons_zero, List.set_cons_succ]
    refine takeH 9 14 (undef) rfl rfl (by kernel_rfl) (by kernel_rfl) (by kernel_rfl) (fun c a w h => h) (.inr ⟨rfl, rfl⟩) HW ?_
    simp only [List.setIfInBounds_toArray, List.set_cons_zero, List.set_cons_succ]
    refine takeH 10 15 (undef) rfl rfl (by kernel_rfl) (by kernel_rfl) (by kernel_rfl) (fun c a w h => h) (.inr ⟨rfl, rfl⟩) HW ?_
    simp only [List.setIfInBounds_toArray, List.set_cons_zero, List.set_cons_succ]
    refine takeH 11 16 (undef) rfl rfl (by kernel_rfl) (by kernel_rfl) (by kernel_rfl) (fun c a w h => h) (.inr ⟨rfl, rfl⟩) HW ?_
    simp only [List.setIfInBounds_toArray, List.set_cons_zero, List.set_cons_succ]
    refine takeH 12 17 (undef) rfl rfl (by kernel_rfl) (by kernel_rfl) (by kernel_rfl) (fun c a w h => h) (.inr ⟨rfl, rfl⟩) HW ?_
    simp only [List.setIfInBounds_toArray, List.set_cons_zero, List.set_cons_succ]
    refine takeH 13 18 (undef) rfl rfl (by kernel_rfl) (by kernel_rfl) (by kernel_rfl) (fun c a w h => h) (.inr ⟨rfl, rfl⟩) HW ?_
    simp only [List.setIfInBounds_toArray, List.set_cons_zero, List.set_cons_succ]
    refine takeH 14 19 (undef) rfl rfl (by kernel_rfl) (by kernel_rfl) (by kernel_rfl) (fun c a w h => h) (.inr ⟨rfl, rfl⟩) HW ?_
    simp only [List.setIfInBounds_toArray, List.set_cons_zero, List.set_cons_succ]
    refine takeH 15 20 (.bool true) rfl rfl (by kernel_rfl) (by kernel_rfl) (by kernel_rfl) (fun c a w h => h) (.inl ⟨rfl, fun w _ => by go_simp⟩) HW ?_
    simp only [List.setIfInBounds_toArray, List.set_cons_zero, List.set_cons_succ]
    refine takeH 16 2 (.bool true) rfl rfl (by kernel_rfl) (by kernel_rfl) (by kernel_rfl) (fun c a w h => h) (.inl ⟨rfl, fun w _ => rfl⟩) HW ?_
    simp only [List.setIfInBounds_toArray, List.set_cons_zero, List.set_cons_succ]
    refine wpAnyH_done (by kernel_rfl) ?_ _
    show K _ _
    apply hKK
    clear hKK
    go_wp2_with fail
    go_ret
    exact ⟨rfl, below_next Hb1.out HW.2⟩
end Go.Proofs.YtdboamfdipeapaaGreatDoor
