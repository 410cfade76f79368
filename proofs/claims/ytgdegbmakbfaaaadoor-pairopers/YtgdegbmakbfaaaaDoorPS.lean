/- The contracts of the document's One and Same at operations that are one. Conditions: their lists lie in memory, at most a million values each. -/
import Derived.Test.YtgdegbmakbfaaaaDoorPR
import Derived.Test.YtgdegbmakbfaaaaDoorEK
namespace Go.Proofs.YtgdegbmakbfaaaaDoor
open Go.RowKit Go.PlainAid Ln
set_option linter.unusedVariables false
set_option linter.unusedSimpArgs false

theorem op_cells {wz : World} {q : Nat} {x : Opn} {fa fr : Value} (h : Blk wz q (opC x fa fr) 41) : wz.cell? ⟨q, 0, none⟩ = some (.int .i64 x.c.1) ∧ wz.cell? ⟨q, 1, none⟩ = some (.int .i64 x.c.2.1) ∧ wz.cell? ⟨q, 2, none⟩ = some (.string x.c.2.2) ∧ wz.cell? ⟨q, 3, none⟩ = some (.int .i64 x.m) ∧ wz.cell? ⟨q, 4, none⟩ = some (.int .i64 x.k.1) ∧ wz.cell? ⟨q, 5, none⟩ = some (.int .i64 x.k.2.1) ∧ wz.cell? ⟨q, 6, none⟩ = some (.string x.k.2.2) ∧ wz.cell? ⟨q, 7, none⟩ = some (.int .i64 x.o) ∧ wz.cell? ⟨q, 8, none⟩ = some fa ∧ wz.cell? ⟨q, 9, none⟩ = some fr ∧ wz.cell? ⟨q, 10, none⟩ = some (.int .i64 x.call) ∧ wz.cell? ⟨q, 11, none⟩ = some (.int .i64 x.ret) :=
  ⟨h.cell 0 _ rfl, h.cell 1 _ rfl, h.cell 2 _ rfl, h.cell 3 _ rfl, h.cell 4 _ rfl, h.cell 5 _ rfl, h.cell 6 _ rfl, h.cell 7 _ rfl, h.cell 8 _ rfl, h.cell 9 _ rfl, h.cell 10 _ rfl, h.cell 11 _ rfl⟩
set_option maxRecDepth 100000 in
set_option maxHeartbeats 8000000 in
theorem rone_any (x : Opn) (va vr ua ur : Value) (w : World) (h1 : VSl w va x.a) (h2 : VSl w vr x.r) (h3 : VSl w ua x.a) (h4 : VSl w ur x.r) (ha : x.a.length ≤ 1000000) (hr : x.r.length ≤ 1000000) :
    Calls Tryd.prog 15 #[.agg (opC x va vr).toArray, .agg (opC x ua ur).toArray] w fun e w' => e = .returned (.bool true) ∧ Below w.heap.size w w' := by
  obtain ⟨⟨c1, c2, c3⟩, m, ⟨k1, k2, k3⟩, o, la, lr, ca, re⟩ := x
  simp only at h1 h2 h3 h4 ha hr
  obtain ⟨w1, hw1⟩ : ∃ w1, w.alloc (.cells (opC ⟨(c1, c2, c3), m, (k1, k2, k3), o, la, lr, ca, re⟩ va vr).toArray 41) = w1 := ⟨_, rfl⟩
  obtain ⟨w2, hw2⟩ : ∃ w2, w1.alloc (.cells (opC ⟨(c1, c2, c3), m, (k1, k2, k3), o, la, lr, ca, re⟩ ua ur).toArray 41) = w2 := ⟨_, rfl⟩
  have B1 := Blk.new w (opC ⟨(c1, c2, c3), m, (k1, k2, k3), o, la, lr, ca, re⟩ va vr) 41
  have B2 := Blk.new w1 (opC ⟨(c1, c2, c3), m, (k1, k2, k3), o, la, lr, ca, re⟩ ua ur) 41
  rw [hw1] at B1
  have B3 : Blk w2 w.heap.size (opC ⟨(c1, c2, c3), m, (k1, k2, k3), o, la, lr, ca, re⟩ va vr) 41 := by rw [← hw2]; exact B1.alloc _
  rw [hw2] at B2
  have b1 : Below w.heap.size w w1 := by rw [← hw1]; exact below_more (Below.refl _ _) _
  have b2 : Below w.heap.size w w2 := by rw [← hw2]; exact below_more b1 _
  obtain ⟨p, hp⟩ : ∃ p, w.heap.size = p := ⟨_, rfl⟩
  have HP : Hid (w.heap.size = p) := hp
  have H1 : Hid (VSl w va la) := h1
  have H2 : Hid (VSl w vr lr) := h2
  have H3 : Hid (VSl w ua la) := h3
  have H4 : Hid (VSl w ur lr) := h4
  have HB2 : Hid (Below w.heap.size w w2) := b2
  rw [hp] at B3
  have he1 : ∀ w, (binOp .eql 38 (.agg #[.int .i64 c1, .int .i64 c2, .string c3]) (.agg #[.int .i64 c1, .int .i64 c2, .string c3])).run Tryd.prog w = .ok (.bool true) w := fun w => by rw [eqV, eqvB_self]
  have he2 : ∀ w, (binOp .eql 38 (.agg #[.int .i64 k1, .int .i64 k2, .string k3]) (.agg #[.int .i64 k1, .int .i64 k2, .string k3])).run Tryd.prog w = .ok (.bool true) w := fun w => by rw [eqV, eqvB_self]
  have hg := eqgV
  have ea : w.alloc (.cells #[.int .i64 c1, .int .i64 c2, .string c3, .int .i64 m, .int .i64 k1, .int .i64 k2, .string k3, .int .i64 o, va, vr, .int .i64 ca, .int .i64 re] 41) = w1 := hw1
  have eb : w1.alloc (.cells #[.int .i64 c1, .int .i64 c2, .string c3, .int .i64 m, .int .i64 k1, .int .i64 k2, .string k3, .int .i64 o, ua, ur, .int .i64 ca, .int .i64 re] 41) = w2 := hw2
  obtain ⟨a0, a1, a2, a3, a4, a5, a6, a7, a8, a9, a10, a11⟩ := op_cells B3
  obtain ⟨d0, d1, d2, d3, d4, d5, d6, d7, d8, d9, d10, d11⟩ := op_cells B2
  dsimp only at a0 a1 a2 a3 a4 a5 a6 a7 a8 a9 a10 a11 d0 d1 d2 d3 d4 d5 d6 d7 d8 d9 d10 d11
  clear h1 h2 h3 h4 B1 hw1 hw2 b1 b2
  simp only [opC]
  go_enter Tryd.func15, Tryd.ntmps15
  go_wp2_with fail
  refine (same_any _ _ la la _ (H1.out.later HB2.out) (H3.out.later HB2.out) ha).mono ?_
  rintro e w3 ⟨rfl, b3⟩
  rw [sameL_self]
  obtain ⟨a0, a1, a2, a3, a4, a5, a6, a7, a8, a9, a10, a11⟩ := op_cells (B3.later b3)
  obtain ⟨d0, d1, d2, d3, d4, d5, d6, d7, d8, d9, d10, d11⟩ := op_cells (B2.later b3)
  dsimp only at a0 a1 a2 a3 a4 a5 a6 a7 a8 a9 a10 a11 d0 d1 d2 d3 d4 d5 d6 d7 d8 d9 d10 d11
  have b4 := below_next HB2.out b3
  go_wp2_with fail
  refine (same_any _ _ lr lr _ (H2.out.later b4) (H4.out.later b4) hr).mono ?_
  rintro e w4 ⟨rfl, b5⟩
  rw [sameL_self]
  obtain ⟨a0, a1, a2, a3, a4, a5, a6, a7, a8, a9, a10, a11⟩ := op_cells ((B3.later b3).later b5)
  obtain ⟨d0, d1, d2, d3, d4, d5, d6, d7, d8, d9, d10, d11⟩ := op_cells ((B2.later b3).later b5)
  dsimp only at a0 a1 a2 a3 a4 a5 a6 a7 a8 a9 a10 a11 d0 d1 d2 d3 d4 d5 d6 d7 d8 d9 d10 d11
  have b6 := below_next b4 b5
  have HB6 : Hid (Below w.heap.size w w4) := b6
  clear b3 b4 b5 b6 B2 B3
  go_wp2_with fail
  go_ret
  exact ⟨rfl, HB6.out⟩
theorem sizeOs : (Tryd.prog.info? 41).map (·.size) = some 12 := by kernel_rfl
theorem fst_yo {ys : List YO} {xs : List Opn} (h : ys.map (·.1) = xs) {k : Nat} (hk : k < ys.length) : xs[k]? = some (yo ys k).1 := by rw [← h]; exact map_yo ys k hk
theorem fst_twoO {ys zs : List YO} {xs : List Opn} (h : ys.map (·.1) = xs) (h2 : zs.map (·.1) = xs) {k : Nat} (hk : k < ys.length) (hk2 : k < zs.length) : (yo ys k).1 = (yo zs k).1 :=
  Option.some.inj ((fst_yo h hk).symm.trans (fst_yo h2 hk2))
/-- lists of at most a million values -/
def MlO (x : Opn) : Prop := x.a.length ≤ 1000000 ∧ x.r.length ≤ 1000000
set_option maxRecDepth 100000 in
set_option maxHeartbeats 8000000 in
theorem rsame_o (v u : Value) (xs : List Opn) (w : World) (hv : OpSl w v xs) (hu : OpSl w u xs) (hm : ∀ x ∈ xs, MlO x) (hn : xs.length ≤ 1000000000000) :
    Calls Tryd.prog 13 #[v, u] w fun e w' => e = .returned (.bool true) ∧ Below w.heap.size w w' := by
  have mixed : Tryd.prog.follows .mixedOrders = true := by kernel_rfl
  obtain ⟨ys, y1, y2, y3⟩ := hv
  obtain ⟨zs, z1, z2, z3⟩ := hu
  have ly : ys.length = xs.length := by rw [← y1, List.length_map]
  have lz : zs.length = xs.length := by rw [← z1, List.length_map]
  obtain ⟨a, c, rfl, _, _, _⟩ := y2.form
  obtain ⟨a', c', rfl, _, _, _⟩ := z2.form
  have HY2 : Hid (OSl w (.slice a ys.length c) ys) := y2
  have HZ2 : Hid (OSl w (.slice a' zs.length c') zs) := z2
  rw [ly] at HY2 ⊢
  rw [lz] at HZ2 ⊢
  have HY3 : Hid (InO w ys) := y3
  have HZ3 : Hid (InO w zs) := z3
  have HLy : Hid (ys.length = xs.length) := ly
  have HLz : Hid (zs.length = xs.length) := lz
  have H2 : Hid (∀ k, k < ys.length → k < zs.length → (yo ys k).1 = (yo zs k).1) := fun k h1 h2 => fst_twoO y1 z1 h1 h2
  have HM : Hid (∀ k, k < ys.length → MlO (yo ys k).1) := fun k hk => hm _ (List.mem_of_getElem? (fst_yo y1 hk))
  clear y2 z2 y3 z3 ly lz y1 z1 hm
  generalize xs.length = n at *
  go_enter Tryd.func13, Tryd.ntmps13
  go_wp2
  go_loopw [5] (fun i wr => ∃ k : Nat, k ≤ n ∧ i = .int .i64 (k : Int) ∧ Below w.heap.size w wr) (fun i wr => n - (intOf i).toNat)
  case atStart => exact ⟨0, Nat.zero_le _, rfl, Below.refl _ _⟩
  case round =>
    obtain ⟨k, hk, rfl, hb⟩ := hrel
    have HB : Hid (Below w.heap.size w wr) := hb
    clear hb
    by_cases hlt : k < n
    · have hlt' : (k : Int) < (n : Int) := by omega
      have hly : k < ys.length := by rw [HLy.out]; exact hlt
      have hlz : k < zs.length := by rw [HLz.out]; exact hlt
      obtain ⟨b, o, rfl, hb1⟩ := HY2.out.block (by omega)
      obtain ⟨b', o', rfl, hb2⟩ := HZ2.out.block (by omega)
      have ry := HY2.out.at hly
      have rz := HZ2.out.at hlz
      have ey := H2.out k hly hlz
      have qy := HY3.out k hly
      have qz := HZ3.out k hlz
      have qm := HM.out k hly
      rw [← ey] at qz
      rcases hyo : yo ys k with ⟨X, va, vr⟩
      rcases hze : yo zs k with ⟨X', ua, ur⟩
      rw [hyo, hze] at ey
      obtain rfl : X = X' := ey
      rw [hyo] at ry qy qm qz
      rw [hze] at rz qz
      have RY : Hid (w.rangeAt b (o + k * 12) (opC X va vr)) := ry
      have RZ : Hid (w.rangeAt b' (o' + k * 12) (opC X ua ur)) := rz
      have hS := fun w' (hb : Below w.heap.size w w') => rone_any X va vr ua ur w' (qy.1.later hb) (qy.2.later hb) (qz.1.later hb) (qz.2.later hb) qm.1 qm.2
      have HS : Hid (∀ w', Below w.heap.size w w' → _) := hS
      have HBk : Hid (b < w.heap.size ∧ b' < w.heap.size) := ⟨hb1, hb2⟩
      clear ry rz qy qz qm hyo hze hS hb1 hb2
      go_wp2_with fail
      rename_i K hKK
      have HW0 : Below w.heap.size w { wr with drawn := wr.drawn + 1 } := ⟨HB.out.os, HB.out.tape, HB.out.output, HB.out.size, HB.out.block⟩
      refine wp_region_held (S := fun wx => Below w.heap.size w wx) mixed ?_
      generalize ({ wr with drawn := wr.drawn + 1 } : World) = n0 at HW0 ⊢
      have HW := HW0
      clear HW0
      refine takeH 0 17 (.slice (some ⟨b, o, none⟩) n c) rfl rfl (by kernel_rfl) (by kernel_rfl) (by kernel_rfl) (fun c a w h => h) (.inl ⟨rfl, fun w _ => rfl⟩) HW ?_
      simp only [List.setIfInBounds_toArray, List.set_cons_zero, List.set_cons_succ]
      refine takeH 1 18 (.int .i64 (k : Int)) rfl rfl (by kernel_rfl) (by kernel_rfl) (by kernel_rfl) (fun c a w h => h) (.inl ⟨rfl, fun w _ => rfl⟩) HW ?_
      simp only [List.setIfInBounds_toArray, List.set_cons_zero, List.set_cons_succ]
      refine takeH 2 19 (.pointer (some ⟨b, o + k * 12, none⟩)) rfl rfl (by kernel_rfl) (by kernel_rfl) (by kernel_rfl) (fun c a w h => h) (.inl ⟨rfl, fun wx _ => by go_simp⟩) HW ?_
      simp only [List.setIfInBounds_toArray, List.set_cons_zero, List.set_cons_succ]
      refine takeH 3 20 (.agg (opC X va vr).toArray) rfl rfl (by kernel_rfl) (by kernel_rfl) (by kernel_rfl) (fun c a w h => h) (yieldsIf_load_mid rfl 41 (.tmp 19) rfl b (o + k * 12) rfl (opC X va vr) _ (fun wx hx => fun j u hj => (hx.cell (p := ⟨b, o + k * 12 + j, none⟩) HBk.out.1).trans (RY.out j u hj)) Tryd.underlying41 rfl sizeOs) HW ?_
      simp only [List.setIfInBounds_toArray, List.set_cons_zero, List.set_cons_succ]
      refine takeH 4 21 (.slice (some ⟨b', o', none⟩) n c') rfl rfl (by kernel_rfl) (by kernel_rfl) (by kernel_rfl) (fun c a w h => h) (.inl ⟨rfl, fun w _ => rfl⟩) HW ?_
      simp only [List.setIfInBounds_toArray, List.set_cons_zero, List.set_cons_succ]
      refine takeH 5 22 (.int .i64 (k : Int)) rfl rfl (by kernel_rfl) (by kernel_rfl) (by kernel_rfl) (fun c a w h => h) (.inl ⟨rfl, fun w _ => rfl⟩) HW ?_
      simp only [List.setIfInBounds_toArray, List.set_cons_zero, List.set_cons_succ]
      refine takeH 6 23 (.pointer (some ⟨b', o' + k * 12, none⟩)) rfl rfl (by kernel_rfl) (by kernel_rfl) (by kernel_rfl) (fun c a w h => h) (.inl ⟨rfl, fun wx _ => by go_simp⟩) HW ?_
      simp only [List.setIfInBounds_toArray, List.set_cons_zero, List.set_cons_succ]
      refine takeH 7 24 (.agg (opC X ua ur).toArray) rfl rfl (by kernel_rfl) (by kernel_rfl) (by kernel_rfl) (fun c a w h => h) (yieldsIf_load_mid rfl 41 (.tmp 23) rfl b' (o' + k * 12) rfl (opC X ua ur) _ (fun wx hx => fun j u hj => (hx.cell (p := ⟨b', o' + k * 12 + j, none⟩) HBk.out.2).trans (RZ.out j u hj)) Tryd.underlying41 rfl sizeOs) HW ?_
      simp only [List.setIfInBounds_toArray, List.set_cons_zero, List.set_cons_succ]
      refine wpAnyH_all (rs := [8]) (by kernel_rfl) (by simp) (fun i hi => ?_)
      obtain rfl : i = 8 := by simpa using hi
      refine wpOp_doG 8 (by rfl) (by rfl) ?_
      go_wp2_with fail
      refine (HS.out n0 HW).mono ?_
      rintro e q1 ⟨rfl, hb⟩
      refine ⟨below_next HW hb, ?_⟩
      replace HW := below_next HW hb
      clear hb
      refine takeH 9 26 (.bool false) rfl rfl (by kernel_rfl) (by kernel_rfl) (by kernel_rfl) (fun c a w h => h) (.inl ⟨rfl, fun w _ => rfl⟩) HW ?_
      simp only [List.setIfInBounds_toArray, List.set_cons_zero, List.set_cons_succ]
      refine wpAnyH_done (by kernel_rfl) ?_ _
      show K _ _
      refine hKK _ _ ?_
      have HN : Hid (Below w.heap.size w q1) := HW
      clear HW
      go_wp2
      go_roundw
      case rel => exact ⟨k + 1, by omega, by go_num, HN.out⟩
      case measure => simp [intOf]; omega
    · have e : k = n := by omega
      subst e
      go_wp2
      go_ret
      exact ⟨rfl, HB.out⟩
end Go.Proofs.YtgdegbmakbfaaaaDoor
