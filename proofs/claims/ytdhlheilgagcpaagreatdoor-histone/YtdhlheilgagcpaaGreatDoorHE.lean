/- The contract of the document's Same of two histories that are one. Conditions: their events lie in memory, at most a million values each. -/
import Derived.Test.YtdhlheilgagcpaaGreatDoorBH
import Derived.Test.YtdhlheilgagcpaaGreatDoorEK
namespace Go.Proofs.YtdhlheilgagcpaaGreatDoor
open Go.RowKit Go.PlainAid Ln
set_option linter.unusedVariables false
set_option linter.unusedSimpArgs false

theorem fst_ye {ys : List YE} {xs : List Ev} (h : ys.map (·.1) = xs) {k : Nat} (hk : k < ys.length) : xs[k]? = some (ye ys k).1 := by rw [← h]; exact map_ye ys k hk
theorem fst_two {ys zs : List YE} {xs : List Ev} (h : ys.map (·.1) = xs) (h2 : zs.map (·.1) = xs) {k : Nat} (hk : k < ys.length) (hk2 : k < zs.length) : (ye ys k).1 = (ye zs k).1 :=
  Option.some.inj ((fst_ye h hk).symm.trans (fst_ye h2 hk2))
/-- lists of at most a million values -/
def MlE (x : Ev) : Prop := x.a.length ≤ 1000000 ∧ x.r.length ≤ 1000000
set_option maxRecDepth 100000 in
set_option maxHeartbeats 8000000 in
theorem same_h (v u : Value) (xs : List Ev) (w : World) (hv : ESl w v xs) (hu : ESl w u xs) (hm : ∀ x ∈ xs, MlE x) (hn : xs.length ≤ 1000000000000) :
    Calls Tryz.prog 11 #[v, u] w fun e w' => e = .returned (.bool true) ∧ Below w.heap.size w w' := by
  have mixed : Tryz.prog.follows .mixedOrders = true := by kernel_rfl
  obtain ⟨ys, y1, y2, y3⟩ := hv
  obtain ⟨zs, z1, z2, z3⟩ := hu
  have ly : ys.length = xs.length := by rw [← y1, List.length_map]
  have lz : zs.length = xs.length := by rw [← z1, List.length_map]
  obtain ⟨a, c, rfl, _, _, _⟩ := y2.form
  obtain ⟨a', c', rfl, _, _, _⟩ := z2.form
  have HY2 : Hid (YSl w (.slice a ys.length c) ys) := y2
  have HZ2 : Hid (YSl w (.slice a' zs.length c') zs) := z2
  rw [ly] at HY2 ⊢
  rw [lz] at HZ2 ⊢
  have HY3 : Hid (InL w ys) := y3
  have HZ3 : Hid (InL w zs) := z3
  have HLy : Hid (ys.length = xs.length) := ly
  have HLz : Hid (zs.length = xs.length) := lz
  have H2 : Hid (∀ k, k < ys.length → k < zs.length → (ye ys k).1 = (ye zs k).1) := fun k h1 h2 => fst_two y1 z1 h1 h2
  have HM : Hid (∀ k, k < ys.length → MlE (ye ys k).1) := fun k hk => hm _ (List.mem_of_getElem? (fst_ye y1 hk))
  clear y2 z2 y3 z3 ly lz y1 z1 hm
  generalize xs.length = n at *
  go_enter Tryz.func11, Tryz.ntmps11
  go_wp2
  go_loopw [5] (fun i wr => ∃ k : Nat, k ≤ n ∧ i = .int .i64 (k : Int) ∧ Below w.heap.size w wr) (fun i wr => n - (intOf i).toNat)
  case atStart => exact ⟨0, Nat.zero_le _, rfl, Below.refl _ _⟩
  case round =>
    obtain ⟨k, hk, rfl, hb⟩ := hrel
    have HB : Hid (Below w.heap.size w wr) := hb
    clear hb
    by_cases hlt : k < n
    · have hlt' : (k : Int) < (n : Int) := by omega
      have hly : k < ys.length := by rw [HLy.out]; exact hlt
      have hlz : k < zs.length := by rw [HLz.out]; exact hlt
      obtain ⟨b, o, rfl, hb1⟩ := HY2.out.block (by omega)
      obtain ⟨b', o', rfl, hb2⟩ := HZ2.out.block (by omega)
      have ry := HY2.out.at hly
      have rz := HZ2.out.at hlz
      have ey := H2.out k hly hlz
      have qy := HY3.out k hly
      have qz := HZ3.out k hlz
      have qm := HM.out k hly
      rw [← ey] at qz
      rcases hye : ye ys k with ⟨X, va, vr⟩
      rcases hze : ye zs k with ⟨X', ua, ur⟩
      rw [hye, hze] at ey
      obtain rfl : X = X' := ey
      rw [hye] at ry qy qm qz
      rw [hze] at rz qz
      have RY : Hid (w.rangeAt b (o + k * 14) (evC X va vr)) := ry
      have RZ : Hid (w.rangeAt b' (o' + k * 14) (evC X ua ur)) := rz
      have hS := fun w' (hb : Below w.heap.size w w') => same_ev X va vr ua ur w' (qy.1.later hb) (qy.2.later hb) (qz.1.later hb) (qz.2.later hb) qm.1 qm.2
      have HS : Hid (∀ w', Below w.heap.size w w' → _) := hS
      have HBk : Hid (b < w.heap.size ∧ b' < w.heap.size) := ⟨hb1, hb2⟩
      clear ry rz qy qz qm hye hze hS hb1 hb2
      go_wp2_with fail
      rename_i K hKK
      have HW0 : Below w.heap.size w { wr with drawn := wr.drawn + 1 } := ⟨HB.out.os, HB.out.tape, HB.out.output, HB.out.size, HB.out.block⟩
      refine wp_region_held (S := fun wx => Below w.heap.size w wx) mixed ?_
      generalize ({ wr with drawn := wr.drawn + 1 } : World) = n0 at HW0 ⊢
      have HW := HW0
      clear HW0
      refine takeH 0 17 (.slice (some ⟨b, o, none⟩) n c) rfl rfl (by kernel_rfl) (by kernel_rfl) (by kernel_rfl) (fun c a w h => h) (.inl ⟨rfl, fun w _ => rfl⟩) HW ?_
      simp only [List.setIfInBounds_toArray, List.set_cons_zero, List.set_cons_succ]
      refine takeH 1 18 (.int .i64 (k : Int)) rfl rfl (by kernel_rfl) (by kernel_rfl) (by kernel_rfl) (fun c a w h => h) (.inl ⟨rfl, fun w _ => rfl⟩) HW ?_
      simp only [List.setIfInBounds_toArray, List.set_cons_zero, List.set_cons_succ]
      refine takeH 2 19 (.pointer (some ⟨b, o + k * 14, none⟩)) rfl rfl (by kernel_rfl) (by kernel_rfl) (by kernel_rfl) (fun c a w h => h) (.inl ⟨rfl, fun wx _ => by go_simp⟩) HW ?_
      simp only [List.setIfInBounds_toArray, List.set_cons_zero, List.set_cons_succ]
      refine takeH 3 20 (.agg (evC X va vr).toArray) rfl rfl (by kernel_rfl) (by kernel_rfl) (by kernel_rfl) (fun c a w h => h) (yieldsIf_load_mid rfl 37 (.tmp 19) rfl b (o + k * 14) rfl (evC X va vr) _ (fun wx hx => fun j u hj => (hx.cell (p := ⟨b, o + k * 14 + j, none⟩) HBk.out.1).trans (RY.out j u hj)) Tryz.underlying37 rfl sizeE) HW ?_
      simp only [List.setIfInBounds_toArray, List.set_cons_zero, List.set_cons_succ]
      refine takeH 4 21 (.slice (some ⟨b', o', none⟩) n c') rfl rfl (by kernel_rfl) (by kernel_rfl) (by kernel_rfl) (fun c a w h => h) (.inl ⟨rfl, fun w _ => rfl⟩) HW ?_
      simp only [List.setIfInBounds_toArray, List.set_cons_zero, List.set_cons_succ]
      refine takeH 5 22 (.int .i64 (k : Int)) rfl rfl (by kernel_rfl) (by kernel_rfl) (by kernel_rfl) (fun c a w h => h) (.inl ⟨rfl, fun w _ => rfl⟩) HW ?_
      simp only [List.setIfInBounds_toArray, List.set_cons_zero, List.set_cons_succ]
      refine takeH 6 23 (.pointer (some ⟨b', o' + k * 14, none⟩)) rfl rfl (by kernel_rfl) (by kernel_rfl) (by kernel_rfl) (fun c a w h => h) (.inl ⟨rfl, fun wx _ => by go_simp⟩) HW ?_
      simp only [List.setIfInBounds_toArray, List.set_cons_zero, List.set_cons_succ]
      refine takeH 7 24 (.agg (evC X ua ur).toArray) rfl rfl (by kernel_rfl) (by kernel_rfl) (by kernel_rfl) (fun c a w h => h) (yieldsIf_load_mid rfl 37 (.tmp 23) rfl b' (o' + k * 14) rfl (evC X ua ur) _ (fun wx hx => fun j u hj => (hx.cell (p := ⟨b', o' + k * 14 + j, none⟩) HBk.out.2).trans (RZ.out j u hj)) Tryz.underlying37 rfl sizeE) HW ?_
      simp only [List.setIfInBounds_toArray, List.set_cons_zero, List.set_cons_succ]
      refine wpAnyH_all (rs := [8]) (by kernel_rfl) (by simp) (fun i hi => ?_)
      obtain rfl : i = 8 := by simpa using hi
      refine wpOp_doG 8 (by rfl) (by rfl) ?_
      go_wp2_with fail
      refine (HS.out n0 HW).mono ?_
      rintro e q1 ⟨rfl, hb⟩
      refine ⟨below_next HW hb, ?_⟩
      replace HW := below_next HW hb
      clear hb
      refine takeH 9 26 (.bool false) rfl rfl (by kernel_rfl) (by kernel_rfl) (by kernel_rfl) (fun c a w h => h) (.inl ⟨rfl, fun w _ => rfl⟩) HW ?_
      simp only [List.setIfInBounds_toArray, List.set_cons_zero, List.set_cons_succ]
      refine wpAnyH_done (by kernel_rfl) ?_ _
      show K _ _
      refine hKK _ _ ?_
      have HN : Hid (Below w.heap.size w q1) := HW
      clear HW
      go_wp2
      go_roundw
      case rel => exact ⟨k + 1, by omega, by go_num, HN.out⟩
      case measure => simp [intOf]; omega
    · have e : k = n := by omega
      subst e
      go_wp2
      go_ret
      exact ⟨rfl, HB.out⟩
end Go.Proofs.YtdhlheilgagcpaaGreatDoor
