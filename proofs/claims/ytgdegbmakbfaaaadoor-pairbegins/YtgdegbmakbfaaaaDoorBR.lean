/- The contracts of what tells whether an event's note is right, whether it calls nothing, whether values are right. Conditions: the texts are at most 2^62 bytes. The contracts of what tells whether an event is right for its type, and of Right. Conditions: the table of signs and the event's lists lie in memory; the texts are at most 2^62 bytes, the values at most a million. -/
import Derived.Test.YtgdegbmakbfaaaaDoorBA
import Derived.Test.YtgdegbmakbfaaaaDoorLFX
namespace Go.Proofs.YtgdegbmakbfaaaaDoor
open Go.RowKit Go.PlainAid Ln
set_option linter.unusedVariables false
set_option linter.unusedSimpArgs false

theorem noteB_f {nd : Bool} {n : ByteArray} (h : nd = false) : noteB nd n = decide (n.size = 0) := by rw [h]; exact if_neg (by decide)
theorem noteB_t {nd : Bool} {n : ByteArray} (h : nd = true) : noteB nd n = decide (n.size ≤ 100 ∧ (10 : UInt8) ∉ tx n) := by rw [h]; exact if_pos rfl
set_option maxHeartbeats 2000000 in
theorem note_right (x : Ev) (va vr : Value) (w : World) :
    Calls Tryd.prog 41 #[.agg (evC x va vr).toArray] w fun e w' => e = .returned (.bool (noteB x.nd x.n)) ∧ Below w.heap.size w w' := by
  obtain ⟨t, ⟨c1, c2, c3⟩, y, m, ⟨k1, k2, k3⟩, o, la, lr, nd, nt1⟩ := x
  obtain ⟨w1, hw1⟩ : ∃ w1, w.alloc (.cells (evC ⟨t, (c1, c2, c3), y, m, (k1, k2, k3), o, la, lr, nd, nt1⟩ va vr).toArray 47) = w1 := ⟨_, rfl⟩
  have B1 := Blk.new w (evC ⟨t, (c1, c2, c3), y, m, (k1, k2, k3), o, la, lr, nd, nt1⟩ va vr) 47
  rw [hw1] at B1
  have b1 : Below w.heap.size w w1 := by rw [← hw1]; exact below_more (Below.refl _ _) _
  have ea : w.alloc (.cells #[.int .i64 t, .int .i64 c1, .int .i64 c2, .string c3, .int .i64 y, .int .i64 m, .int .i64 k1, .int .i64 k2, .string k3, .int .i64 o, va, vr, .bool nd, .string nt1] 47) = w1 := hw1
  obtain ⟨p, hp⟩ : ∃ p, w.heap.size = p := ⟨_, rfl⟩
  rw [hp] at B1
  have HB : Hid (Blk w1 p (evC ⟨t, (c1, c2, c3), y, m, (k1, k2, k3), o, la, lr, nd, nt1⟩ va vr) 47) := B1
  have Hb : Hid (Below w.heap.size w w1) := b1
  obtain ⟨a0, a1, a2, a3, a4, a5, a6, a7, a8, a9, a10, a11, a12, a13⟩ := ev_cells B1
  clear hw1 B1 b1
  dsimp only at a0 a1 a2 a3 a4 a5 a6 a7 a8 a9 a10 a11 a12 a13 ⊢
  simp only [evC]
  cases nd
  · rw [noteB_f rfl]
    by_cases hz : nt1.size = 0
    · have hn : nt1.toList = [] := toList_nil.2 hz
      have hi : nt1.toList.isEmpty = true := isEmpty_t hz
      rw [decide_eq_true hz]
      clear hz
      go_enter Tryd.func41, Tryd.ntmps41
      go_wp2_with fail
      go_ret
      exact ⟨rfl, by first | exact Hb.out | (rw [← hp]; exact Hb.out)⟩
    · have hn : ¬ nt1.toList = [] := fun h => hz (toList_nil.1 h)
      have hi : nt1.toList.isEmpty = false := isEmpty_f hz
      rw [decide_eq_false hz]
      clear hz
      go_enter Tryd.func41, Tryd.ntmps41
      go_wp2_with fail
      go_ret
      exact ⟨rfl, by first | exact Hb.out | (rw [← hp]; exact Hb.out)⟩
  · rw [noteB_t rfl]
    by_cases hz : nt1.size ≤ 100
    · have hz' : (nt1.size : Int) ≤ 100 := by omega
      have hC := fun w => contains_any nt1 10 w
      have e : decide (nt1.size ≤ 100 ∧ (10 : UInt8) ∉ tx nt1) = !decide ((10 : UInt8) ∈ tx nt1) := by simp [hz]
      rw [e]
      generalize decide ((10 : UInt8) ∈ tx nt1) = b at *
      clear e
      go_enter Tryd.func41, Tryd.ntmps41
      go_wp2_with fail
      refine (hC _).mono ?_
      rintro e w2 ⟨rfl, rfl⟩
      go_wp2_with fail
      go_ret
      exact ⟨rfl, by first | exact Hb.out | (rw [← hp]; exact Hb.out)⟩
    · have hz' : ¬ (nt1.size : Int) ≤ 100 := by omega
      rw [decide_eq_false (fun h => hz h.1)]
      go_enter Tryd.func41, Tryd.ntmps41
      go_wp2_with fail
      go_ret
      exact ⟨rfl, by first | exact Hb.out | (rw [← hp]; exact Hb.out)⟩
/-- a value that is nothing -/
theorem eqv_none (k n : Int) (s : ByteArray) : eqvB k n s 0 0 ⟨#[]⟩ = decide (k = 0 ∧ n = 0 ∧ s.size = 0) := eqvB_no k n 0 0 s
set_option maxHeartbeats 2000000 in
theorem none_any (x : Ev) (va vr : Value) (w : World) (hv : ∃ a c, va = .slice a x.a.length c) :
    Calls Tryd.prog 50 #[.agg (evC x va vr).toArray] w fun e w' => e = .returned (.bool (nonB x)) ∧ Below w.heap.size w w' := by
  unfold nonB
  obtain ⟨t, ⟨c1, c2, c3⟩, y, m, ⟨k1, k2, k3⟩, o, la, lr, nd, nt1⟩ := x
  obtain ⟨w1, hw1⟩ : ∃ w1, w.alloc (.cells (evC ⟨t, (c1, c2, c3), y, m, (k1, k2, k3), o, la, lr, nd, nt1⟩ va vr).toArray 47) = w1 := ⟨_, rfl⟩
  have B1 := Blk.new w (evC ⟨t, (c1, c2, c3), y, m, (k1, k2, k3), o, la, lr, nd, nt1⟩ va vr) 47
  rw [hw1] at B1
  have b1 : Below w.heap.size w w1 := by rw [← hw1]; exact below_more (Below.refl _ _) _
  have ea : w.alloc (.cells #[.int .i64 t, .int .i64 c1, .int .i64 c2, .string c3, .int .i64 y, .int .i64 m, .int .i64 k1, .int .i64 k2, .string k3, .int .i64 o, va, vr, .bool nd, .string nt1] 47) = w1 := hw1
  obtain ⟨p, hp⟩ : ∃ p, w.heap.size = p := ⟨_, rfl⟩
  rw [hp] at B1
  have HB : Hid (Blk w1 p (evC ⟨t, (c1, c2, c3), y, m, (k1, k2, k3), o, la, lr, nd, nt1⟩ va vr) 47) := B1
  have Hb : Hid (Below w.heap.size w w1) := b1
  obtain ⟨a0, a1, a2, a3, a4, a5, a6, a7, a8, a9, a10, a11, a12, a13⟩ := ev_cells B1
  clear hw1 B1 b1
  dsimp only at a0 a1 a2 a3 a4 a5 a6 a7 a8 a9 a10 a11 a12 a13 hv ⊢
  simp only [evC]
  obtain ⟨av, cv, rfl⟩ := hv
  have hg := eqgV
  have hq := fun w => eqV k1 k2 0 0 k3 ⟨#[]⟩ w
  rw [eqv_none] at hq
  have C2 : Blk (w1.alloc (.cells #[.int .i64 0, .int .i64 0, .string ⟨#[]⟩] 38)) w1.heap.size (vls 0 0 ⟨#[]⟩) 38 := Blk.new w1 (vls 0 0 ⟨#[]⟩) 38
  have hlt := HB.out.lt
  have HB2 : Hid (Blk (w1.alloc (.cells #[.int .i64 0, .int .i64 0, .string ⟨#[]⟩] 38)) p (evC ⟨t, (c1, c2, c3), y, m, (k1, k2, k3), o, la, lr, nd, nt1⟩ (.slice av la.length cv) vr) 47) := HB.out.alloc _
  have hb2 : Hid (Below w.heap.size w (w1.alloc (.cells #[.int .i64 0, .int .i64 0, .string ⟨#[]⟩] 38))) := below_more Hb.out _
  have hls : Hid (w.heap.size ≤ w1.heap.size) := Hb.out.size
  by_cases h1 : m = 0
  · by_cases h2 : o = 0
    · by_cases h3 : k1 = 0 ∧ k2 = 0 ∧ k3.size = 0
      · rw [decide_eq_true h3] at hq
        have e : decide (m = 0 ∧ o = 0 ∧ k1 = 0 ∧ k2 = 0 ∧ k3.size = 0 ∧ la.length = 0) = decide ((la.length : Int) = 0) := by
          obtain ⟨e1, e2, e3⟩ := h3
          simp [h1, h2, e1, e2, e3]
        rw [e]
        clear e h3
        subst h1 h2
        generalize hn : la.length = n at *
        go_enter Tryd.func50, Tryd.ntmps50
        go_wp2_with ((with_reducible refine wp_storeB 38 (.tmp 3) (.tmp 4) w1.heap.size 0 (vls 0 0 ⟨#[]⟩) (vls 0 0 ⟨#[]⟩) 38 ?_ ?_ (vls_one _ _ _) ?_ ?_ ?_ C2 ?_); (exact sizeV); (exact Nat.le_refl 3); (exact ⟨rfl, rfl⟩); (exact rfl); (exact rfl); (intro z1 C3 o3); (replace C3 : Blk z1 w1.heap.size (vls 0 0 ⟨#[]⟩) 38 := C3); (have B3 := HB2.out.oth o3 (by omega) (by omega)); (have Hb2 : Hid (Below w.heap.size w z1) := below_oth hb2.out o3 hls.out hls.out hb2.out.size); (obtain ⟨f0, f1, f2, f3, f4, f5, f6, f7, f8, f9, f10, f11, f12, f13⟩ := ev_cells B3); (have g0 : z1.cell? ⟨w1.heap.size, 0, none⟩ = some (.int .i64 0) := C3.cell 0 _ rfl); (have g1 : z1.cell? ⟨w1.heap.size, 1, none⟩ = some (.int .i64 0) := C3.cell 1 _ rfl); (have g2 : z1.cell? ⟨w1.heap.size, 2, none⟩ = some (.string ⟨#[]⟩) := C3.cell 2 _ rfl); dsimp only at f0 f1 f2 f3 f4 f5 f6 f7 f8 f9 f10 f11 f12 f13; clear C2 C3 B3 o3)
        go_ret
        exact ⟨ret_b (by simp; first | done | (rw [Bool.eq_iff_iff]; simp)), (by first | exact Hb2.out | (rw [← hp]; exact Hb2.out))⟩
      · rw [decide_eq_false h3] at hq
        rw [decide_eq_false (fun h => h3 ⟨h.2.2.1, h.2.2.2.1, h.2.2.2.2.1⟩)]
        clear h3
        subst h1 h2
        go_enter Tryd.func50, Tryd.ntmps50
        go_wp2_with ((with_reducible refine wp_storeB 38 (.tmp 3) (.tmp 4) w1.heap.size 0 (vls 0 0 ⟨#[]⟩) (vls 0 0 ⟨#[]⟩) 38 ?_ ?_ (vls_one _ _ _) ?_ ?_ ?_ C2 ?_); (exact sizeV); (exact Nat.le_refl 3); (exact ⟨rfl, rfl⟩); (exact rfl); (exact rfl); (intro z1 C3 o3); (replace C3 : Blk z1 w1.heap.size (vls 0 0 ⟨#[]⟩) 38 := C3); (have B3 := HB2.out.oth o3 (by omega) (by omega)); (have Hb2 : Hid (Below w.heap.size w z1) := below_oth hb2.out o3 hls.out hls.out hb2.out.size); (obtain ⟨f0, f1, f2, f3, f4, f5, f6, f7, f8, f9, f10, f11, f12, f13⟩ := ev_cells B3); (have g0 : z1.cell? ⟨w1.heap.size, 0, none⟩ = some (.int .i64 0) := C3.cell 0 _ rfl); (have g1 : z1.cell? ⟨w1.heap.size, 1, none⟩ = some (.int .i64 0) := C3.cell 1 _ rfl); (have g2 : z1.cell? ⟨w1.heap.size, 2, none⟩ = some (.string ⟨#[]⟩) := C3.cell 2 _ rfl); dsimp only at f0 f1 f2 f3 f4 f5 f6 f7 f8 f9 f10 f11 f12 f13; clear C2 C3 B3 o3)
        go_ret
        exact ⟨rfl, (by first | exact Hb2.out | (rw [← hp]; exact Hb2.out))⟩
    · have h2' : (o == 0) = false := by simp [h2]
      rw [decide_eq_false (fun h => h2 h.2.1)]
      subst h1
      go_enter Tryd.func50, Tryd.ntmps50
      go_wp2_with ((with_reducible refine wp_storeB 38 (.tmp 3) (.tmp 4) w1.heap.size 0 (vls 0 0 ⟨#[]⟩) (vls 0 0 ⟨#[]⟩) 38 ?_ ?_ (vls_one _ _ _) ?_ ?_ ?_ C2 ?_); (exact sizeV); (exact Nat.le_refl 3); (exact ⟨rfl, rfl⟩); (exact rfl); (exact rfl); (intro z1 C3 o3); (replace C3 : Blk z1 w1.heap.size (vls 0 0 ⟨#[]⟩) 38 := C3); (have B3 := HB2.out.oth o3 (by omega) (by omega)); (have Hb2 : Hid (Below w.heap.size w z1) := below_oth hb2.out o3 hls.out hls.out hb2.out.size); (obtain ⟨f0, f1, f2, f3, f4, f5, f6, f7, f8, f9, f10, f11, f12, f13⟩ := ev_cells B3); (have g0 : z1.cell? ⟨w1.heap.size, 0, none⟩ = some (.int .i64 0) := C3.cell 0 _ rfl); (have g1 : z1.cell? ⟨w1.heap.size, 1, none⟩ = some (.int .i64 0) := C3.cell 1 _ rfl); (have g2 : z1.cell? ⟨w1.heap.size, 2, none⟩ = some (.string ⟨#[]⟩) := C3.cell 2 _ rfl); dsimp only at f0 f1 f2 f3 f4 f5 f6 f7 f8 f9 f10 f11 f12 f13; clear C2 C3 B3 o3)
      go_ret
      exact ⟨rfl, (by first | exact Hb2.out | (rw [← hp]; exact Hb2.out))⟩
  · have h1' : (m == 0) = false := by simp [h1]
    rw [decide_eq_false (fun h => h1 h.1)]
    go_enter Tryd.func50, Tryd.ntmps50
    go_wp2_with ((with_reducible refine wp_storeB 38 (.tmp 3) (.tmp 4) w1.heap.size 0 (vls 0 0 ⟨#[]⟩) (vls 0 0 ⟨#[]⟩) 38 ?_ ?_ (vls_one _ _ _) ?_ ?_ ?_ C2 ?_); (exact sizeV); (exact Nat.le_refl 3); (exact ⟨rfl, rfl⟩); (exact rfl); (exact rfl); (intro z1 C3 o3); (replace C3 : Blk z1 w1.heap.size (vls 0 0 ⟨#[]⟩) 38 := C3); (have B3 := HB2.out.oth o3 (by omega) (by omega)); (have Hb2 : Hid (Below w.heap.size w z1) := below_oth hb2.out o3 hls.out hls.out hb2.out.size); (obtain ⟨f0, f1, f2, f3, f4, f5, f6, f7, f8, f9, f10, f11, f12, f13⟩ := ev_cells B3); (have g0 : z1.cell? ⟨w1.heap.size, 0, none⟩ = some (.int .i64 0) := C3.cell 0 _ rfl); (have g1 : z1.cell? ⟨w1.heap.size, 1, none⟩ = some (.int .i64 0) := C3.cell 1 _ rfl); (have g2 : z1.cell? ⟨w1.heap.size, 2, none⟩ = some (.string ⟨#[]⟩) := C3.cell 2 _ rfl); dsimp only at f0 f1 f2 f3 f4 f5 f6 f7 f8 f9 f10 f11 f12 f13; clear C2 C3 B3 o3)
    go_ret
    exact ⟨rfl, (by first | exact Hb2.out | (rw [← hp]; exact Hb2.out))⟩
/-- a value at a place of a row -/
theorem all_succ (xs : List Val) (k : Nat) (h : ∀ i, i < k → rV (nv xs i) = true) (hk : rV (nv xs k) = true) : ∀ i, i < k + 1 → rV (nv xs i) = true := fun i hi => by
  by_cases e : i = k
  · rw [e]; exact hk
  · exact h i (by omega)
theorem all_t {xs : List Val} (h : ∀ i, i < xs.length → rV (nv xs i) = true) : xs.all rV = true := by
  rw [List.all_eq_true]
  intro v hv
  obtain ⟨i, hi, rfl⟩ := List.getElem_of_mem hv
  rw [← nv_eq xs i hi]; exact h i hi
theorem all_f {xs : List Val} {k : Nat} (hk : k < xs.length) (h : rV (nv xs k) = false) : xs.all rV = false := by
  rw [List.all_eq_false]
  exact ⟨nv xs k, by rw [nv_eq xs k hk]; exact List.getElem_mem hk, by rw [h]; decide⟩
set_option maxHeartbeats 2000000 in
theorem allR_any (v : Value) (xs : List Val) (w : World) (hv : VSl w v xs) (hs : ∀ i, i < xs.length → (nv xs i).2.2.size ≤ 4611686018427387904) :
    Calls Tryd.prog 51 #[v] w fun e w' => e = .returned (.bool (xs.all rV)) ∧ Below w.heap.size w w' := by
  obtain ⟨a, c, rfl, hl, hm, hc⟩ := hv
  have HC : Hid ((xs = [] ∧ (a = none → c = 0)) ∨ ∃ b o, a = some ⟨b, o, none⟩ ∧ b < w.heap.size ∧ ∀ i, i < xs.length → At w b (o + i * 3) (nv xs i)) := hc
  have HS : Hid (∀ i, i < xs.length → (nv xs i).2.2.size ≤ 4611686018427387904) := hs
  clear hc hs
  go_enter Tryd.func51, Tryd.ntmps51
  go_wp2
  go_loopw [7] (fun i w' => ∃ k : Nat, k ≤ xs.length ∧ i = .int .i64 (k : Int) ∧ Below w.heap.size w w' ∧ ∀ i, i < k → rV (nv xs i) = true) (fun i w' => xs.length - (intOf i).toNat)
  case atStart => exact ⟨0, by omega, rfl, Below.refl _ _, fun i h => by omega⟩
  case round =>
    obtain ⟨k, hk, rfl, hb, hall⟩ := hrel
    have HA : Hid (∀ i, i < k → rV (nv xs i) = true) := hall
    clear hall
    by_cases hlt : k < xs.length
    · have hlt' : (k : Int) < (xs.length : Int) := by omega
      rcases HC.out with ⟨h0, _⟩ | ⟨b, o, rfl, hbl, hat⟩
      · rw [h0] at hlt; cases hlt
      obtain ⟨c0, c1, c2⟩ := (hat k hlt).later hbl hb
      have hz := HS.out k hlt
      clear hat
      have hbx := below_more hb (.cells #[.int .i64 (nv xs k).1, .int .i64 (nv xs k).2.1, .string (nv xs k).2.2] 38)
      have hR := fun w => right_any (nv xs k).1 (nv xs k).2.1 (nv xs k).2.2 w hz
      cases hr : rightB (nv xs k).1 (nv xs k).2.1 (nv xs k).2.2
      · rw [hr] at hR
        have HF : Hid (xs.all rV = false) := all_f hlt hr
        clear hr hz
        go_wp2_with fail
        refine (hR _).mono ?_
        rintro e w2 ⟨rfl, b2⟩
        go_wp2_with fail
        go_ret
        exact ⟨by rw [HF.out]; rfl, below_next hbx b2⟩
      · rw [hr] at hR
        have HR : Hid (rV (nv xs k) = true) := hr
        clear hr hz
        go_wp2_with fail
        refine (hR _).mono ?_
        rintro e w2 ⟨rfl, b2⟩
        go_wp2_with fail
        go_roundw
        case rel => exact ⟨k + 1, by omega, by go_num, below_next hbx b2, all_succ xs k HA.out HR.out⟩
        case measure => simp [intOf]; omega
    · have e : k = xs.length := by omega
      subst e
      have HF : Hid (xs.all rV = true) := all_t HA.out
      go_wp2
      go_ret
      exact ⟨by rw [HF.out]; rfl, hb⟩
end Go.Proofs.YtgdegbmakbfaaaaDoor
namespace Go.Proofs.YtgdegbmakbfaaaaDoor
open Go.RowKit Go.PlainAid Ln
set_option linter.unusedVariables false
set_option linter.unusedSimpArgs false

/-- an event's texts and lists are of a size that the contracts take -/
def SzE (x : Ev) : Prop := x.c.2.2.size ≤ 4611686018427387904 ∧ x.k.2.2.size ≤ 4611686018427387904 ∧ (∀ i, i < x.a.length → (nv x.a i).2.2.size ≤ 4611686018427387904) ∧ (∀ i, i < x.r.length → (nv x.r i).2.2.size ≤ 4611686018427387904) ∧ x.a.length ≤ 1000000 ∧ x.r.length ≤ 1000000
theorem typ_1 {x : Ev} (h : x.y = 1) : typB x = (nV x.k && (fi x.m x.o && fitsL (fr x.m x.o).inn x.a) && decide (x.r.length = 0)) := by unfold typB; rw [if_pos h]
theorem typ_2 {x : Ev} (h : x.y = 2) : typB x = (nonB x && x.r.all rV) := by unfold typB; rw [if_neg (by omega), if_pos h]
theorem typ_3 {x : Ev} (h : x.y = 3 ∨ x.y = 4) : typB x = (nonB x && decide (x.r.length = 0)) := by unfold typB; rw [if_neg (by omega), if_neg (by omega), if_pos h]
theorem typ_0 {x : Ev} (h1 : ¬ x.y = 1) (h2 : ¬ x.y = 2) (h3 : ¬ x.y = 3) (h4 : ¬ x.y = 4) : typB x = false := by unfold typB; rw [if_neg h1, if_neg h2, if_neg (fun h => h.elim h3 h4)]
theorem nat_dec (n : Nat) : decide (n = 0) = decide ((n : Int) = 0) := by simp
set_option maxRecDepth 100000 in
set_option maxHeartbeats 4000000 in
theorem type_any (x : Ev) (va vr : Value) (w : World) (ht : Tb w) (h1 : VSl w va x.a) (h2 : VSl w vr x.r) (hz : SzE x) :
    Calls Tryd.prog 42 #[.agg (evC x va vr).toArray] w fun e w' => e = .returned (.bool (typB x)) ∧ Below w.heap.size w w' := by
  have hN := fun w => none_any x va vr w (by obtain ⟨a, c, h, _⟩ := h1; exact ⟨a, c, h⟩)
  obtain ⟨ar, cr, hvr⟩ : ∃ a c, vr = .slice a x.r.length c := by obtain ⟨a, c, h, _⟩ := h2; exact ⟨a, c, h⟩
  have e1 := @typ_1 x
  have e2 := @typ_2 x
  have e3 := @typ_3 x
  have e4 := @typ_0 x
  have HT : Hid (Tb w) := ht
  have H1 : Hid (VSl w va x.a) := h1
  have H2 : Hid (VSl w vr x.r) := h2
  have HZ : Hid (SzE x) := hz
  generalize typB x = tb at *
  generalize nonB x = nb at *
  clear ht h1 h2 hz
  obtain ⟨t, ⟨c1, c2, c3⟩, y, m, ⟨k1, k2, k3⟩, o, la, lr, nd, nt1⟩ := x
  obtain ⟨w1, hw1⟩ : ∃ w1, w.alloc (.cells (evC ⟨t, (c1, c2, c3), y, m, (k1, k2, k3), o, la, lr, nd, nt1⟩ va vr).toArray 47) = w1 := ⟨_, rfl⟩
  have B1 := Blk.new w (evC ⟨t, (c1, c2, c3), y, m, (k1, k2, k3), o, la, lr, nd, nt1⟩ va vr) 47
  rw [hw1] at B1
  have b1 : Below w.heap.size w w1 := by rw [← hw1]; exact below_more (Below.refl _ _) _
  have ea : w.alloc (.cells #[.int .i64 t, .int .i64 c1, .int .i64 c2, .string c3, .int .i64 y, .int .i64 m, .int .i64 k1, .int .i64 k2, .string k3, .int .i64 o, va, vr, .bool nd, .string nt1] 47) = w1 := hw1
  obtain ⟨p, hp⟩ : ∃ p, w.heap.size = p := ⟨_, rfl⟩
  rw [hp] at B1
  have HB : Hid (Blk w1 p (evC ⟨t, (c1, c2, c3), y, m, (k1, k2, k3), o, la, lr, nd, nt1⟩ va vr) 47) := B1
  have Hb : Hid (Below w.heap.size w w1) := b1
  obtain ⟨a0, a1, a2, a3, a4, a5, a6, a7, a8, a9, a10, a11, a12, a13⟩ := ev_cells B1
  clear hw1 B1 b1
  dsimp only at a0 a1 a2 a3 a4 a5 a6 a7 a8 a9 a10 a11 a12 a13 e1 e2 e3 e4 hvr ⊢
  simp only [evC]
  simp only [evC] at hN
  have hT := fun w => takes_any 1 k1 k2 k3 w HZ.out.2.1
  rw [takesB_n (by decide)] at hT
  have e5 : nV (k1, k2, k3) = nameB k1 k2 k3 := rfl
  rw [e5] at e1
  generalize nameB k1 k2 k3 = n1 at *
  have hF := fun w' (hb : Below w.heap.size w w') => fits_any m o va la w' (HT.out.later hb) (H1.out.later hb) HZ.out.2.2.1 HZ.out.2.2.2.2.1
  generalize (fi m o && fitsL (fr m o).inn la) = n2 at *
  have hA := fun w' (hb : Below w.heap.size w w') => allR_any vr lr w' (H2.out.later hb) HZ.out.2.2.2.1
  generalize lr.all rV = n3 at *
  have HF : Hid (∀ w', Below w.heap.size w w' → _) := hF
  have HA : Hid (∀ w', Below w.heap.size w w' → _) := hA
  clear hF hA e5
  generalize hn : lr.length = n at *
  have Hvr : Hid (vr = .slice ar n cr) := hvr
  clear hvr hn
  by_cases y1 : y = 1
  · rw [e1 y1]
    clear e1 e2 e3 e4 hN
    subst y1
    cases n1
    · clear HF HA
      go_enter Tryd.func42, Tryd.ntmps42
      go_wp2_with fail
      refine (hT _).mono ?_
      rintro e w2 ⟨rfl, b2⟩
      go_wp2_with fail
      go_ret
      exact ⟨rfl, by first | exact below_next Hb.out b2 | (rw [← hp]; exact below_next Hb.out b2)⟩
    cases n2
    · go_enter Tryd.func42, Tryd.ntmps42
      go_wp2_with fail
      refine (hT _).mono ?_
      rintro e w2 ⟨rfl, b2⟩
      obtain ⟨a0, a1, a2, a3, a4, a5, a6, a7, a8, a9, a10, a11, a12, a13⟩ := ev_cells (HB.out.later b2)
      simp only at a0 a1 a2 a3 a4 a5 a6 a7 a8 a9 a10 a11 a12 a13
      go_wp2_with fail
      refine (HF.out _ (below_next Hb.out b2)).mono ?_
      rintro e w3 ⟨rfl, b3⟩
      go_wp2_with fail
      go_ret
      exact ⟨rfl, by first | exact below_next (below_next Hb.out b2) b3 | (rw [← hp]; exact below_next (below_next Hb.out b2) b3)⟩
    · have hvr := Hvr.out
      subst hvr
      clear Hvr
      go_enter Tryd.func42, Tryd.ntmps42
      go_wp2_with fail
      refine (hT _).mono ?_
      rintro e w2 ⟨rfl, b2⟩
      obtain ⟨a0, a1, a2, a3, a4, a5, a6, a7, a8, a9, a10, a11, a12, a13⟩ := ev_cells (HB.out.later b2)
      simp only at a0 a1 a2 a3 a4 a5 a6 a7 a8 a9 a10 a11 a12 a13
      go_wp2_with fail
      refine (HF.out _ (below_next Hb.out b2)).mono ?_
      rintro e w3 ⟨rfl, b3⟩
      obtain ⟨a0, a1, a2, a3, a4, a5, a6, a7, a8, a9, a10, a11, a12, a13⟩ := ev_cells ((HB.out.later b2).later b3)
      simp only at a0 a1 a2 a3 a4 a5 a6 a7 a8 a9 a10 a11 a12 a13
      go_wp2_with fail
      go_ret
      exact ⟨ret_b (by simp; first | done | (rw [Bool.eq_iff_iff]; simp)), by first | exact below_next (below_next Hb.out b2) b3 | (rw [← hp]; exact below_next (below_next Hb.out b2) b3)⟩
  have y1' : (y == 1) = false := by simp [y1]
  by_cases y2 : y = 2
  · rw [e2 y2]
    clear e1 e2 e3 e4 y1 y1' HF hT
    subst y2
    cases nb
    · go_enter Tryd.func42, Tryd.ntmps42
      go_wp2_with fail
      refine (hN _).mono ?_
      rintro e w2 ⟨rfl, b2⟩
      go_wp2_with fail
      go_ret
      exact ⟨rfl, by first | exact below_next Hb.out b2 | (rw [← hp]; exact below_next Hb.out b2)⟩
    · go_enter Tryd.func42, Tryd.ntmps42
      go_wp2_with fail
      refine (hN _).mono ?_
      rintro e w2 ⟨rfl, b2⟩
      obtain ⟨a0, a1, a2, a3, a4, a5, a6, a7, a8, a9, a10, a11, a12, a13⟩ := ev_cells (HB.out.later b2)
      simp only at a0 a1 a2 a3 a4 a5 a6 a7 a8 a9 a10 a11 a12 a13
      go_wp2_with fail
      refine (HA.out _ (below_next Hb.out b2)).mono ?_
      rintro e w3 ⟨rfl, b3⟩
      go_wp2_with fail
      go_ret
      exact ⟨ret_b (by simp; first | done | (rw [Bool.eq_iff_iff]; simp)), by first | exact below_next (below_next Hb.out b2) b3 | (rw [← hp]; exact below_next (below_next Hb.out b2) b3)⟩
  have y2' : (y == 2) = false := by simp [y2]
  by_cases y3 : y = 3 ∨ y = 4
  · rw [e3 y3]
    clear e1 e2 e3 e4 y1 y2 y1' y2' HF HA hT
    have hvr := Hvr.out
    subst hvr
    clear Hvr
    cases nb
    · rcases y3 with rfl | rfl
      all_goals
        go_enter Tryd.func42, Tryd.ntmps42
        go_wp2_with fail
        refine (hN _).mono ?_
        rintro e w2 ⟨rfl, b2⟩
        go_wp2_with fail
        go_ret
        exact ⟨rfl, by first | exact below_next Hb.out b2 | (rw [← hp]; exact below_next Hb.out b2)⟩
    · rcases y3 with rfl | rfl
      all_goals
        go_enter Tryd.func42, Tryd.ntmps42
        go_wp2_with fail
        refine (hN _).mono ?_
        rintro e w2 ⟨rfl, b2⟩
        obtain ⟨a0, a1, a2, a3, a4, a5, a6, a7, a8, a9, a10, a11, a12, a13⟩ := ev_cells (HB.out.later b2)
        simp only at a0 a1 a2 a3 a4 a5 a6 a7 a8 a9 a10 a11 a12 a13
        go_wp2_with fail
        go_ret
        exact ⟨ret_b (by simp; first | done | (rw [Bool.eq_iff_iff]; simp)), by first | exact below_next Hb.out b2 | (rw [← hp]; exact below_next Hb.out b2)⟩
  · have y3' : (y == 3) = false := by simp; omega
    have y4' : (y == 4) = false := by simp; omega
    rw [e4 y1 y2 (fun h => y3 (.inl h)) (fun h => y3 (.inr h))]
    clear e1 e2 e3 e4 y1 y2 y3 HF HA hT hN
    go_enter Tryd.func42, Tryd.ntmps42
    go_wp2_with fail
    go_ret
    exact ⟨rfl, by first | exact Hb.out | (rw [← hp]; exact Hb.out)⟩
set_option maxRecDepth 100000 in
set_option maxHeartbeats 4000000 in
theorem eright_any (x : Ev) (va vr : Value) (w : World) (ht : Tb w) (h1 : VSl w va x.a) (h2 : VSl w vr x.r) (hz : SzE x) :
    Calls Tryd.prog 32 #[.agg (evC x va vr).toArray] w fun e w' => e = .returned (.bool (rightE x)) ∧ Below w.heap.size w w' := by
  have hY := fun w' (hb : Below w.heap.size w w') => type_any x va vr w' (ht.later hb) (h1.later hb) (h2.later hb) hz
  have hN := fun w' => note_right x va vr w'
  have HZ : Hid (SzE x) := hz
  unfold rightE
  generalize typB x = tb at *
  generalize noteB x.nd x.n = nb at *
  clear ht h1 h2 hz
  obtain ⟨t, ⟨c1, c2, c3⟩, y, m, ⟨k1, k2, k3⟩, o, la, lr, nd, nt1⟩ := x
  obtain ⟨w1, hw1⟩ : ∃ w1, w.alloc (.cells (evC ⟨t, (c1, c2, c3), y, m, (k1, k2, k3), o, la, lr, nd, nt1⟩ va vr).toArray 47) = w1 := ⟨_, rfl⟩
  have B1 := Blk.new w (evC ⟨t, (c1, c2, c3), y, m, (k1, k2, k3), o, la, lr, nd, nt1⟩ va vr) 47
  rw [hw1] at B1
  have b1 : Below w.heap.size w w1 := by rw [← hw1]; exact below_more (Below.refl _ _) _
  have ea : w.alloc (.cells #[.int .i64 t, .int .i64 c1, .int .i64 c2, .string c3, .int .i64 y, .int .i64 m, .int .i64 k1, .int .i64 k2, .string k3, .int .i64 o, va, vr, .bool nd, .string nt1] 47) = w1 := hw1
  obtain ⟨p, hp⟩ : ∃ p, w.heap.size = p := ⟨_, rfl⟩
  rw [hp] at B1
  have HB : Hid (Blk w1 p (evC ⟨t, (c1, c2, c3), y, m, (k1, k2, k3), o, la, lr, nd, nt1⟩ va vr) 47) := B1
  have Hb : Hid (Below w.heap.size w w1) := b1
  obtain ⟨a0, a1, a2, a3, a4, a5, a6, a7, a8, a9, a10, a11, a12, a13⟩ := ev_cells B1
  clear hw1 B1 b1
  dsimp only at a0 a1 a2 a3 a4 a5 a6 a7 a8 a9 a10 a11 a12 a13 ⊢
  simp only [evC]
  simp only [evC] at hY hN
  have hT := fun w => takes_any 0 c1 c2 c3 w HZ.out.1
  rw [takesB_n (by decide)] at hT
  have e5 : nV (c1, c2, c3) = nameB c1 c2 c3 := rfl
  rw [e5]
  generalize nameB c1 c2 c3 = n1 at *
  have HY : Hid (∀ w', Below w.heap.size w w' → _) := hY
  clear hY e5
  by_cases ht0 : 0 ≤ t
  · rw [decide_eq_true ht0]
    cases n1
    · clear hN HY
      go_enter Tryd.func32, Tryd.ntmps32
      go_wp2_with fail
      refine (hT _).mono ?_
      rintro e w2 ⟨rfl, b2⟩
      go_wp2_with fail
      go_ret
      exact ⟨rfl, by first | exact below_next Hb.out b2 | (rw [← hp]; exact below_next Hb.out b2)⟩
    cases nb
    · clear HY
      go_enter Tryd.func32, Tryd.ntmps32
      go_wp2_with fail
      refine (hT _).mono ?_
      rintro e w2 ⟨rfl, b2⟩
      obtain ⟨a0, a1, a2, a3, a4, a5, a6, a7, a8, a9, a10, a11, a12, a13⟩ := ev_cells (HB.out.later b2)
      simp only at a0 a1 a2 a3 a4 a5 a6 a7 a8 a9 a10 a11 a12 a13
      go_wp2_with fail
      refine (hN _).mono ?_
      rintro e w3 ⟨rfl, b3⟩
      go_wp2_with fail
      go_ret
      exact ⟨rfl, by first | exact below_next (below_next Hb.out b2) b3 | (rw [← hp]; exact below_next (below_next Hb.out b2) b3)⟩
    · go_enter Tryd.func32, Tryd.ntmps32
      go_wp2_with fail
      refine (hT _).mono ?_
      rintro e w2 ⟨rfl, b2⟩
      obtain ⟨a0, a1, a2, a3, a4, a5, a6, a7, a8, a9, a10, a11, a12, a13⟩ := ev_cells (HB.out.later b2)
      simp only at a0 a1 a2 a3 a4 a5 a6 a7 a8 a9 a10 a11 a12 a13
      go_wp2_with fail
      refine (hN _).mono ?_
      rintro e w3 ⟨rfl, b3⟩
      obtain ⟨a0, a1, a2, a3, a4, a5, a6, a7, a8, a9, a10, a11, a12, a13⟩ := ev_cells ((HB.out.later b2).later b3)
      simp only at a0 a1 a2 a3 a4 a5 a6 a7 a8 a9 a10 a11 a12 a13
      have bel := below_next (below_next Hb.out b2) b3
      have HBel : Hid (Below w.heap.size w w3) := bel
      clear bel b2 b3
      go_wp2_with fail
      refine (HY.out _ HBel.out).mono ?_
      rintro e w4 ⟨rfl, b4⟩
      go_wp2_with fail
      go_ret
      exact ⟨ret_b (by simp; first | done | (rw [Bool.eq_iff_iff]; simp)), by first | exact below_next HBel.out b4 | (rw [← hp]; exact below_next HBel.out b4)⟩
  · rw [decide_eq_false ht0]
    clear hN HY hT
    go_enter Tryd.func32, Tryd.ntmps32
    go_wp2_with fail
    go_ret
    exact ⟨rfl, by first | exact Hb.out | (rw [← hp]; exact Hb.out)⟩
end Go.Proofs.YtgdegbmakbfaaaaDoor
