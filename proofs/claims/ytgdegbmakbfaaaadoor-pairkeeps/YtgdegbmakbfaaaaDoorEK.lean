/- The contract of the document's Same at two events that are one. Conditions: their lists lie in memory, at most a million values each. -/
import Derived.Test.YtgdegbmakbfaaaaDoorBA
import Derived.Test.YtgdegbmakbfaaaaDoorBT
namespace Go.Proofs.YtgdegbmakbfaaaaDoor
open Go.RowKit Go.PlainAid Ln
set_option linter.unusedVariables false
set_option linter.unusedSimpArgs false

theorem eqvB_self (k n : Int) (s : ByteArray) : eqvB k n s k n s = true := by simp [eqvB]
set_option maxRecDepth 100000 in
set_option maxHeartbeats 4000000 in
theorem same_ev (x : Ev) (va vr ua ur : Value) (w : World) (h1 : VSl w va x.a) (h2 : VSl w vr x.r) (h3 : VSl w ua x.a) (h4 : VSl w ur x.r) (ha : x.a.length ≤ 1000000) (hr : x.r.length ≤ 1000000) :
    Calls Tryd.prog 17 #[.agg (evC x va vr).toArray, .agg (evC x ua ur).toArray] w fun e w' => e = .returned (.bool true) ∧ Below w.heap.size w w' := by
  obtain ⟨t, ⟨c1, c2, c3⟩, y, m, ⟨k1, k2, k3⟩, o, la, lr, nd, nt1⟩ := x
  simp only at h1 h2 h3 h4 ha hr
  obtain ⟨w1, hw1⟩ : ∃ w1, w.alloc (.cells (evC ⟨t, (c1, c2, c3), y, m, (k1, k2, k3), o, la, lr, nd, nt1⟩ va vr).toArray 47) = w1 := ⟨_, rfl⟩
  obtain ⟨w2, hw2⟩ : ∃ w2, w1.alloc (.cells (evC ⟨t, (c1, c2, c3), y, m, (k1, k2, k3), o, la, lr, nd, nt1⟩ ua ur).toArray 47) = w2 := ⟨_, rfl⟩
  have B1 := Blk.new w (evC ⟨t, (c1, c2, c3), y, m, (k1, k2, k3), o, la, lr, nd, nt1⟩ va vr) 47
  have B2 := Blk.new w1 (evC ⟨t, (c1, c2, c3), y, m, (k1, k2, k3), o, la, lr, nd, nt1⟩ ua ur) 47
  rw [hw1] at B1
  have B3 : Blk w2 w.heap.size (evC ⟨t, (c1, c2, c3), y, m, (k1, k2, k3), o, la, lr, nd, nt1⟩ va vr) 47 := by rw [← hw2]; exact B1.alloc _
  rw [hw2] at B2
  have b1 : Below w.heap.size w w1 := by rw [← hw1]; exact below_more (Below.refl _ _) _
  have b2 : Below w.heap.size w w2 := by rw [← hw2]; exact below_more b1 _
  obtain ⟨p, hp⟩ : ∃ p, w.heap.size = p := ⟨_, rfl⟩
  have HP : Hid (w.heap.size = p) := hp
  have H1 : Hid (VSl w va la) := h1
  have H2 : Hid (VSl w vr lr) := h2
  have H3 : Hid (VSl w ua la) := h3
  have H4 : Hid (VSl w ur lr) := h4
  have HB2 : Hid (Below w.heap.size w w2) := b2
  rw [hp] at B3
  have he1 : ∀ w, (binOp .eql 38 (.agg #[.int .i64 c1, .int .i64 c2, .string c3]) (.agg #[.int .i64 c1, .int .i64 c2, .string c3])).run Tryd.prog w = .ok (.bool true) w := fun w => by rw [eqV, eqvB_self]
  have he2 : ∀ w, (binOp .eql 38 (.agg #[.int .i64 k1, .int .i64 k2, .string k3]) (.agg #[.int .i64 k1, .int .i64 k2, .string k3])).run Tryd.prog w = .ok (.bool true) w := fun w => by rw [eqV, eqvB_self]
  have hg := eqgV
  have ea : w.alloc (.cells #[.int .i64 t, .int .i64 c1, .int .i64 c2, .string c3, .int .i64 y, .int .i64 m, .int .i64 k1, .int .i64 k2, .string k3, .int .i64 o, va, vr, .bool nd, .string nt1] 47) = w1 := hw1
  have eb : w1.alloc (.cells #[.int .i64 t, .int .i64 c1, .int .i64 c2, .string c3, .int .i64 y, .int .i64 m, .int .i64 k1, .int .i64 k2, .string k3, .int .i64 o, ua, ur, .bool nd, .string nt1] 47) = w2 := hw2
  have FACTS : ∀ (wz : World) (q : Nat) (fa fr : Value), Blk wz q (evC ⟨t, (c1, c2, c3), y, m, (k1, k2, k3), o, la, lr, nd, nt1⟩ fa fr) 47 → wz.cell? ⟨q, 0, none⟩ = some (.int .i64 t) ∧ wz.cell? ⟨q, 1, none⟩ = some (.int .i64 c1) ∧ wz.cell? ⟨q, 2, none⟩ = some (.int .i64 c2) ∧ wz.cell? ⟨q, 3, none⟩ = some (.string c3) ∧ wz.cell? ⟨q, 4, none⟩ = some (.int .i64 y) ∧ wz.cell? ⟨q, 5, none⟩ = some (.int .i64 m) ∧ wz.cell? ⟨q, 6, none⟩ = some (.int .i64 k1) ∧ wz.cell? ⟨q, 7, none⟩ = some (.int .i64 k2) ∧ wz.cell? ⟨q, 8, none⟩ = some (.string k3) ∧ wz.cell? ⟨q, 9, none⟩ = some (.int .i64 o) ∧ wz.cell? ⟨q, 10, none⟩ = some fa ∧ wz.cell? ⟨q, 11, none⟩ = some fr ∧ wz.cell? ⟨q, 12, none⟩ = some (.bool nd) ∧ wz.cell? ⟨q, 13, none⟩ = some (.string nt1) :=
    fun wz q fa fr h => ⟨h.cell 0 _ rfl, h.cell 1 _ rfl, h.cell 2 _ rfl, h.cell 3 _ rfl, h.cell 4 _ rfl, h.cell 5 _ rfl, h.cell 6 _ rfl, h.cell 7 _ rfl, h.cell 8 _ rfl, h.cell 9 _ rfl, h.cell 10 _ rfl, h.cell 11 _ rfl, h.cell 12 _ rfl, h.cell 13 _ rfl⟩
  have HF : Hid (∀ (wz : World) (q : Nat) (fa fr : Value), Blk wz q (evC ⟨t, (c1, c2, c3), y, m, (k1, k2, k3), o, la, lr, nd, nt1⟩ fa fr) 47 → _) := FACTS
  obtain ⟨a0, a1, a2, a3, a4, a5, a6, a7, a8, a9, a10, a11, a12, a13⟩ := HF.out w2 _ _ _ B3
  obtain ⟨d0, d1, d2, d3, d4, d5, d6, d7, d8, d9, d10, d11, d12, d13⟩ := HF.out w2 _ _ _ B2
  have hea := HB2.out
  clear h1 h2 h3 h4 FACTS B1 hw1 hw2 b1 b2
  simp only [evC]
  go_enter Tryd.func17, Tryd.ntmps17
  go_wp2_with fail
  refine (same_any _ _ la la _ (H1.out.later HB2.out) (H3.out.later HB2.out) ha).mono ?_
  rintro e w3 ⟨rfl, b3⟩
  rw [sameL_self]
  obtain ⟨a0, a1, a2, a3, a4, a5, a6, a7, a8, a9, a10, a11, a12, a13⟩ := HF.out w3 _ _ _ (B3.later b3)
  obtain ⟨d0, d1, d2, d3, d4, d5, d6, d7, d8, d9, d10, d11, d12, d13⟩ := HF.out w3 _ _ _ (B2.later b3)
  have b4 := below_next HB2.out b3
  go_wp2_with fail
  refine (same_any _ _ lr lr _ (H2.out.later b4) (H4.out.later b4) hr).mono ?_
  rintro e w4 ⟨rfl, b5⟩
  rw [sameL_self]
  obtain ⟨a0, a1, a2, a3, a4, a5, a6, a7, a8, a9, a10, a11, a12, a13⟩ := HF.out w4 _ _ _ ((B3.later b3).later b5)
  obtain ⟨d0, d1, d2, d3, d4, d5, d6, d7, d8, d9, d10, d11, d12, d13⟩ := HF.out w4 _ _ _ ((B2.later b3).later b5)
  have b6 := below_next b4 b5
  have HB6 : Hid (Below w.heap.size w w4) := b6
  clear b3 b4 b5 b6 B2 B3
  go_wp2_with fail
  go_ret
  exact ⟨rfl, HB6.out⟩
end Go.Proofs.YtgdegbmakbfaaaaDoor
