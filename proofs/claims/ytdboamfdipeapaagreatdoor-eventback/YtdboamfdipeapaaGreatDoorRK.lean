/- The walk of EventBack. Conditions: the tables and the event's lists lie in memory; the event's numbers are of 64 bits, its texts at most 2^47 bytes, its lists at most 2^47 values. -/
import Derived.Test.YtdboamfdipeapaaGreatDoorRE
import Derived.Test.YtdboamfdipeapaaGreatDoorRG
import Derived.Test.YtdboamfdipeapaaGreatDoorEK
namespace Go.Proofs.YtdboamfdipeapaaGreatDoor
open Go.RowKit Go.PlainAid Ln
set_option linter.unusedVariables false
set_option linter.unusedSimpArgs false

theorem SmE.len' {x : Ev} (h : SmE x) : x.r.length ≤ 900000 := by have := h.2.2.2.2.1; omega
set_option maxRecDepth 100000 in
set_option maxHeartbeats 8000000 in
theorem law_back_ev (x : Ev) (va vr : Value) (w : World) (ht : Tbs w) (hp : Pt w) (h1 : VSl w va x.a) (h2 : VSl w vr x.r) (hl : LgE x) (hb : bdE x) :
    Calls Tryz.prog 4 #[.agg (evC x va vr).toArray] w fun e w' => e = .returned (.bool true) ∧ Below w.heap.size w w' := by
  obtain ⟨w1, hw1⟩ : ∃ w1, w.alloc (.cells (evC x va vr).toArray 26) = w1 := ⟨_, rfl⟩
  have B1 := Blk.new w (evC x va vr) 26
  rw [hw1] at B1
  have b1 : Below w.heap.size w w1 := by rw [← hw1]; exact below_more (Below.refl _ _) _
  have ea := hw1
  simp only [evC] at ea
  obtain ⟨p, hpp⟩ : ∃ p, w.heap.size = p := ⟨_, rfl⟩
  have Hpp : Hid (w.heap.size = p) := hpp
  rw [hpp] at B1
  have HB1 : Hid (Blk w1 p (evC x va vr) 26) := B1
  have Hb1 : Hid (Below w.heap.size w w1) := b1
  have HT : Hid (Tbs w) := ht
  have HP : Hid (Pt w) := hp
  have H1 : Hid (VSl w va x.a) := h1
  have H2 : Hid (VSl w vr x.r) := h2
  have HL : Hid (LgE x) := hl
  have Hbd : Hid (bdE x) := hb
  clear hw1 B1 b1 ht hp h1 h2 hl hb
  simp only [evC]
  go_enter Tryz.func4, Tryz.ntmps4
  go_wp2_with fail
  refine (wakes_ev _ (HT.out.later Hb1.out)).mono ?_
  rintro e w2 ⟨rfl, b2⟩
  have HB2 : Hid (Blk w2 p (evC x va vr) 26) := HB1.out.later b2
  have Hb2 : Hid (Below w.heap.size w w2) := below_next Hb1.out b2
  clear b2 ea hpp
  obtain ⟨a0, a1, a2, a3, a4, a5, a6, a7, a8, a9, a10, a11, a12, a13⟩ := ev_cells HB2.out
  go_wp2_with fail
  refine (rgreat_ev x va vr _ (H1.out.later Hb2.out) (H2.out.later Hb2.out) HL.out).mono ?_
  rintro e w3 ⟨b, rfl, hsm, b3⟩
  have HB3 : Hid (Blk w3 p (evC x va vr) 26) := HB2.out.later b3
  have Hb3 : Hid (Below w.heap.size w w3) := below_next Hb2.out b3
  clear b3 a0 a1 a2 a3 a4 a5 a6 a7 a8 a9 a10 a11 a12 a13
  obtain ⟨a0, a1, a2, a3, a4, a5, a6, a7, a8, a9, a10, a11, a12, a13⟩ := ev_cells HB3.out
  cases b
  case true =>
    go_wp2_with fail
    go_ret
    exact ⟨rfl, Hb3.out⟩
  have HS : Hid (SmE x) := hsm rfl
  clear hsm
  go_wp2_with fail
  refine (rright_ev x va vr _ (H1.out.later Hb3.out) (H2.out.later Hb3.out) HS.out.sz).mono ?_
  rintro e w4 ⟨rfl, b4⟩
  have HB4 : Hid (Blk w4 p (evC x va vr) 26) := HB3.out.later b4
  have Hb4 : Hid (Below w.heap.size w w4) := below_next Hb3.out b4
  clear b4 a0 a1 a2 a3 a4 a5 a6 a7 a8 a9 a10 a11 a12 a13
  obtain ⟨a0, a1, a2, a3, a4, a5, a6, a7, a8, a9, a10, a11, a12, a13⟩ := ev_cells HB4.out
  cases hr : rightE x
  · go_wp2_with fail
    go_ret
    exact ⟨rfl, Hb4.out⟩
  have HE : Hid (pE (lineE x) = (x, 0)) := read_line hr Hbd.out
  have HZ : Hid ((bs (lineE x)).size ≤ 900000) := line_len hr Hbd.out (by have := HS.out.2.2.2.2.1; omega)
  have HAL : Hid (x.a.length ≤ 1000000 ∧ x.r.length ≤ 1000000) := ⟨HS.out.sz.2.2.2.2.1, HS.out.sz.2.2.2.2.2⟩
  have hPr := fun w' (hb : Below w.heap.size w w') => eprint_any x va vr w' (HT.out.later hb) (HP.out.later hb) (H1.out.later hb) (H2.out.later hb) HS.out.sz Hbd.out HS.out.len'
  rw [hr, if_pos rfl] at hPr
  have hPa := fun w' (h : Tbs w') => eparse_any (bs (lineE x)) w' h HZ.out
  unfold RParse at hPa
  rw [tx_bs, HE.out] at hPa
  simp only at hPa
  have HPr : Hid (∀ w', Below w.heap.size w w' → _) := hPr
  have HPa : Hid (∀ w', Tbs w' → _) := hPa
  clear hPr hPa
  generalize bs (lineE x) = s at *
  clear hr
  go_wp2_with fail
  refine (HPr.out _ Hb4.out).mono ?_
  rintro e w5 ⟨rfl, b5⟩
  have HB5 : Hid (Blk w5 p (evC x va vr) 26) := HB4.out.later b5
  have Hb5 : Hid (Below w.heap.size w w5) := below_next Hb4.out b5
  clear b5 a0 a1 a2 a3 a4 a5 a6 a7 a8 a9 a10 a11 a12 a13
  go_wp2_with fail
  refine (HPa.out _ (HT.out.later Hb5.out)).mono ?_
  rintro e w6 ⟨ua, ur, rfl, uax, urx, b6⟩
  have C1 : Blk (w6.alloc (.cells #[.int .i64 0, .int .i64 0, .int .i64 0, .string ⟨#[]⟩, .int .i64 0, .int .i64 0, .int .i64 0, .int .i64 0, .string ⟨#[]⟩, .int .i64 0, .slice none 0 0, .slice none 0 0, .bool false, .string ⟨#[]⟩] 26)) w6.heap.size (evC noEv nilS nilS) 26 := Blk.new w6 (evC noEv nilS nilS) 26
  have HB6 : Hid (Blk (w6.alloc (.cells #[.int .i64 0, .int .i64 0, .int .i64 0, .string ⟨#[]⟩, .int .i64 0, .int .i64 0, .int .i64 0, .int .i64 0, .string ⟨#[]⟩, .int .i64 0, .slice none 0 0, .slice none 0 0, .bool false, .string ⟨#[]⟩] 26)) p (evC x va vr) 26) := (HB5.out.later b6).alloc _
  have hlt : p < w6.heap.size := (HB5.out.later b6).lt
  have Hb6 : Hid (Below w.heap.size w (w6.alloc (.cells #[.int .i64 0, .int .i64 0, .int .i64 0, .string ⟨#[]⟩, .int .i64 0, .int .i64 0, .int .i64 0, .int .i64 0, .string ⟨#[]⟩, .int .i64 0, .slice none 0 0, .slice none 0 0, .bool false, .string ⟨#[]⟩] 26))) := below_more (below_next Hb5.out b6) _
  have lw6 : Hid (w.heap.size ≤ w6.heap.size) := (below_next Hb5.out b6).size
  have Ua1 : OwnV (w6.alloc (.cells #[.int .i64 0, .int .i64 0, .int .i64 0, .string ⟨#[]⟩, .int .i64 0, .int .i64 0, .int .i64 0, .int .i64 0, .string ⟨#[]⟩, .int .i64 0, .slice none 0 0, .slice none 0 0, .bool false, .string ⟨#[]⟩] 26)) w5.heap.size ua x.a := uax.later (below_more (Below.refl _ _) _)
  have Ur1 : OwnV (w6.alloc (.cells #[.int .i64 0, .int .i64 0, .int .i64 0, .string ⟨#[]⟩, .int .i64 0, .int .i64 0, .int .i64 0, .int .i64 0, .string ⟨#[]⟩, .int .i64 0, .slice none 0 0, .slice none 0 0, .bool false, .string ⟨#[]⟩] 26)) w5.heap.size ur x.r := urx.later (below_more (Below.refl _ _) _)
  clear b6
  go_wp2_with ((with_reducible refine wp_storeB 26 (.tmp 3) (.tmp 18) w6.heap.size 0 (evC x ua ur) (evC noEv nilS nilS) 26 ?_ ?_ (evC_one _ (OwnV.one uax) (OwnV.one urx)) ?_ ?_ ?_ C1 ?_); (exact sizeE); (exact (show 0 + 14 ≤ 14 by decide)); (exact ⟨rfl, rfl⟩); (exact rfl); (exact rfl); (intro z1 D1 o1); (replace D1 : Blk z1 w6.heap.size (evC x ua ur) 26 := D1); (have E1 := HB6.out.oth o1 (by omega) (by omega)); (have Hz1 : Hid (Below w.heap.size w z1) := below_oth Hb6.out o1 lw6.out lw6.out Hb6.out.size); (have Ua2 := OwnV.oth Ua1 o1 C1 (by decide)); (have Ur2 := OwnV.oth Ur1 o1 C1 (by decide)); clear C1 o1 Ua1 Ur1 uax urx; (obtain ⟨a0, a1, a2, a3, a4, a5, a6, a7, a8, a9, a10, a11, a12, a13⟩ := ev_cells E1); (obtain ⟨d0, d1, d2, d3, d4, d5, d6, d7, d8, d9, d10, d11, d12, d13⟩ := ev_cells D1))
  refine (same_ev x va vr ua ur _ (H1.out.later Hz1.out) (H2.out.later Hz1.out) (OwnV.vsl Ua2) (OwnV.vsl Ur2) HAL.out.1 HAL.out.2).mono ?_
  rintro e w7 ⟨rfl, b7⟩
  go_wp2_with fail
  go_ret
  exact ⟨rfl, below_next Hz1.out b7⟩
end Go.Proofs.YtdboamfdipeapaaGreatDoor
