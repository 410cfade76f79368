/- The walk of EventParses. Conditions: the tables lie in memory. -/
import Derived.Test.YtdboamfdipeapaaDoorEV
import Derived.Test.YtdboamfdipeapaaDoorEU
import Derived.Test.YtdboamfdipeapaaDoorEK
namespace Go.Proofs.YtdboamfdipeapaaDoor
open Go.RowKit Go.PlainAid Ln
set_option linter.unusedVariables false
set_option linter.unusedSimpArgs false

set_option maxRecDepth 100000 in
set_option maxHeartbeats 4000000 in
theorem law_eparses (s : ByteArray) (w : World) (ht : Tbs w) : Calls Tryd.prog 3 #[.string s] w fun e w' => e = .returned (.bool true) ∧ Below w.heap.size w w' := by
  have HT : Hid (Tbs w) := ht
  clear ht
  by_cases hz : 1000 < s.size
  · have hz' : (1000 : Int) < (s.size : Int) := by omega
    go_enter Tryd.func3, Tryd.ntmps3
    go_wp2_with fail
    refine (wakes_ev _ HT.out).mono ?_
    rintro e w1 ⟨rfl, b1⟩
    go_wp2
    go_ret
    exact ⟨rfl, b1⟩
  have hz' : ¬ (1000 : Int) < (s.size : Int) := by omega
  have h1 := fun w h => eparse_any s w h (by omega)
  have h2 := fun w => rparse_ev s w (by omega)
  unfold RParse at h1 h2
  have hl := pE_len (tx s) (by rw [tx_len]; omega)
  generalize pE (tx s) = pp at *
  obtain ⟨X, F⟩ := pp
  simp only at h1 h2 hl
  go_enter Tryd.func3, Tryd.ntmps3
  go_wp2_with fail
  refine (wakes_ev _ HT.out).mono ?_
  rintro e w0 ⟨rfl, b0⟩
  go_wp2_with fail
  refine (h1 _ (HT.out.later b0)).mono ?_
  rintro e w1 ⟨va, vr, rfl, vax, vrx, b1⟩
  have B1 : Blk (w1.alloc (.cells #[.int .i64 0, .int .i64 0, .int .i64 0, .string ⟨#[]⟩, .int .i64 0, .int .i64 0, .int .i64 0, .int .i64 0, .string ⟨#[]⟩, .int .i64 0, .slice none 0 0, .slice none 0 0, .bool false, .string ⟨#[]⟩] 27)) w1.heap.size (evC noEv nilS nilS) 27 := Blk.new w1 (evC noEv nilS nilS) 27
  have b01 := below_next b0 b1
  have bel1 : Below w.heap.size w (w1.alloc (.cells #[.int .i64 0, .int .i64 0, .int .i64 0, .string ⟨#[]⟩, .int .i64 0, .int .i64 0, .int .i64 0, .int .i64 0, .string ⟨#[]⟩, .int .i64 0, .slice none 0 0, .slice none 0 0, .bool false, .string ⟨#[]⟩] 27)) := below_more b01 _
  have lw1 : w.heap.size ≤ w1.heap.size := b01.size
  have Va1 : OwnV (w1.alloc (.cells #[.int .i64 0, .int .i64 0, .int .i64 0, .string ⟨#[]⟩, .int .i64 0, .int .i64 0, .int .i64 0, .int .i64 0, .string ⟨#[]⟩, .int .i64 0, .slice none 0 0, .slice none 0 0, .bool false, .string ⟨#[]⟩] 27)) w0.heap.size va X.a := vax.later (below_more (Below.refl _ _) _)
  have Vr1 : OwnV (w1.alloc (.cells #[.int .i64 0, .int .i64 0, .int .i64 0, .string ⟨#[]⟩, .int .i64 0, .int .i64 0, .int .i64 0, .int .i64 0, .string ⟨#[]⟩, .int .i64 0, .slice none 0 0, .slice none 0 0, .bool false, .string ⟨#[]⟩] 27)) w0.heap.size vr X.r := vrx.later (below_more (Below.refl _ _) _)
  clear b0 b1 b01
  go_wp2_with ((with_reducible refine wp_storeB 27 (.tmp 3) (.tmp 15) w1.heap.size 0 (evC X va vr) (evC noEv nilS nilS) 27 ?_ ?_ (evC_one _ (OwnV.one vax) (OwnV.one vrx)) ?_ ?_ ?_ B1 ?_); (exact sizeE); (exact (show 0 + 14 ≤ 14 by decide)); (exact ⟨rfl, rfl⟩); (exact rfl); (exact rfl); (intro z1 B11 B1o); (replace B11 : Blk z1 w1.heap.size (evC X va vr) 27 := B11); (have bz1 := below_oth bel1 B1o lw1 lw1 bel1.size); (have Va2 := OwnV.oth Va1 B1o B1 (by decide)); (have Vr2 := OwnV.oth Vr1 B1o B1 (by decide)); clear B1 bel1 B1o Va1 Vr1 vax vrx)
  refine (h2 _).mono ?_
  rintro e w2 ⟨ua, ur, rfl, uax, urx, b2⟩
  have B2 : Blk (w2.alloc (.cells #[.int .i64 0, .int .i64 0, .int .i64 0, .string ⟨#[]⟩, .int .i64 0, .int .i64 0, .int .i64 0, .int .i64 0, .string ⟨#[]⟩, .int .i64 0, .slice none 0 0, .slice none 0 0, .bool false, .string ⟨#[]⟩] 27)) w2.heap.size (evC noEv nilS nilS) 27 := Blk.new w2 (evC noEv nilS nilS) 27
  have C1 : Blk (w2.alloc (.cells #[.int .i64 0, .int .i64 0, .int .i64 0, .string ⟨#[]⟩, .int .i64 0, .int .i64 0, .int .i64 0, .int .i64 0, .string ⟨#[]⟩, .int .i64 0, .slice none 0 0, .slice none 0 0, .bool false, .string ⟨#[]⟩] 27)) w1.heap.size (evC X va vr) 27 := (B11.later b2).alloc _
  have hlt := (B11.later b2).lt
  have bel2 : Below w.heap.size w (w2.alloc (.cells #[.int .i64 0, .int .i64 0, .int .i64 0, .string ⟨#[]⟩, .int .i64 0, .int .i64 0, .int .i64 0, .int .i64 0, .string ⟨#[]⟩, .int .i64 0, .slice none 0 0, .slice none 0 0, .bool false, .string ⟨#[]⟩] 27)) := below_more (below_next bz1 b2) _
  have lw2 : w.heap.size ≤ w2.heap.size := (below_next bz1 b2).size
  have Va3 : OwnV (w2.alloc (.cells #[.int .i64 0, .int .i64 0, .int .i64 0, .string ⟨#[]⟩, .int .i64 0, .int .i64 0, .int .i64 0, .int .i64 0, .string ⟨#[]⟩, .int .i64 0, .slice none 0 0, .slice none 0 0, .bool false, .string ⟨#[]⟩] 27)) w0.heap.size va X.a := (Va2.later b2).later (below_more (Below.refl _ _) _)
  have Vr3 : OwnV (w2.alloc (.cells #[.int .i64 0, .int .i64 0, .int .i64 0, .string ⟨#[]⟩, .int .i64 0, .int .i64 0, .int .i64 0, .int .i64 0, .string ⟨#[]⟩, .int .i64 0, .slice none 0 0, .slice none 0 0, .bool false, .string ⟨#[]⟩] 27)) w0.heap.size vr X.r := (Vr2.later b2).later (below_more (Below.refl _ _) _)
  have Ua3 : OwnV (w2.alloc (.cells #[.int .i64 0, .int .i64 0, .int .i64 0, .string ⟨#[]⟩, .int .i64 0, .int .i64 0, .int .i64 0, .int .i64 0, .string ⟨#[]⟩, .int .i64 0, .slice none 0 0, .slice none 0 0, .bool false, .string ⟨#[]⟩] 27)) z1.heap.size ua X.a := uax.later (below_more (Below.refl _ _) _)
  have Ur3 : OwnV (w2.alloc (.cells #[.int .i64 0, .int .i64 0, .int .i64 0, .string ⟨#[]⟩, .int .i64 0, .int .i64 0, .int .i64 0, .int .i64 0, .string ⟨#[]⟩, .int .i64 0, .slice none 0 0, .slice none 0 0, .bool false, .string ⟨#[]⟩] 27)) z1.heap.size ur X.r := urx.later (below_more (Below.refl _ _) _)
  clear B11 bz1 b2 Va2 Vr2
  go_wp2_with (first
    | ((with_reducible refine wp_storeB 27 (.tmp 5) (.tmp 20) w2.heap.size 0 (evC X ua ur) (evC noEv nilS nilS) 27 ?_ ?_ (evC_one _ (OwnV.one uax) (OwnV.one urx)) ?_ ?_ ?_ B2 ?_); (exact sizeE); (exact (show 0 + 14 ≤ 14 by decide)); (exact ⟨rfl, rfl⟩); (exact rfl); (exact rfl); (intro z2 B21 B2o); (replace B21 : Blk z2 w2.heap.size (evC X ua ur) 27 := B21); (have C2 := C1.oth B2o (by omega) (by omega)); (have bz2 := below_oth bel2 B2o lw2 lw2 bel2.size); (have Va4 := OwnV.oth Va3 B2o B2 (by decide)); (have Vr4 := OwnV.oth Vr3 B2o B2 (by decide)); (have Ua4 := OwnV.oth Ua3 B2o B2 (by decide)); (have Ur4 := OwnV.oth Ur3 B2o B2 (by decide)); (obtain ⟨a0, a1, a2, a3, a4, a5, a6, a7, a8, a9, a10, a11, a12, a13⟩ := ev_cells C2); (obtain ⟨d0, d1, d2, d3, d4, d5, d6, d7, d8, d9, d10, d11, d12, d13⟩ := ev_cells B21); clear B2 bel2 B2o C1 Va3 Vr3 Ua3 Ur3 uax urx))
  refine (same_ev X va vr ua ur _ (OwnV.vsl Va4) (OwnV.vsl Vr4) (OwnV.vsl Ua4) (OwnV.vsl Ur4) hl.1 hl.2).mono ?_
  rintro e w5 ⟨rfl, b5⟩
  go_wp2_with fail
  go_ret
  exact ⟨rfl, below_next bz2 b5⟩
end Go.Proofs.YtdboamfdipeapaaDoor
