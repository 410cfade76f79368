/- An event's cells; how many values an event of a line has; the document's examples. Conditions: the tables lie in memory. -/
import Derived.Test.YtdboamfdipeapaaGreatDoorEL
namespace Go.Proofs.YtdboamfdipeapaaGreatDoor
open Go.RowKit Go.PlainAid Ln
set_option linter.unusedVariables false
set_option linter.unusedSimpArgs false

theorem ev_cells {wz : World} {q : Nat} {x : Ev} {fa fr : Value} (h : Blk wz q (evC x fa fr) 26) : wz.cell? ⟨q, 0, none⟩ = some (.int .i64 x.t) ∧ wz.cell? ⟨q, 1, none⟩ = some (.int .i64 x.c.1) ∧ wz.cell? ⟨q, 2, none⟩ = some (.int .i64 x.c.2.1) ∧ wz.cell? ⟨q, 3, none⟩ = some (.string x.c.2.2) ∧ wz.cell? ⟨q, 4, none⟩ = some (.int .i64 x.y) ∧ wz.cell? ⟨q, 5, none⟩ = some (.int .i64 x.m) ∧ wz.cell? ⟨q, 6, none⟩ = some (.int .i64 x.k.1) ∧ wz.cell? ⟨q, 7, none⟩ = some (.int .i64 x.k.2.1) ∧ wz.cell? ⟨q, 8, none⟩ = some (.string x.k.2.2) ∧ wz.cell? ⟨q, 9, none⟩ = some (.int .i64 x.o) ∧ wz.cell? ⟨q, 10, none⟩ = some fa ∧ wz.cell? ⟨q, 11, none⟩ = some fr ∧ wz.cell? ⟨q, 12, none⟩ = some (.bool x.nd) ∧ wz.cell? ⟨q, 13, none⟩ = some (.string x.n) :=
  ⟨h.cell 0 _ rfl, h.cell 1 _ rfl, h.cell 2 _ rfl, h.cell 3 _ rfl, h.cell 4 _ rfl, h.cell 5 _ rfl, h.cell 6 _ rfl, h.cell 7 _ rfl, h.cell 8 _ rfl, h.cell 9 _ rfl, h.cell 10 _ rfl, h.cell 11 _ rfl, h.cell 12 _ rfl, h.cell 13 _ rfl⟩
theorem pE_len (l : List UInt8) (h : l.length ≤ 900000) : (pE l).1.a.length ≤ 1000000 ∧ (pE l).1.r.length ≤ 1000000 := by
  have h1 := pcs_len 32 (noteR l).1
  have h2 := note_le l
  unfold pE
  split
  · show (eEv _).a.length ≤ _ ∧ (eEv _).r.length ≤ _
    have h3 := cD_len (l3 (pcs 32 (noteR l).1))
    unfold eEv
    split
    · refine ⟨?_, Nat.zero_le _⟩
      show (aV _ _).length ≤ _
      rw [aV_len]; omega
    · split
      · refine ⟨Nat.zero_le _, ?_⟩
        show (aV _ _).length ≤ _
        rw [aV_len, l3_eq, List.length_drop]; omega
      · exact ⟨Nat.zero_le _, Nat.zero_le _⟩
  · split <;> exact ⟨Nat.zero_le _, Nat.zero_le _⟩
theorem ex_a : (pE [53, 32, 97, 32, 111, 107, 32, 51]).2 = 0 ∧ (pE [53, 32, 97, 32, 111, 107, 32, 51]).1.y = 2 ∧ (pE [53, 32, 97, 32, 111, 107, 32, 51]).1.r.length = 1 := by decide +kernel
theorem ex_b : (pE [53, 32, 97, 32, 100, 111, 110, 101]).2 = 2 := by decide +kernel
theorem ex_c : (pE [45, 53, 32, 97, 32, 111, 107]).2 = 2 := by decide +kernel
theorem OwnV.one {w : World} {B : Nat} {v : Value} {xs : List Val} (h : OwnV w B v xs) : v.oneCell' = true := by obtain ⟨a1, c1, e1⟩ := h.form; rw [e1]; rfl
set_option maxRecDepth 100000 in
set_option maxHeartbeats 4000000 in
theorem wakes_ev (w : World) (ht : Tbs w) : Calls Tryz.prog 6 #[] w fun e w' => e = .returned (.bool true) ∧ Below w.heap.size w w' := by
  have HT : Hid (Tbs w) := ht
  have h1 := fun w h => eparse_any ⟨#[53, 32, 97, 32, 111, 107, 32, 51]⟩ w h (by decide)
  have h2 := fun w h => eparse_any ⟨#[53, 32, 97, 32, 100, 111, 110, 101]⟩ w h (by decide)
  have h3 := fun w h => eparse_any ⟨#[45, 53, 32, 97, 32, 111, 107]⟩ w h (by decide)
  change ∀ w, Tbs w → Calls _ _ _ w fun e w' => RParse w [53, 32, 97, 32, 111, 107, 32, 51] e w' at h1
  change ∀ w, Tbs w → Calls _ _ _ w fun e w' => RParse w [53, 32, 97, 32, 100, 111, 110, 101] e w' at h2
  change ∀ w, Tbs w → Calls _ _ _ w fun e w' => RParse w [45, 53, 32, 97, 32, 111, 107] e w' at h3
  unfold RParse at h1 h2 h3
  obtain ⟨ea, eb, ec⟩ := ex_a
  rw [ea] at h1
  rw [ex_b] at h2
  rw [ex_c] at h3
  generalize (pE [53, 32, 97, 32, 111, 107, 32, 51]).1 = X at *
  generalize (pE [53, 32, 97, 32, 100, 111, 110, 101]).1 = Y at *
  generalize (pE [45, 53, 32, 97, 32, 111, 107]).1 = Z at *
  clear ea ht
  go_enter Tryz.func6, Tryz.ntmps6
  go_wp2_with fail
  refine (h1 _ HT.out).mono ?_
  rintro e w1 ⟨va, vr, rfl, vax, vrx, b1⟩
  have B1 : Blk (w1.alloc (.cells #[.int .i64 0, .int .i64 0, .int .i64 0, .string ⟨#[]⟩, .int .i64 0, .int .i64 0, .int .i64 0, .int .i64 0, .string ⟨#[]⟩, .int .i64 0, .slice none 0 0, .slice none 0 0, .bool false, .string ⟨#[]⟩] 26)) w1.heap.size (evC noEv nilS nilS) 26 := Blk.new w1 (evC noEv nilS nilS) 26
  have bel1 : Below w.heap.size w (w1.alloc (.cells #[.int .i64 0, .int .i64 0, .int .i64 0, .string ⟨#[]⟩, .int .i64 0, .int .i64 0, .int .i64 0, .int .i64 0, .string ⟨#[]⟩, .int .i64 0, .slice none 0 0, .slice none 0 0, .bool false, .string ⟨#[]⟩] 26)) := below_more b1 _
  have lw1 : w.heap.size ≤ w1.heap.size := b1.size
  go_wp2_with ((with_reducible refine wp_storeB 26 (.tmp 1) (.tmp 9) w1.heap.size 0 (evC X va vr) (evC noEv nilS nilS) 26 ?_ ?_ (evC_one _ (OwnV.one vax) (OwnV.one vrx)) ?_ ?_ ?_ B1 ?_); (exact sizeE); (exact (show 0 + 14 ≤ 14 by decide)); (exact ⟨rfl, rfl⟩); (exact rfl); (exact rfl); (intro z1 B11 B1o); (replace B11 : Blk z1 w1.heap.size (evC X va vr) 26 := B11); (have bz1 := below_oth bel1 B1o lw1 lw1 bel1.size); clear B1 bel1 B1o)
  refine (h2 _ (HT.out.later bz1)).mono ?_
  rintro e w2 ⟨ua, ur, rfl, uax, urx, b2⟩
  have B2 : Blk (w2.alloc (.cells #[.int .i64 0, .int .i64 0, .int .i64 0, .string ⟨#[]⟩, .int .i64 0, .int .i64 0, .int .i64 0, .int .i64 0, .string ⟨#[]⟩, .int .i64 0, .slice none 0 0, .slice none 0 0, .bool false, .string ⟨#[]⟩] 26)) w2.heap.size (evC noEv nilS nilS) 26 := Blk.new w2 (evC noEv nilS nilS) 26
  have C1 : Blk (w2.alloc (.cells #[.int .i64 0, .int .i64 0, .int .i64 0, .string ⟨#[]⟩, .int .i64 0, .int .i64 0, .int .i64 0, .int .i64 0, .string ⟨#[]⟩, .int .i64 0, .slice none 0 0, .slice none 0 0, .bool false, .string ⟨#[]⟩] 26)) w1.heap.size (evC X va vr) 26 := (B11.later b2).alloc _
  have hlt := (B11.later b2).lt
  have bel2 : Below w.heap.size w (w2.alloc (.cells #[.int .i64 0, .int .i64 0, .int .i64 0, .string ⟨#[]⟩, .int .i64 0, .int .i64 0, .int .i64 0, .int .i64 0, .string ⟨#[]⟩, .int .i64 0, .slice none 0 0, .slice none 0 0, .bool false, .string ⟨#[]⟩] 26)) := below_more (below_next bz1 b2) _
  have lw2 : w.heap.size ≤ w2.heap.size := (below_next bz1 b2).size
  clear B11 bz1 b2
  go_wp2_with ((with_reducible refine wp_storeB 26 (.tmp 3) (.tmp 13) w2.heap.size 0 (evC Y ua ur) (evC noEv nilS nilS) 26 ?_ ?_ (evC_one _ (OwnV.one uax) (OwnV.one urx)) ?_ ?_ ?_ B2 ?_); (exact sizeE); (exact (show 0 + 14 ≤ 14 by decide)); (exact ⟨rfl, rfl⟩); (exact rfl); (exact rfl); (intro z2 B21 B2o); (have C2 := C1.oth B2o (by omega) (by omega)); (have bz2 := below_oth bel2 B2o lw2 lw2 bel2.size); clear B2 B21 bel2 B2o C1)
  refine (h3 _ (HT.out.later bz2)).mono ?_
  rintro e w3 ⟨ta, tr, rfl, tax, trx, b3⟩
  have B3 : Blk (w3.alloc (.cells #[.int .i64 0, .int .i64 0, .int .i64 0, .string ⟨#[]⟩, .int .i64 0, .int .i64 0, .int .i64 0, .int .i64 0, .string ⟨#[]⟩, .int .i64 0, .slice none 0 0, .slice none 0 0, .bool false, .string ⟨#[]⟩] 26)) w3.heap.size (evC noEv nilS nilS) 26 := Blk.new w3 (evC noEv nilS nilS) 26
  have C3 : Blk (w3.alloc (.cells #[.int .i64 0, .int .i64 0, .int .i64 0, .string ⟨#[]⟩, .int .i64 0, .int .i64 0, .int .i64 0, .int .i64 0, .string ⟨#[]⟩, .int .i64 0, .slice none 0 0, .slice none 0 0, .bool false, .string ⟨#[]⟩] 26)) w1.heap.size (evC X va vr) 26 := (C2.later b3).alloc _
  have hlt3 := (C2.later b3).lt
  have bel3 : Below w.heap.size w (w3.alloc (.cells #[.int .i64 0, .int .i64 0, .int .i64 0, .string ⟨#[]⟩, .int .i64 0, .int .i64 0, .int .i64 0, .int .i64 0, .string ⟨#[]⟩, .int .i64 0, .slice none 0 0, .slice none 0 0, .bool false, .string ⟨#[]⟩] 26)) := below_more (below_next bz2 b3) _
  have lw3 : w.heap.size ≤ w3.heap.size := (below_next bz2 b3).size
  obtain ⟨ra, rc, hvr⟩ := OwnV.form vrx
  rw [ec] at hvr
  clear C2 bz2 b3
  go_wp2_with ((with_reducible refine wp_storeB 26 (.tmp 5) (.tmp 17) w3.heap.size 0 (evC Z ta tr) (evC noEv nilS nilS) 26 ?_ ?_ (evC_one _ (OwnV.one tax) (OwnV.one trx)) ?_ ?_ ?_ B3 ?_); (exact sizeE); (exact (show 0 + 14 ≤ 14 by decide)); (exact ⟨rfl, rfl⟩); (exact rfl); (exact rfl); (intro z3 B31 B3o); (have C4 := C3.oth B3o (by omega) (by omega)); (have bz3 := below_oth bel3 B3o lw3 lw3 bel3.size); (have c4 : z3.cell? ⟨w1.heap.size, 4, none⟩ = some (.int .i64 2) := (by rw [← eb]; exact C4.cell 4 _ rfl)); (have c11 : z3.cell? ⟨w1.heap.size, 11, none⟩ = some (.slice ra 1 rc) := (by rw [← hvr]; exact C4.cell 11 _ rfl)); clear B3 B31 bel3 B3o C3 C4)
  go_ret
  exact ⟨rfl, bz3⟩
end Go.Proofs.YtdboamfdipeapaaGreatDoor
