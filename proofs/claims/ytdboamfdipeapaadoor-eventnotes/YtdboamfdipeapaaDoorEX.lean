/- A note makes no difference to what else a line is; the walk of EventNotes. Conditions: the tables lie in memory. -/
import Derived.Test.YtdboamfdipeapaaDoorEV
import Derived.Test.YtdboamfdipeapaaDoorEK
namespace Go.Proofs.YtdboamfdipeapaaDoor
open Go.RowKit Go.PlainAid Ln
set_option linter.unusedVariables false
set_option linter.unusedSimpArgs false

theorem sizeS : (Tryd.prog.info? 9).map (·.size) = some 1 := by kernel_rfl
theorem tx_app (a b : ByteArray) : tx (a ++ b) = tx a ++ tx b := by simp [tx]
/-- a note behind a line changes nothing but the note -/
theorem pE_notes (l t : List UInt8) (h : (59 : UInt8) ∉ l) (ht : t.length ≤ 100) (h10 : (10 : UInt8) ∉ t) :
    ∃ (X : Ev) (f : Int), (pE l).2 = f ∧ (pE (l ++ 32 :: 59 :: t)).2 = f ∧ (f = 0 → (pE l).1 = { X with nd := false, n := bs [] } ∧ (pE (l ++ 32 :: 59 :: t)).1 = { X with nd := true, n := bs t }) := by
  have e1 := noteR_none l h
  have e2 : noteR (l ++ 32 :: 59 :: t) = (l, t, true, true) := by
    rw [show l ++ 32 :: 59 :: t = (l ++ [32]) ++ 59 :: t by simp, noteR_good _ _ (by simp [h]) ⟨by simp, ht, h10⟩, List.dropLast_concat]
  unfold pE
  rw [e1, e2]
  dsimp only
  by_cases hm : [] ∈ pcs 32 l
  · have n1 : ¬ (true = true ∧ [] ∉ pcs 32 l ∧ eF 0 (pcs 32 l) = 0) := fun e => e.2.1 hm
    have n2 : ¬ (true = true ∧ [] ∉ pcs 32 l) := fun e => e.2 hm
    rw [if_neg n1, if_neg n1, if_neg n2]
    exact ⟨noEv, 2, rfl, rfl, fun e => absurd e (by decide)⟩
  · by_cases hf : eF 0 (pcs 32 l) = 0
    · rw [if_pos ⟨rfl, hm, hf⟩, if_pos ⟨rfl, hm, hf⟩]
      exact ⟨eEv (pcs 32 l), 0, rfl, rfl, fun _ => ⟨rfl, rfl⟩⟩
    · have n1 : ¬ (true = true ∧ [] ∉ pcs 32 l ∧ eF 0 (pcs 32 l) = 0) := fun e => hf e.2.2
      rw [if_neg n1, if_neg n1, if_pos ⟨rfl, hm⟩]
      exact ⟨noEv, _, rfl, rfl, fun e => absurd e hf⟩
set_option maxRecDepth 100000 in
set_option maxHeartbeats 4000000 in
theorem law_notes_ev (s t : ByteArray) (w : World) (ht : Tbs w) : Calls Tryd.prog 4 #[.string s, .string t] w fun e w' => e = .returned (.bool true) ∧ Below w.heap.size w w' := by
  have HT : Hid (Tbs w) := ht
  clear ht
  by_cases hz : 1000 < s.size
  · have hz' : (1000 : Int) < (s.size : Int) := by omega
    go_enter Tryd.func4, Tryd.ntmps4
    go_wp2_with fail
    refine (wakes_ev _ HT.out).mono ?_
    rintro e w1 ⟨rfl, b1⟩
    go_wp2
    go_ret
    exact ⟨rfl, b1⟩
  have hz' : ¬ (1000 : Int) < (s.size : Int) := by omega
  by_cases hy : 100 < t.size
  · have hy' : (100 : Int) < (t.size : Int) := by omega
    go_enter Tryd.func4, Tryd.ntmps4
    go_wp2_with fail
    refine (wakes_ev _ HT.out).mono ?_
    rintro e w1 ⟨rfl, b1⟩
    go_wp2
    go_ret
    exact ⟨rfl, b1⟩
  have hy' : ¬ (100 : Int) < (t.size : Int) := by omega
  have HZ : Hid (s.size ≤ 1000 ∧ t.size ≤ 100) := ⟨by omega, by omega⟩
  have h32 : (⟨#[32, 59]⟩ : ByteArray).size = 2 := rfl
  have HZ2 : Hid ((s ++ ⟨#[32, 59]⟩ ++ t).size ≤ 900000) := by show _ ≤ _; rw [ByteArray.size_append, ByteArray.size_append, h32]; omega
  have HX : Hid (tx (s ++ ⟨#[32, 59]⟩ ++ t) = tx s ++ 32 :: 59 :: tx t) := by show _ = _; rw [tx_app, tx_app]; simp [tx]
  clear h32
  have hbs := get_bt s
  have hbt := get_bt t
  go_enter Tryd.func4, Tryd.ntmps4
  go_wp2_with fail
  refine (wakes_ev _ HT.out).mono ?_
  rintro e w0 ⟨rfl, b0⟩
  go_wp2
  go_loop [23] (fun i => ∃ k : Nat, k ≤ t.size ∧ i = .int .i64 (k : Int) ∧ (10 : UInt8) ∉ (tx t).take k) (fun i => t.size - (intOf i).toNat)
  case atStart => exact ⟨0, by omega, rfl, by simp⟩
  case round =>
    obtain ⟨k, hk, rfl, hall⟩ := hrel
    have HA : Hid ((10 : UInt8) ∉ (tx t).take k) := hall
    clear hall
    by_cases hlt : k < t.size
    · have hlt' : (k : Int) < (t.size : Int) := by omega
      obtain ⟨b, hb1, hb2, hb3, hb4⟩ := Ln.byte_at t k hlt
      by_cases hbc : b = 10
      · subst hbc
        have hq : (bt t k == 10) = true := by rw [hb2]; rfl
        have hq' : bt t k = 10 := by rw [hb2]; rfl
        clear hb1 hb2 hb3 hb4
        go_wp2
        go_ret
        exact ⟨rfl, b0⟩
      · have hq : (bt t k == 10) = false := by rw [hb2]; exact beq_eq_false_iff_ne.2 (fun h => hbc ((byte_eq b 10).1 h))
        have hq' : ¬ bt t k = 10 := fun h => hbc ((byte_eq b 10).1 (by rw [← hb2, h]; rfl))
        have H3 : Hid ((tx t).take (k + 1) = (tx t).take k ++ [b]) := hb3
        clear hb1 hb2 hb3 hb4
        go_wp2
        go_round
        case rel =>
          refine ⟨k + 1, by omega, by go_num, ?_⟩
          rw [H3.out]
          intro h
          rcases List.mem_append.1 h with h | h
          · exact HA.out h
          · simp at h; exact hbc h.symm
        case measure => simp [intOf]; omega
    · have e : k = t.size := by omega
      subst e
      have HN : Hid ((10 : UInt8) ∉ tx t) := by have := HA.out; rw [List.take_of_length_le (by rw [tx_len]; omega)] at this; exact this
      clear HA hlt hk
      go_wp2
      go_loop [33] (fun i => ∃ k : Nat, k ≤ s.size ∧ i = .int .i64 (k : Int) ∧ (59 : UInt8) ∉ (tx s).take k) (fun i => s.size - (intOf i).toNat)
      case atStart => exact ⟨0, by omega, rfl, by simp⟩
      case round =>
        obtain ⟨k, hk, rfl, hall⟩ := hrel
        have HA : Hid ((59 : UInt8) ∉ (tx s).take k) := hall
        clear hall
        by_cases hlt : k < s.size
        · have hlt' : (k : Int) < (s.size : Int) := by omega
          obtain ⟨b, hb1, hb2, hb3, hb4⟩ := Ln.byte_at s k hlt
          by_cases hbc : b = 59
          · subst hbc
            have hq : (bt s k == 59) = true := by rw [hb2]; rfl
            have hq' : bt s k = 59 := by rw [hb2]; rfl
            clear hb1 hb2 hb3 hb4
            go_wp2
            go_ret
            exact ⟨rfl, b0⟩
          · have hq : (bt s k == 59) = false := by rw [hb2]; exact beq_eq_false_iff_ne.2 (fun h => hbc ((byte_eq b 59).1 h))
            have hq' : ¬ bt s k = 59 := fun h => hbc ((byte_eq b 59).1 (by rw [← hb2, h]; rfl))
            have H3 : Hid ((tx s).take (k + 1) = (tx s).take k ++ [b]) := hb3
            clear hb1 hb2 hb3 hb4
            go_wp2
            go_round
            case rel =>
              refine ⟨k + 1, by omega, by go_num, ?_⟩
              rw [H3.out]
              intro h
              rcases List.mem_append.1 h with h | h
              · exact HA.out h
              · simp at h; exact hbc h.symm
            case measure => simp [intOf]; omega
        · have e : k = s.size := by omega
          subst e
          have HM : Hid ((59 : UInt8) ∉ tx s) := by have := HA.out; rw [List.take_of_length_le (by rw [tx_len]; omega)] at this; exact this
          clear HA hlt hk
          have hz1 : s.size ≤ 900000 := by have := HZ.out; omega
          have hz2 := HZ2.out
          have h1 := fun w h => eparse_any s w h hz1
          have h2 := fun w h => eparse_any (s ++ ⟨#[32, 59]⟩ ++ t) w h hz2
          unfold RParse at h1 h2
          have etx := HX.out
          rw [etx] at h2
          obtain ⟨X, F, p1, p2, p3⟩ := pE_notes (tx s) (tx t) HM.out (by rw [tx_len]; exact HZ.out.2) HN.out
          have hl1 := pE_len (tx s) (by rw [tx_len]; exact hz1)
          rw [p1] at h1
          rw [p2] at h2
          generalize (pE (tx s)).1 = P at *
          generalize (pE (tx s ++ 32 :: 59 :: tx t)).1 = Q at *
          clear etx p1 p2 hz1 hz2 HM HN
          by_cases hF : F = 0
          · obtain ⟨e1, e2⟩ := p3 hF
            obtain ⟨Y, y1, y2⟩ : ∃ Y : Ev, ({ P with nd := false, n := ⟨#[]⟩ } : Ev) = Y ∧ ({ Q with nd := false, n := ⟨#[]⟩ } : Ev) = Y := ⟨_, rfl, by rw [e1, e2]⟩
            have HYP : Hid (({ P with nd := false, n := ⟨#[]⟩ } : Ev) = Y) := y1
            have HYQ : Hid (({ Q with nd := false, n := ⟨#[]⟩ } : Ev) = Y) := y2
            have HL : Hid (P.a.length ≤ 1000000 ∧ P.r.length ≤ 1000000) := hl1
            have ha1 : P.a = Y.a := by rw [← y1]
            have ha2 : P.r = Y.r := by rw [← y1]
            have ha3 : Q.a = Y.a := by rw [← y2]
            have ha4 : Q.r = Y.r := by rw [← y2]
            rw [ha1, ha2] at h1 HL
            rw [ha3, ha4] at h2
            subst hF
            clear p3 e1 e2 y1 y2 ha1 ha2 ha3 ha4 hl1
            go_wp2_with fail
            refine (h1 _ (HT.out.later b0)).mono ?_
            rintro e w1 ⟨va, vr, rfl, vax, vrx, b1⟩
            have B1 : Blk (w1.alloc (.cells #[.int .i64 0, .int .i64 0, .int .i64 0, .string ⟨#[]⟩, .int .i64 0, .int .i64 0, .int .i64 0, .int .i64 0, .string ⟨#[]⟩, .int .i64 0, .slice none 0 0, .slice none 0 0, .bool false, .string ⟨#[]⟩] 27)) w1.heap.size (evC noEv nilS nilS) 27 := Blk.new w1 (evC noEv nilS nilS) 27
            have b01 := below_next b0 b1
            have bel1 : Below w.heap.size w (w1.alloc (.cells #[.int .i64 0, .int .i64 0, .int .i64 0, .string ⟨#[]⟩, .int .i64 0, .int .i64 0, .int .i64 0, .int .i64 0, .string ⟨#[]⟩, .int .i64 0, .slice none 0 0, .slice none 0 0, .bool false, .string ⟨#[]⟩] 27)) := below_more b01 _
            have lw1 : w.heap.size ≤ w1.heap.size := b01.size
            have Va1 : OwnV (w1.alloc (.cells #[.int .i64 0, .int .i64 0, .int .i64 0, .string ⟨#[]⟩, .int .i64 0, .int .i64 0, .int .i64 0, .int .i64 0, .string ⟨#[]⟩, .int .i64 0, .slice none 0 0, .slice none 0 0, .bool false, .string ⟨#[]⟩] 27)) w0.heap.size va (Y).a := vax.later (below_more (Below.refl _ _) _)
            have Vr1 : OwnV (w1.alloc (.cells #[.int .i64 0, .int .i64 0, .int .i64 0, .string ⟨#[]⟩, .int .i64 0, .int .i64 0, .int .i64 0, .int .i64 0, .string ⟨#[]⟩, .int .i64 0, .slice none 0 0, .slice none 0 0, .bool false, .string ⟨#[]⟩] 27)) w0.heap.size vr (Y).r := vrx.later (below_more (Below.refl _ _) _)
            clear b0 b1 b01
            go_wp2_with ((with_reducible refine wp_storeB 27 (.tmp 7) (.tmp 44) w1.heap.size 0 (evC (P) va vr) (evC noEv nilS nilS) 27 ?_ ?_ (evC_one _ (OwnV.one vax) (OwnV.one vrx)) ?_ ?_ ?_ B1 ?_); (exact sizeE); (exact (show 0 + 14 ≤ 14 by decide)); (exact ⟨rfl, rfl⟩); (exact rfl); (exact rfl); (intro z1 B11 B1o); (replace B11 : Blk z1 w1.heap.size (evC (P) va vr) 27 := B11); (have bz1 := below_oth bel1 B1o lw1 lw1 bel1.size); (have Va2 := OwnV.oth Va1 B1o B1 (by decide)); (have Vr2 := OwnV.oth Vr1 B1o B1 (by decide)); clear B1 bel1 B1o Va1 Vr1 vax vrx)
            refine (h2 _ (HT.out.later bz1)).mono ?_
            rintro e w2 ⟨ua, ur, rfl, uax, urx, b2⟩
            have B2 : Blk (w2.alloc (.cells #[.int .i64 0, .int .i64 0, .int .i64 0, .string ⟨#[]⟩, .int .i64 0, .int .i64 0, .int .i64 0, .int .i64 0, .string ⟨#[]⟩, .int .i64 0, .slice none 0 0, .slice none 0 0, .bool false, .string ⟨#[]⟩] 27)) w2.heap.size (evC noEv nilS nilS) 27 := Blk.new w2 (evC noEv nilS nilS) 27
            have C1 : Blk (w2.alloc (.cells #[.int .i64 0, .int .i64 0, .int .i64 0, .string ⟨#[]⟩, .int .i64 0, .int .i64 0, .int .i64 0, .int .i64 0, .string ⟨#[]⟩, .int .i64 0, .slice none 0 0, .slice none 0 0, .bool false, .string ⟨#[]⟩] 27)) w1.heap.size (evC (P) va vr) 27 := (B11.later b2).alloc _
            have hlt := (B11.later b2).lt
            have bel2 : Below w.heap.size w (w2.alloc (.cells #[.int .i64 0, .int .i64 0, .int .i64 0, .string ⟨#[]⟩, .int .i64 0, .int .i64 0, .int .i64 0, .int .i64 0, .string ⟨#[]⟩, .int .i64 0, .slice none 0 0, .slice none 0 0, .bool false, .string ⟨#[]⟩] 27)) := below_more (below_next bz1 b2) _
            have lw2 : w.heap.size ≤ w2.heap.size := (below_next bz1 b2).size
            have Va3 : OwnV (w2.alloc (.cells #[.int .i64 0, .int .i64 0, .int .i64 0, .string ⟨#[]⟩, .int .i64 0, .int .i64 0, .int .i64 0, .int .i64 0, .string ⟨#[]⟩, .int .i64 0, .slice none 0 0, .slice none 0 0, .bool false, .string ⟨#[]⟩] 27)) w0.heap.size va (Y).a := (Va2.later b2).later (below_more (Below.refl _ _) _)
            have Vr3 : OwnV (w2.alloc (.cells #[.int .i64 0, .int .i64 0, .int .i64 0, .string ⟨#[]⟩, .int .i64 0, .int .i64 0, .int .i64 0, .int .i64 0, .string ⟨#[]⟩, .int .i64 0, .slice none 0 0, .slice none 0 0, .bool false, .string ⟨#[]⟩] 27)) w0.heap.size vr (Y).r := (Vr2.later b2).later (below_more (Below.refl _ _) _)
            have Ua3 : OwnV (w2.alloc (.cells #[.int .i64 0, .int .i64 0, .int .i64 0, .string ⟨#[]⟩, .int .i64 0, .int .i64 0, .int .i64 0, .int .i64 0, .string ⟨#[]⟩, .int .i64 0, .slice none 0 0, .slice none 0 0, .bool false, .string ⟨#[]⟩] 27)) z1.heap.size ua (Y).a := uax.later (below_more (Below.refl _ _) _)
            have Ur3 : OwnV (w2.alloc (.cells #[.int .i64 0, .int .i64 0, .int .i64 0, .string ⟨#[]⟩, .int .i64 0, .int .i64 0, .int .i64 0, .int .i64 0, .string ⟨#[]⟩, .int .i64 0, .slice none 0 0, .slice none 0 0, .bool false, .string ⟨#[]⟩] 27)) z1.heap.size ur (Y).r := urx.later (below_more (Below.refl _ _) _)
            clear B11 bz1 b2 Va2 Vr2
            go_wp2_with (first
              | ((with_reducible refine wp_storeB 27 (.tmp 9) (.tmp 52) w2.heap.size 0 (evC (Q) ua ur) (evC noEv nilS nilS) 27 ?_ ?_ (evC_one _ (OwnV.one uax) (OwnV.one urx)) ?_ ?_ ?_ B2 ?_); (exact sizeE); (exact (show 0 + 14 ≤ 14 by decide)); (exact ⟨rfl, rfl⟩); (exact rfl); (exact rfl); (intro z2 B21 B2o); (replace B21 : Blk z2 w2.heap.size (evC (Q) ua ur) 27 := B21); (have C2 := C1.oth B2o (by omega) (by omega)); (have bz2 := below_oth bel2 B2o lw2 lw2 bel2.size); (have Va4 := OwnV.oth Va3 B2o B2 (by decide)); (have Vr4 := OwnV.oth Vr3 B2o B2 (by decide)); (have Ua4 := OwnV.oth Ua3 B2o B2 (by decide)); (have Ur4 := OwnV.oth Ur3 B2o B2 (by decide)); clear B2 bel2 B2o C1 Va3 Vr3 Ua3 Ur3)
              | ((with_reducible refine wp_storeC 4 (.tmp 59) (.const (.bool false)) w2.heap.size 12 (.bool false) (evC (Q) ua ur) 27 ?_ ?_ ?_ ?_ ?_ ?_ ?_ B21 ?_); (exact sizeB); (exact (show 12 < 14 by decide)); (exact rfl); (exact rfl); (exact ⟨rfl, rfl⟩); (exact rfl); (exact rfl); (intro y1 D1 O1); (replace D1 : Blk y1 w2.heap.size (evC ({ Q with nd := false } : Ev) ua ur) 27 := D1); (have E1 := C2.oth O1 (by omega) (by omega)); (have c1 := below_oth bz2 O1 (by omega) (by omega) bz2.size); (replace Va4 := OwnV.oth Va4 O1 B21 (by decide)); (replace Vr4 := OwnV.oth Vr4 O1 B21 (by decide)); (replace Ua4 := OwnV.oth Ua4 O1 B21 (by decide)); (replace Ur4 := OwnV.oth Ur4 O1 B21 (by decide)); clear B21 C2 bz2 O1)
              | ((with_reducible refine wp_storeC 9 (.tmp 60) (.const (.string ⟨#[]⟩)) w2.heap.size 13 (.string ⟨#[]⟩) (evC ({ Q with nd := false } : Ev) ua ur) 27 ?_ ?_ ?_ ?_ ?_ ?_ ?_ D1 ?_); (exact sizeS); (exact (show 13 < 14 by decide)); (exact rfl); (exact rfl); (exact ⟨rfl, rfl⟩); (exact rfl); (exact rfl); (intro y2 D2 O2); (replace D2 : Blk y2 w2.heap.size (evC ({ Q with nd := false, n := ⟨#[]⟩ } : Ev) ua ur) 27 := D2); (have E2 := E1.oth O2 (by omega) (by omega)); (have c2 := below_oth c1 O2 (by omega) (by omega) c1.size); (replace Va4 := OwnV.oth Va4 O2 D1 (by decide)); (replace Vr4 := OwnV.oth Vr4 O2 D1 (by decide)); (replace Ua4 := OwnV.oth Ua4 O2 D1 (by decide)); (replace Ur4 := OwnV.oth Ur4 O2 D1 (by decide)); clear D1 E1 c1 O2)
              | ((with_reducible refine wp_storeC 4 (.tmp 61) (.const (.bool false)) w1.heap.size 12 (.bool false) (evC (P) va vr) 27 ?_ ?_ ?_ ?_ ?_ ?_ ?_ E2 ?_); (exact sizeB); (exact (show 12 < 14 by decide)); (exact rfl); (exact rfl); (exact ⟨rfl, rfl⟩); (exact rfl); (exact rfl); (intro y3 D3 O3); (replace D3 : Blk y3 w1.heap.size (evC ({ P with nd := false } : Ev) va vr) 27 := D3); (have E3 := D2.oth O3 (by omega) (by omega)); (have c3 := below_oth c2 O3 (by omega) (by omega) c2.size); (replace Va4 := OwnV.oth Va4 O3 E2 (by decide)); (replace Vr4 := OwnV.oth Vr4 O3 E2 (by decide)); (replace Ua4 := OwnV.oth Ua4 O3 E2 (by decide)); (replace Ur4 := OwnV.oth Ur4 O3 E2 (by decide)); clear D2 E2 c2 O3)
              | ((with_reducible refine wp_storeC 9 (.tmp 62) (.const (.string ⟨#[]⟩)) w1.heap.size 13 (.string ⟨#[]⟩) (evC ({ P with nd := false } : Ev) va vr) 27 ?_ ?_ ?_ ?_ ?_ ?_ ?_ D3 ?_); (exact sizeS); (exact (show 13 < 14 by decide)); (exact rfl); (exact rfl); (exact ⟨rfl, rfl⟩); (exact rfl); (exact rfl); (intro y4 D4 O4); (replace D4 : Blk y4 w1.heap.size (evC ({ P with nd := false, n := ⟨#[]⟩ } : Ev) va vr) 27 := D4); (have E4 := E3.oth O4 (by omega) (by omega)); (have c4 := below_oth c3 O4 (by omega) (by omega) c3.size); (replace Va4 := OwnV.oth Va4 O4 D3 (by decide)); (replace Vr4 := OwnV.oth Vr4 O4 D3 (by decide)); (replace Ua4 := OwnV.oth Ua4 O4 D3 (by decide)); (replace Ur4 := OwnV.oth Ur4 O4 D3 (by decide)); clear D3 E3 c3 O4; rw [HYP.out] at D4; rw [HYQ.out] at E4; (obtain ⟨a0, a1, a2, a3, a4, a5, a6, a7, a8, a9, a10, a11, a12, a13⟩ := ev_cells D4); (obtain ⟨d0, d1, d2, d3, d4, d5, d6, d7, d8, d9, d10, d11, d12, d13⟩ := ev_cells E4)))
            refine (same_ev Y va vr ua ur _ (OwnV.vsl Va4) (OwnV.vsl Vr4) (OwnV.vsl Ua4) (OwnV.vsl Ur4) HL.out.1 HL.out.2).mono ?_
            rintro e w5 ⟨rfl, b5⟩
            go_wp2_with fail
            go_ret
            exact ⟨rfl, below_next c4 b5⟩
          · have hF' : (F != 0) = true := by simp [hF]
            have hFF : (F != F) = false := by simp
            clear p3 hF hl1
            go_wp2_with fail
            refine (h1 _ (HT.out.later b0)).mono ?_
            rintro e w1 ⟨va, vr, rfl, vax, vrx, b1⟩
            have B1 : Blk (w1.alloc (.cells #[.int .i64 0, .int .i64 0, .int .i64 0, .string ⟨#[]⟩, .int .i64 0, .int .i64 0, .int .i64 0, .int .i64 0, .string ⟨#[]⟩, .int .i64 0, .slice none 0 0, .slice none 0 0, .bool false, .string ⟨#[]⟩] 27)) w1.heap.size (evC noEv nilS nilS) 27 := Blk.new w1 (evC noEv nilS nilS) 27
            have b01 := below_next b0 b1
            have bel1 : Below w.heap.size w (w1.alloc (.cells #[.int .i64 0, .int .i64 0, .int .i64 0, .string ⟨#[]⟩, .int .i64 0, .int .i64 0, .int .i64 0, .int .i64 0, .string ⟨#[]⟩, .int .i64 0, .slice none 0 0, .slice none 0 0, .bool false, .string ⟨#[]⟩] 27)) := below_more b01 _
            have lw1 : w.heap.size ≤ w1.heap.size := b01.size
            have Va1 : OwnV (w1.alloc (.cells #[.int .i64 0, .int .i64 0, .int .i64 0, .string ⟨#[]⟩, .int .i64 0, .int .i64 0, .int .i64 0, .int .i64 0, .string ⟨#[]⟩, .int .i64 0, .slice none 0 0, .slice none 0 0, .bool false, .string ⟨#[]⟩] 27)) w0.heap.size va (P).a := vax.later (below_more (Below.refl _ _) _)
            have Vr1 : OwnV (w1.alloc (.cells #[.int .i64 0, .int .i64 0, .int .i64 0, .string ⟨#[]⟩, .int .i64 0, .int .i64 0, .int .i64 0, .int .i64 0, .string ⟨#[]⟩, .int .i64 0, .slice none 0 0, .slice none 0 0, .bool false, .string ⟨#[]⟩] 27)) w0.heap.size vr (P).r := vrx.later (below_more (Below.refl _ _) _)
            clear b0 b1 b01
            go_wp2_with ((with_reducible refine wp_storeB 27 (.tmp 7) (.tmp 44) w1.heap.size 0 (evC (P) va vr) (evC noEv nilS nilS) 27 ?_ ?_ (evC_one _ (OwnV.one vax) (OwnV.one vrx)) ?_ ?_ ?_ B1 ?_); (exact sizeE); (exact (show 0 + 14 ≤ 14 by decide)); (exact ⟨rfl, rfl⟩); (exact rfl); (exact rfl); (intro z1 B11 B1o); (replace B11 : Blk z1 w1.heap.size (evC (P) va vr) 27 := B11); (have bz1 := below_oth bel1 B1o lw1 lw1 bel1.size); (have Va2 := OwnV.oth Va1 B1o B1 (by decide)); (have Vr2 := OwnV.oth Vr1 B1o B1 (by decide)); clear B1 bel1 B1o Va1 Vr1 vax vrx)
            refine (h2 _ (HT.out.later bz1)).mono ?_
            rintro e w2 ⟨ua, ur, rfl, uax, urx, b2⟩
            have B2 : Blk (w2.alloc (.cells #[.int .i64 0, .int .i64 0, .int .i64 0, .string ⟨#[]⟩, .int .i64 0, .int .i64 0, .int .i64 0, .int .i64 0, .string ⟨#[]⟩, .int .i64 0, .slice none 0 0, .slice none 0 0, .bool false, .string ⟨#[]⟩] 27)) w2.heap.size (evC noEv nilS nilS) 27 := Blk.new w2 (evC noEv nilS nilS) 27
            have C1 : Blk (w2.alloc (.cells #[.int .i64 0, .int .i64 0, .int .i64 0, .string ⟨#[]⟩, .int .i64 0, .int .i64 0, .int .i64 0, .int .i64 0, .string ⟨#[]⟩, .int .i64 0, .slice none 0 0, .slice none 0 0, .bool false, .string ⟨#[]⟩] 27)) w1.heap.size (evC (P) va vr) 27 := (B11.later b2).alloc _
            have hlt := (B11.later b2).lt
            have bel2 : Below w.heap.size w (w2.alloc (.cells #[.int .i64 0, .int .i64 0, .int .i64 0, .string ⟨#[]⟩, .int .i64 0, .int .i64 0, .int .i64 0, .int .i64 0, .string ⟨#[]⟩, .int .i64 0, .slice none 0 0, .slice none 0 0, .bool false, .string ⟨#[]⟩] 27)) := below_more (below_next bz1 b2) _
            have lw2 : w.heap.size ≤ w2.heap.size := (below_next bz1 b2).size
            have Va3 : OwnV (w2.alloc (.cells #[.int .i64 0, .int .i64 0, .int .i64 0, .string ⟨#[]⟩, .int .i64 0, .int .i64 0, .int .i64 0, .int .i64 0, .string ⟨#[]⟩, .int .i64 0, .slice none 0 0, .slice none 0 0, .bool false, .string ⟨#[]⟩] 27)) w0.heap.size va (P).a := (Va2.later b2).later (below_more (Below.refl _ _) _)
            have Vr3 : OwnV (w2.alloc (.cells #[.int .i64 0, .int .i64 0, .int .i64 0, .string ⟨#[]⟩, .int .i64 0, .int .i64 0, .int .i64 0, .int .i64 0, .string ⟨#[]⟩, .int .i64 0, .slice none 0 0, .slice none 0 0, .bool false, .string ⟨#[]⟩] 27)) w0.heap.size vr (P).r := (Vr2.later b2).later (below_more (Below.refl _ _) _)
            have Ua3 : OwnV (w2.alloc (.cells #[.int .i64 0, .int .i64 0, .int .i64 0, .string ⟨#[]⟩, .int .i64 0, .int .i64 0, .int .i64 0, .int .i64 0, .string ⟨#[]⟩, .int .i64 0, .slice none 0 0, .slice none 0 0, .bool false, .string ⟨#[]⟩] 27)) z1.heap.size ua (Q).a := uax.later (below_more (Below.refl _ _) _)
            have Ur3 : OwnV (w2.alloc (.cells #[.int .i64 0, .int .i64 0, .int .i64 0, .string ⟨#[]⟩, .int .i64 0, .int .i64 0, .int .i64 0, .int .i64 0, .string ⟨#[]⟩, .int .i64 0, .slice none 0 0, .slice none 0 0, .bool false, .string ⟨#[]⟩] 27)) z1.heap.size ur (Q).r := urx.later (below_more (Below.refl _ _) _)
            clear B11 bz1 b2 Va2 Vr2
            go_wp2_with (first
              | ((with_reducible refine wp_storeB 27 (.tmp 9) (.tmp 52) w2.heap.size 0 (evC (Q) ua ur) (evC noEv nilS nilS) 27 ?_ ?_ (evC_one _ (OwnV.one uax) (OwnV.one urx)) ?_ ?_ ?_ B2 ?_); (exact sizeE); (exact (show 0 + 14 ≤ 14 by decide)); (exact ⟨rfl, rfl⟩); (exact rfl); (exact rfl); (intro z2 B21 B2o); (replace B21 : Blk z2 w2.heap.size (evC (Q) ua ur) 27 := B21); (have C2 := C1.oth B2o (by omega) (by omega)); (have bz2 := below_oth bel2 B2o lw2 lw2 bel2.size); (have Va4 := OwnV.oth Va3 B2o B2 (by decide)); (have Vr4 := OwnV.oth Vr3 B2o B2 (by decide)); (have Ua4 := OwnV.oth Ua3 B2o B2 (by decide)); (have Ur4 := OwnV.oth Ur3 B2o B2 (by decide)); clear B2 bel2 B2o C1 Va3 Vr3 Ua3 Ur3))
            go_ret
            exact ⟨rfl, bz2⟩
end Go.Proofs.YtdboamfdipeapaaDoor
