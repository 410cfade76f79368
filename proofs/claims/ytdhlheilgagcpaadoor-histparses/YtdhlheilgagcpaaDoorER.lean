/- The document's Parse, from the type of the line on. Conditions: what it has read lies in memory; the words are at most 2^62 bytes. -/
import Derived.Test.YtdhlheilgagcpaaDoorEP
import Derived.Test.YtdhlheilgagcpaaDoorEJ
namespace Go.Proofs.YtdhlheilgagcpaaDoor
open Go.RowKit Go.PlainAid Ln
set_option linter.unusedVariables false
set_option linter.unusedSimpArgs false

theorem ty_l (S : ByteArray) (k : Nat) (l : List UInt8) (hk : 0 < k) (h5 : k < 5) (hl : (tn (k : Int)).toList = l) : (S.toList == l) = decide (wI tn 5 S = k) := by
  rw [← ty_of S k hk h5, hl]
  exact Bool.beq_comm
theorem ty_1 (S : ByteArray) : (S.toList == [105, 110, 118, 111, 107, 101]) = decide (wI tn 5 S = 1) := ty_l S 1 _ (by decide) (by decide) (by kernel_rfl)
theorem ty_2 (S : ByteArray) : (S.toList == [111, 107]) = decide (wI tn 5 S = 2) := ty_l S 2 _ (by decide) (by decide) (by kernel_rfl)
theorem ty_3 (S : ByteArray) : (S.toList == [102, 97, 105, 108]) = decide (wI tn 5 S = 3) := ty_l S 3 _ (by decide) (by decide) (by kernel_rfl)
theorem ty_4 (S : ByteArray) : (S.toList == [105, 110, 102, 111]) = decide (wI tn 5 S = 4) := ty_l S 4 _ (by decide) (by decide) (by kernel_rfl)

set_option maxRecDepth 100000 in
set_option maxHeartbeats 8000000 in
theorem rp_none (s : ByteArray) (L : List (List UInt8)) (w wz : World) (r g5 g10 g11 c : Nat) (a : Option Addr) (t : Int) (hd nt1 : List UInt8) (isn gd : Bool) (cv : Val) (x7 x12 x13 x14 x15 x16 x17 x18 x19 x20 x21 x22 x23 x24 x25 x26 x27 x28 x29 x30 x31 x32 x33 x34 x35 x36 x37 x38 x39 x40 x41 x42 x43 x44 x45 x46 x47 x48 x49 x50 x51 x52 x53 x54 x55 x56 x57 x58 x59 x60 x61 x62 x63 x64 x65 x66 x67 x68 x69 x70 x71 x72 x73 x74 x75 x76 x77 x78 x79 x80 x81 x82 x83 x84 x85 x86 x87 x88 x89 x90 x91 x92 x93 x94 x95 x96 x97 x98 x99 x100 x101 x102 x103 x104 x105 x106 x107 x108 x109 x110 x111 x112 x113 x114 x115 x116 x117 x118 x119 x120 x121 x122 x123 x124 x125 x126 x127 : Value)
    (hA : TAbout w wz r g5 g10 g11 hd nt1 isn gd cv noEv nilS nilS) (hv : SSl wz (.slice a L.length c) L) (hlo : LoB g11 (.slice a L.length c)) (hs : Sm L) (hN : L.length ≤ 900001) (hL3 : 3 ≤ L.length)
    (hF : eF 0 L ≠ 0 → pE (tx s) = (noEv, eF 0 L)) (h0 : eF 0 L = 0 → pE (tx s) = ({ eEv L with nd := isn, n := bs nt1 }, 0)) (ht : (eEv L).t = t ∧ (eEv L).c = cv) (h3 : e3 0 L = mf (decide (0 < eY L))) (hy : eY L = 0) :
    Code.wp Tryd.prog (sndC (sndC (sndC (sndC (sndC (sndC (sndC (sndC (sndC (sndC (sndC (sndC (Tryd.f12.body.getD .skip))))))))))))) (bodyPost Tryd.prog Tryd.f12 fun e w' => RParse w (tx s) e w') ⟨#[.string s, undef, .pointer (some ⟨r, 0, none⟩), .int .i64 0, .pointer (some ⟨r + 1, 0, none⟩), .pointer (some ⟨g5, 0, none⟩), .slice a L.length c, x7, .int .i64 t, .int .i64 0, .pointer (some ⟨g10, 0, none⟩), .pointer (some ⟨g11, 0, none⟩), x12, x13, x14, x15, x16, x17, x18, x19, x20, x21, x22, x23, x24, x25, x26, x27, x28, x29, x30, x31, x32, x33, x34, x35, x36, x37, x38, x39, x40, x41, x42, x43, x44, x45, x46, x47, x48, x49, x50, x51, x52, x53, x54, x55, x56, x57, x58, x59, x60, x61, x62, x63, x64, x65, x66, x67, x68, x69, x70, x71, x72, x73, x74, x75, x76, x77, x78, x79, x80, x81, x82, x83, x84, x85, x86, x87, x88, x89, x90, x91, x92, x93, x94, x95, x96, x97, x98, x99, x100, x101, x102, x103, x104, x105, x106, x107, x108, x109, x110, x111, x112, x113, x114, x115, x116, x117, x118, x119, x120, x121, x122, x123, x124, x125, x126, x127], []⟩ wz := by
  have mixed : Tryd.prog.follows .mixedOrders = true := by kernel_rfl
  have hY := hy
  rw [eY_eq] at hY
  have S1 := ty_1 (hdW (L.drop 2))
  have S2 := ty_2 (hdW (L.drop 2))
  have S3 := ty_3 (hdW (L.drop 2))
  have S4 := ty_4 (hdW (L.drop 2))
  rw [hY, decide_eq_false (by decide)] at S1
  rw [hY, decide_eq_false (by decide)] at S2
  rw [hY, decide_eq_false (by decide)] at S3
  rw [hY, decide_eq_false (by decide)] at S4
  have HY : Hid (eY L = 0) := hy
  obtain ⟨b, o, rfl, _⟩ := hv.block (by omega)
  have cx := SSl.cell hv (i := 2) (by omega)
  have e2 : bs (nt L 2) = hdW (L.drop 2) := (hdW_at L 2 (by omega)).symm
  rw [e2] at cx
  have HE2 : Hid (bs (nt L 2) = hdW (L.drop 2)) := e2
  clear e2
  have HL3 : Hid (3 ≤ L.length) := hL3
  have HA : Hid (TAbout w wz r g5 g10 g11 hd nt1 isn gd cv noEv nilS nilS) := hA
  have HV : Hid (SSl wz (.slice (some ⟨b, o, none⟩) L.length c) L) := hv
  have HF : Hid (eF 0 L ≠ 0 → pE (tx s) = (noEv, eF 0 L)) := hF
  have H0 : Hid (eF 0 L = 0 → pE (tx s) = ({ eEv L with nd := isn, n := bs nt1 }, 0)) := h0
  have HT : Hid ((eEv L).t = t ∧ (eEv L).c = cv) := ht
  have H3 : Hid (e3 0 L = mf (decide (0 < eY L))) := h3
  have HS : Hid (Sm L) := hs
  clear hv hA hF h0 ht h3 hy hY hs
  generalize hdW (L.drop 2) = S at *
  unfold Tryd.f12
  dsimp only [sndC, Option.getD]
  go_step
  go_step
  rename_i K1 hK1
  have HK1 : Hid (∀ (a : Act) (w : World), _ → K1 a w) := hK1
  clear hK1
  have EF : Hid (eF 0 L = 2) := by
    have e : e3 0 L = 2 := by rw [H3.out, HY.out]; rfl
    show _ = _
    rw [eF_e3 (by rw [e]; decide), e]
  go_wp2_with fail
  refine HK1.out _ _ ?_
  exact rp_tail s w wz r g5 g10 g11 t 2 hd nt1 isn gd cv noEv nilS nilS _ _ _ _ _ _ _ _ _ _ _ _ _ _ _ _ _ _ _ _ _ _ _ _ _ _ _ _ _ _ _ _ _ _ _ _ _ _ _ _ _ _ _ _ _ _ _ _ _ _ _ _ _ _ _ _ _ _ _ _ _ _ _ _ _ _ _ _ _ _ _ _ _ _ _ _ _ _ _ _ _ _ _ _ _ _ _ _ _ _ _ _ _ _ _ _ _ _ _ _ _ _ _ _ _ _ _ _ _ _ _ _ _ _ _ _ _ _ HA.out (fun _ => by rw [← EF.out]; exact HF.out (by rw [EF.out]; decide)) (fun h => nomatch h)
set_option maxRecDepth 100000 in
set_option maxHeartbeats 8000000 in
theorem rp_fail (s : ByteArray) (L : List (List UInt8)) (w wz : World) (r g5 g10 g11 c : Nat) (a : Option Addr) (t : Int) (hd nt1 : List UInt8) (isn gd : Bool) (cv : Val) (x7 x12 x13 x14 x15 x16 x17 x18 x19 x20 x21 x22 x23 x24 x25 x26 x27 x28 x29 x30 x31 x32 x33 x34 x35 x36 x37 x38 x39 x40 x41 x42 x43 x44 x45 x46 x47 x48 x49 x50 x51 x52 x53 x54 x55 x56 x57 x58 x59 x60 x61 x62 x63 x64 x65 x66 x67 x68 x69 x70 x71 x72 x73 x74 x75 x76 x77 x78 x79 x80 x81 x82 x83 x84 x85 x86 x87 x88 x89 x90 x91 x92 x93 x94 x95 x96 x97 x98 x99 x100 x101 x102 x103 x104 x105 x106 x107 x108 x109 x110 x111 x112 x113 x114 x115 x116 x117 x118 x119 x120 x121 x122 x123 x124 x125 x126 x127 : Value)
    (hA : TAbout w wz r g5 g10 g11 hd nt1 isn gd cv noEv nilS nilS) (hv : SSl wz (.slice a L.length c) L) (hlo : LoB g11 (.slice a L.length c)) (hs : Sm L) (hN : L.length ≤ 900001) (hL3 : 3 ≤ L.length)
    (hF : eF 0 L ≠ 0 → pE (tx s) = (noEv, eF 0 L)) (h0 : eF 0 L = 0 → pE (tx s) = ({ eEv L with nd := isn, n := bs nt1 }, 0)) (ht : (eEv L).t = t ∧ (eEv L).c = cv) (h3 : e3 0 L = mf (decide (0 < eY L))) (hy : eY L = 3) :
    Code.wp Tryd.prog (sndC (sndC (sndC (sndC (sndC (sndC (sndC (sndC (sndC (sndC (sndC (sndC (Tryd.f12.body.getD .skip))))))))))))) (bodyPost Tryd.prog Tryd.f12 fun e w' => RParse w (tx s) e w') ⟨#[.string s, undef, .pointer (some ⟨r, 0, none⟩), .int .i64 0, .pointer (some ⟨r + 1, 0, none⟩), .pointer (some ⟨g5, 0, none⟩), .slice a L.length c, x7, .int .i64 t, .int .i64 0, .pointer (some ⟨g10, 0, none⟩), .pointer (some ⟨g11, 0, none⟩), x12, x13, x14, x15, x16, x17, x18, x19, x20, x21, x22, x23, x24, x25, x26, x27, x28, x29, x30, x31, x32, x33, x34, x35, x36, x37, x38, x39, x40, x41, x42, x43, x44, x45, x46, x47, x48, x49, x50, x51, x52, x53, x54, x55, x56, x57, x58, x59, x60, x61, x62, x63, x64, x65, x66, x67, x68, x69, x70, x71, x72, x73, x74, x75, x76, x77, x78, x79, x80, x81, x82, x83, x84, x85, x86, x87, x88, x89, x90, x91, x92, x93, x94, x95, x96, x97, x98, x99, x100, x101, x102, x103, x104, x105, x106, x107, x108, x109, x110, x111, x112, x113, x114, x115, x116, x117, x118, x119, x120, x121, x122, x123, x124, x125, x126, x127], []⟩ wz := by
  have mixed : Tryd.prog.follows .mixedOrders = true := by kernel_rfl
  have hY := hy
  rw [eY_eq] at hY
  have S1 := ty_1 (hdW (L.drop 2))
  have S2 := ty_2 (hdW (L.drop 2))
  have S3 := ty_3 (hdW (L.drop 2))
  have S4 := ty_4 (hdW (L.drop 2))
  rw [hY, decide_eq_false (by decide)] at S1
  rw [hY, decide_eq_false (by decide)] at S2
  rw [hY, decide_eq_true rfl] at S3
  rw [hY, decide_eq_false (by decide)] at S4
  have HY : Hid (eY L = 3) := hy
  obtain ⟨b, o, rfl, _⟩ := hv.block (by omega)
  have cx := SSl.cell hv (i := 2) (by omega)
  have e2 : bs (nt L 2) = hdW (L.drop 2) := (hdW_at L 2 (by omega)).symm
  rw [e2] at cx
  have HE2 : Hid (bs (nt L 2) = hdW (L.drop 2)) := e2
  clear e2
  have HL3 : Hid (3 ≤ L.length) := hL3
  have HA : Hid (TAbout w wz r g5 g10 g11 hd nt1 isn gd cv noEv nilS nilS) := hA
  have HV : Hid (SSl wz (.slice (some ⟨b, o, none⟩) L.length c) L) := hv
  have HF : Hid (eF 0 L ≠ 0 → pE (tx s) = (noEv, eF 0 L)) := hF
  have H0 : Hid (eF 0 L = 0 → pE (tx s) = ({ eEv L with nd := isn, n := bs nt1 }, 0)) := h0
  have HT : Hid ((eEv L).t = t ∧ (eEv L).c = cv) := ht
  have H3 : Hid (e3 0 L = mf (decide (0 < eY L))) := h3
  have HS : Hid (Sm L) := hs
  clear hv hA hF h0 ht h3 hy hY hs
  generalize hdW (L.drop 2) = S at *
  unfold Tryd.f12
  dsimp only [sndC, Option.getD]
  go_step
  go_step
  rename_i K1 hK1
  have HK1 : Hid (∀ (a : Act) (w : World), _ → K1 a w) := hK1
  clear hK1
  obtain ⟨BR, BQ, BN, BC, BX, _, _, bel, hr, l1, l2, l3⟩ := HA.out
  have hlo2 : LoB g11 (.slice (some ⟨b, o, none⟩) L.length c) := fun g hg => by have := hlo g hg; omega
  by_cases h3 : 3 < L.length
  · skip
    have h3L : (3 : Int) < (L.length : Int) := by omega
    have EF : Hid (eF 0 L = 2) := by
      show _ = _
      rw [eF_else (by rw [H3.out, HY.out]; rfl) (by rw [HY.out]; decide) (by rw [HY.out]; decide), List.length_drop, decide_eq_true (by omega)]; rfl
    have HX : Hid (eEv L = { ({ noEv with y := 3 } : Ev) with t := t, c := cv }) := by
      show _ = _
      rw [← HT.out.1, ← HT.out.2]
      unfold eEv
      rw [if_neg (by rw [HY.out]; decide), if_neg (by rw [HY.out]; decide), HY.out]; rfl
    have h2L : (2 : Int) < (L.length : Int) := by have := HL3.out; omega
    clear hL3
    go_wp2_with (first
      | ((with_reducible refine wp_storeC 3 (.tmp 104) (.const (.int .i64 3)) g11 4 (.int .i64 3) (evC noEv nilS nilS) 41 ?_ ?_ ?_ ?_ ?_ ?_ ?_ BX ?_); (exact sizeI); (exact (show 4 < 14 by decide)); (exact rfl); (exact rfl); (exact ⟨rfl, rfl⟩); (exact rfl); (exact rfl); (intro z1 BX1 ox); (replace BX1 : Blk z1 g11 (evC ({ noEv with y := 3 } : Ev) nilS nilS) 41 := BX1); (have BR1 := BR.oth ox (by omega) (by omega)); (have BQ1 := BQ.oth ox (by omega) (by omega)); (have BN1 := BN.oth ox (by omega) (by omega)); (have BC1 := BC.oth ox (by omega) (by omega)); (have bel1 := below_oth bel ox (by omega) (by omega) bel.size); (have cx1 := SSl.cell (SSl.oth HV.out ox hlo2 (Nat.le_refl _) (Nat.le_refl _)) (i := 2) (by have := HL3.out; omega)); (rw [HE2.out] at cx1); clear BR BQ BN BC BX bel ox; (have BX := BX1); (have BR := BR1); (have BQ := BQ1); (have BN := BN1); (have BC := BC1); (have bel := bel1); clear BX1 BR1 BQ1 BN1 BC1 bel1)
      | ((with_reducible refine wp_storeC 3 (.tmp 109) (.const (.int .i64 4)) g11 4 (.int .i64 4) (evC ({ noEv with y := 3 } : Ev) nilS nilS) 41 ?_ ?_ ?_ ?_ ?_ ?_ ?_ BX ?_); (exact sizeI); (exact (show 4 < 14 by decide)); (exact rfl); (exact rfl); (exact ⟨rfl, rfl⟩); (exact rfl); (exact rfl); (intro z2 BX1 ox); (replace BX1 : Blk z2 g11 (evC ({ noEv with y := 4 } : Ev) nilS nilS) 41 := BX1); (have BR1 := BR.oth ox (by omega) (by omega)); (have BQ1 := BQ.oth ox (by omega) (by omega)); (have BN1 := BN.oth ox (by omega) (by omega)); (have BC1 := BC.oth ox (by omega) (by omega)); (have bel1 := below_oth bel ox (by omega) (by omega) bel.size); clear BR BQ BN BC BX bel ox; (have BX := BX1); (have BR := BR1); (have BQ := BQ1); (have BN := BN1); (have BC := BC1); (have bel := bel1); clear BX1 BR1 BQ1 BN1 BC1 bel1))
    refine HK1.out _ _ ?_
    exact rp_tail s w _ r g5 g10 g11 t 2 hd nt1 isn gd cv ({ noEv with y := 3 } : Ev) nilS nilS _ _ _ _ _ _ _ _ _ _ _ _ _ _ _ _ _ _ _ _ _ _ _ _ _ _ _ _ _ _ _ _ _ _ _ _ _ _ _ _ _ _ _ _ _ _ _ _ _ _ _ _ _ _ _ _ _ _ _ _ _ _ _ _ _ _ _ _ _ _ _ _ _ _ _ _ _ _ _ _ _ _ _ _ _ _ _ _ _ _ _ _ _ _ _ _ _ _ _ _ _ _ _ _ _ _ _ _ _ _ _ _ _ _ _ _ _ _ ⟨BR, BQ, BN, BC, BX, OwnV.nil _ _, OwnV.nil _ _, bel, hr, l1, l2, l3⟩ (fun _ => by rw [← EF.out]; exact HF.out (by rw [EF.out]; decide)) (fun h => nomatch h)
  · skip
    have h3L : ¬ (3 : Int) < (L.length : Int) := by omega
    have EF : Hid (eF 0 L = 0) := by
      show _ = _
      rw [eF_else (by rw [H3.out, HY.out]; rfl) (by rw [HY.out]; decide) (by rw [HY.out]; decide), List.length_drop, decide_eq_false (by omega)]; rfl
    have HX : Hid (eEv L = { ({ noEv with y := 3 } : Ev) with t := t, c := cv }) := by
      show _ = _
      rw [← HT.out.1, ← HT.out.2]
      unfold eEv
      rw [if_neg (by rw [HY.out]; decide), if_neg (by rw [HY.out]; decide), HY.out]; rfl
    have h2L : (2 : Int) < (L.length : Int) := by have := HL3.out; omega
    clear hL3
    go_wp2_with (first
      | ((with_reducible refine wp_storeC 3 (.tmp 104) (.const (.int .i64 3)) g11 4 (.int .i64 3) (evC noEv nilS nilS) 41 ?_ ?_ ?_ ?_ ?_ ?_ ?_ BX ?_); (exact sizeI); (exact (show 4 < 14 by decide)); (exact rfl); (exact rfl); (exact ⟨rfl, rfl⟩); (exact rfl); (exact rfl); (intro z1 BX1 ox); (replace BX1 : Blk z1 g11 (evC ({ noEv with y := 3 } : Ev) nilS nilS) 41 := BX1); (have BR1 := BR.oth ox (by omega) (by omega)); (have BQ1 := BQ.oth ox (by omega) (by omega)); (have BN1 := BN.oth ox (by omega) (by omega)); (have BC1 := BC.oth ox (by omega) (by omega)); (have bel1 := below_oth bel ox (by omega) (by omega) bel.size); (have cx1 := SSl.cell (SSl.oth HV.out ox hlo2 (Nat.le_refl _) (Nat.le_refl _)) (i := 2) (by have := HL3.out; omega)); (rw [HE2.out] at cx1); clear BR BQ BN BC BX bel ox; (have BX := BX1); (have BR := BR1); (have BQ := BQ1); (have BN := BN1); (have BC := BC1); (have bel := bel1); clear BX1 BR1 BQ1 BN1 BC1 bel1)
      | ((with_reducible refine wp_storeC 3 (.tmp 109) (.const (.int .i64 4)) g11 4 (.int .i64 4) (evC ({ noEv with y := 3 } : Ev) nilS nilS) 41 ?_ ?_ ?_ ?_ ?_ ?_ ?_ BX ?_); (exact sizeI); (exact (show 4 < 14 by decide)); (exact rfl); (exact rfl); (exact ⟨rfl, rfl⟩); (exact rfl); (exact rfl); (intro z2 BX1 ox); (replace BX1 : Blk z2 g11 (evC ({ noEv with y := 4 } : Ev) nilS nilS) 41 := BX1); (have BR1 := BR.oth ox (by omega) (by omega)); (have BQ1 := BQ.oth ox (by omega) (by omega)); (have BN1 := BN.oth ox (by omega) (by omega)); (have BC1 := BC.oth ox (by omega) (by omega)); (have bel1 := below_oth bel ox (by omega) (by omega) bel.size); clear BR BQ BN BC BX bel ox; (have BX := BX1); (have BR := BR1); (have BQ := BQ1); (have BN := BN1); (have BC := BC1); (have bel := bel1); clear BX1 BR1 BQ1 BN1 BC1 bel1))
    refine HK1.out _ _ ?_
    exact rp_tail s w _ r g5 g10 g11 t 0 hd nt1 isn gd cv ({ noEv with y := 3 } : Ev) nilS nilS _ _ _ _ _ _ _ _ _ _ _ _ _ _ _ _ _ _ _ _ _ _ _ _ _ _ _ _ _ _ _ _ _ _ _ _ _ _ _ _ _ _ _ _ _ _ _ _ _ _ _ _ _ _ _ _ _ _ _ _ _ _ _ _ _ _ _ _ _ _ _ _ _ _ _ _ _ _ _ _ _ _ _ _ _ _ _ _ _ _ _ _ _ _ _ _ _ _ _ _ _ _ _ _ _ _ _ _ _ _ _ _ _ _ _ _ _ _ ⟨BR, BQ, BN, BC, BX, OwnV.nil _ _, OwnV.nil _ _, bel, hr, l1, l2, l3⟩ (fun h => absurd rfl h) (fun _ => by have h := H0.out EF.out; rw [h, HX.out])
set_option maxRecDepth 100000 in
set_option maxHeartbeats 8000000 in
theorem rp_info (s : ByteArray) (L : List (List UInt8)) (w wz : World) (r g5 g10 g11 c : Nat) (a : Option Addr) (t : Int) (hd nt1 : List UInt8) (isn gd : Bool) (cv : Val) (x7 x12 x13 x14 x15 x16 x17 x18 x19 x20 x21 x22 x23 x24 x25 x26 x27 x28 x29 x30 x31 x32 x33 x34 x35 x36 x37 x38 x39 x40 x41 x42 x43 x44 x45 x46 x47 x48 x49 x50 x51 x52 x53 x54 x55 x56 x57 x58 x59 x60 x61 x62 x63 x64 x65 x66 x67 x68 x69 x70 x71 x72 x73 x74 x75 x76 x77 x78 x79 x80 x81 x82 x83 x84 x85 x86 x87 x88 x89 x90 x91 x92 x93 x94 x95 x96 x97 x98 x99 x100 x101 x102 x103 x104 x105 x106 x107 x108 x109 x110 x111 x112 x113 x114 x115 x116 x117 x118 x119 x120 x121 x122 x123 x124 x125 x126 x127 : Value)
    (hA : TAbout w wz r g5 g10 g11 hd nt1 isn gd cv noEv nilS nilS) (hv : SSl wz (.slice a L.length c) L) (hlo : LoB g11 (.slice a L.length c)) (hs : Sm L) (hN : L.length ≤ 900001) (hL3 : 3 ≤ L.length)
    (hF : eF 0 L ≠ 0 → pE (tx s) = (noEv, eF 0 L)) (h0 : eF 0 L = 0 → pE (tx s) = ({ eEv L with nd := isn, n := bs nt1 }, 0)) (ht : (eEv L).t = t ∧ (eEv L).c = cv) (h3 : e3 0 L = mf (decide (0 < eY L))) (hy : eY L = 4) :
    Code.wp Tryd.prog (sndC (sndC (sndC (sndC (sndC (sndC (sndC (sndC (sndC (sndC (sndC (sndC (Tryd.f12.body.getD .skip))))))))))))) (bodyPost Tryd.prog Tryd.f12 fun e w' => RParse w (tx s) e w') ⟨#[.string s, undef, .pointer (some ⟨r, 0, none⟩), .int .i64 0, .pointer (some ⟨r + 1, 0, none⟩), .pointer (some ⟨g5, 0, none⟩), .slice a L.length c, x7, .int .i64 t, .int .i64 0, .pointer (some ⟨g10, 0, none⟩), .pointer (some ⟨g11, 0, none⟩), x12, x13, x14, x15, x16, x17, x18, x19, x20, x21, x22, x23, x24, x25, x26, x27, x28, x29, x30, x31, x32, x33, x34, x35, x36, x37, x38, x39, x40, x41, x42, x43, x44, x45, x46, x47, x48, x49, x50, x51, x52, x53, x54, x55, x56, x57, x58, x59, x60, x61, x62, x63, x64, x65, x66, x67, x68, x69, x70, x71, x72, x73, x74, x75, x76, x77, x78, x79, x80, x81, x82, x83, x84, x85, x86, x87, x88, x89, x90, x91, x92, x93, x94, x95, x96, x97, x98, x99, x100, x101, x102, x103, x104, x105, x106, x107, x108, x109, x110, x111, x112, x113, x114, x115, x116, x117, x118, x119, x120, x121, x122, x123, x124, x125, x126, x127], []⟩ wz := by
  have mixed : Tryd.prog.follows .mixedOrders = true := by kernel_rfl
  have hY := hy
  rw [eY_eq] at hY
  have S1 := ty_1 (hdW (L.drop 2))
  have S2 := ty_2 (hdW (L.drop 2))
  have S3 := ty_3 (hdW (L.drop 2))
  have S4 := ty_4 (hdW (L.drop 2))
  rw [hY, decide_eq_false (by decide)] at S1
  rw [hY, decide_eq_false (by decide)] at S2
  rw [hY, decide_eq_false (by decide)] at S3
  rw [hY, decide_eq_true rfl] at S4
  have HY : Hid (eY L = 4) := hy
  obtain ⟨b, o, rfl, _⟩ := hv.block (by omega)
  have cx := SSl.cell hv (i := 2) (by omega)
  have e2 : bs (nt L 2) = hdW (L.drop 2) := (hdW_at L 2 (by omega)).symm
  rw [e2] at cx
  have HE2 : Hid (bs (nt L 2) = hdW (L.drop 2)) := e2
  clear e2
  have HL3 : Hid (3 ≤ L.length) := hL3
  have HA : Hid (TAbout w wz r g5 g10 g11 hd nt1 isn gd cv noEv nilS nilS) := hA
  have HV : Hid (SSl wz (.slice (some ⟨b, o, none⟩) L.length c) L) := hv
  have HF : Hid (eF 0 L ≠ 0 → pE (tx s) = (noEv, eF 0 L)) := hF
  have H0 : Hid (eF 0 L = 0 → pE (tx s) = ({ eEv L with nd := isn, n := bs nt1 }, 0)) := h0
  have HT : Hid ((eEv L).t = t ∧ (eEv L).c = cv) := ht
  have H3 : Hid (e3 0 L = mf (decide (0 < eY L))) := h3
  have HS : Hid (Sm L) := hs
  clear hv hA hF h0 ht h3 hy hY hs
  generalize hdW (L.drop 2) = S at *
  unfold Tryd.f12
  dsimp only [sndC, Option.getD]
  go_step
  go_step
  rename_i K1 hK1
  have HK1 : Hid (∀ (a : Act) (w : World), _ → K1 a w) := hK1
  clear hK1
  obtain ⟨BR, BQ, BN, BC, BX, _, _, bel, hr, l1, l2, l3⟩ := HA.out
  have hlo2 : LoB g11 (.slice (some ⟨b, o, none⟩) L.length c) := fun g hg => by have := hlo g hg; omega
  by_cases h3 : 3 < L.length
  · skip
    have h3L : (3 : Int) < (L.length : Int) := by omega
    have EF : Hid (eF 0 L = 2) := by
      show _ = _
      rw [eF_else (by rw [H3.out, HY.out]; rfl) (by rw [HY.out]; decide) (by rw [HY.out]; decide), List.length_drop, decide_eq_true (by omega)]; rfl
    have HX : Hid (eEv L = { ({ noEv with y := 4 } : Ev) with t := t, c := cv }) := by
      show _ = _
      rw [← HT.out.1, ← HT.out.2]
      unfold eEv
      rw [if_neg (by rw [HY.out]; decide), if_neg (by rw [HY.out]; decide), HY.out]; rfl
    have h2L : (2 : Int) < (L.length : Int) := by have := HL3.out; omega
    clear hL3
    go_wp2_with (first
      | ((with_reducible refine wp_storeC 3 (.tmp 104) (.const (.int .i64 3)) g11 4 (.int .i64 3) (evC noEv nilS nilS) 41 ?_ ?_ ?_ ?_ ?_ ?_ ?_ BX ?_); (exact sizeI); (exact (show 4 < 14 by decide)); (exact rfl); (exact rfl); (exact ⟨rfl, rfl⟩); (exact rfl); (exact rfl); (intro z1 BX1 ox); (replace BX1 : Blk z1 g11 (evC ({ noEv with y := 3 } : Ev) nilS nilS) 41 := BX1); (have BR1 := BR.oth ox (by omega) (by omega)); (have BQ1 := BQ.oth ox (by omega) (by omega)); (have BN1 := BN.oth ox (by omega) (by omega)); (have BC1 := BC.oth ox (by omega) (by omega)); (have bel1 := below_oth bel ox (by omega) (by omega) bel.size); (have cx1 := SSl.cell (SSl.oth HV.out ox hlo2 (Nat.le_refl _) (Nat.le_refl _)) (i := 2) (by have := HL3.out; omega)); (rw [HE2.out] at cx1); clear BR BQ BN BC BX bel ox; (have BX := BX1); (have BR := BR1); (have BQ := BQ1); (have BN := BN1); (have BC := BC1); (have bel := bel1); clear BX1 BR1 BQ1 BN1 BC1 bel1)
      | ((with_reducible refine wp_storeC 3 (.tmp 109) (.const (.int .i64 4)) g11 4 (.int .i64 4) (evC ({ noEv with y := 3 } : Ev) nilS nilS) 41 ?_ ?_ ?_ ?_ ?_ ?_ ?_ BX ?_); (exact sizeI); (exact (show 4 < 14 by decide)); (exact rfl); (exact rfl); (exact ⟨rfl, rfl⟩); (exact rfl); (exact rfl); (intro z2 BX1 ox); (replace BX1 : Blk z2 g11 (evC ({ noEv with y := 4 } : Ev) nilS nilS) 41 := BX1); (have BR1 := BR.oth ox (by omega) (by omega)); (have BQ1 := BQ.oth ox (by omega) (by omega)); (have BN1 := BN.oth ox (by omega) (by omega)); (have BC1 := BC.oth ox (by omega) (by omega)); (have bel1 := below_oth bel ox (by omega) (by omega) bel.size); clear BR BQ BN BC BX bel ox; (have BX := BX1); (have BR := BR1); (have BQ := BQ1); (have BN := BN1); (have BC := BC1); (have bel := bel1); clear BX1 BR1 BQ1 BN1 BC1 bel1))
    refine HK1.out _ _ ?_
    exact rp_tail s w _ r g5 g10 g11 t 2 hd nt1 isn gd cv ({ noEv with y := 4 } : Ev) nilS nilS _ _ _ _ _ _ _ _ _ _ _ _ _ _ _ _ _ _ _ _ _ _ _ _ _ _ _ _ _ _ _ _ _ _ _ _ _ _ _ _ _ _ _ _ _ _ _ _ _ _ _ _ _ _ _ _ _ _ _ _ _ _ _ _ _ _ _ _ _ _ _ _ _ _ _ _ _ _ _ _ _ _ _ _ _ _ _ _ _ _ _ _ _ _ _ _ _ _ _ _ _ _ _ _ _ _ _ _ _ _ _ _ _ _ _ _ _ _ ⟨BR, BQ, BN, BC, BX, OwnV.nil _ _, OwnV.nil _ _, bel, hr, l1, l2, l3⟩ (fun _ => by rw [← EF.out]; exact HF.out (by rw [EF.out]; decide)) (fun h => nomatch h)
  · skip
    have h3L : ¬ (3 : Int) < (L.length : Int) := by omega
    have EF : Hid (eF 0 L = 0) := by
      show _ = _
      rw [eF_else (by rw [H3.out, HY.out]; rfl) (by rw [HY.out]; decide) (by rw [HY.out]; decide), List.length_drop, decide_eq_false (by omega)]; rfl
    have HX : Hid (eEv L = { ({ noEv with y := 4 } : Ev) with t := t, c := cv }) := by
      show _ = _
      rw [← HT.out.1, ← HT.out.2]
      unfold eEv
      rw [if_neg (by rw [HY.out]; decide), if_neg (by rw [HY.out]; decide), HY.out]; rfl
    have h2L : (2 : Int) < (L.length : Int) := by have := HL3.out; omega
    clear hL3
    go_wp2_with (first
      | ((with_reducible refine wp_storeC 3 (.tmp 104) (.const (.int .i64 3)) g11 4 (.int .i64 3) (evC noEv nilS nilS) 41 ?_ ?_ ?_ ?_ ?_ ?_ ?_ BX ?_); (exact sizeI); (exact (show 4 < 14 by decide)); (exact rfl); (exact rfl); (exact ⟨rfl, rfl⟩); (exact rfl); (exact rfl); (intro z1 BX1 ox); (replace BX1 : Blk z1 g11 (evC ({ noEv with y := 3 } : Ev) nilS nilS) 41 := BX1); (have BR1 := BR.oth ox (by omega) (by omega)); (have BQ1 := BQ.oth ox (by omega) (by omega)); (have BN1 := BN.oth ox (by omega) (by omega)); (have BC1 := BC.oth ox (by omega) (by omega)); (have bel1 := below_oth bel ox (by omega) (by omega) bel.size); (have cx1 := SSl.cell (SSl.oth HV.out ox hlo2 (Nat.le_refl _) (Nat.le_refl _)) (i := 2) (by have := HL3.out; omega)); (rw [HE2.out] at cx1); clear BR BQ BN BC BX bel ox; (have BX := BX1); (have BR := BR1); (have BQ := BQ1); (have BN := BN1); (have BC := BC1); (have bel := bel1); clear BX1 BR1 BQ1 BN1 BC1 bel1)
      | ((with_reducible refine wp_storeC 3 (.tmp 109) (.const (.int .i64 4)) g11 4 (.int .i64 4) (evC ({ noEv with y := 3 } : Ev) nilS nilS) 41 ?_ ?_ ?_ ?_ ?_ ?_ ?_ BX ?_); (exact sizeI); (exact (show 4 < 14 by decide)); (exact rfl); (exact rfl); (exact ⟨rfl, rfl⟩); (exact rfl); (exact rfl); (intro z2 BX1 ox); (replace BX1 : Blk z2 g11 (evC ({ noEv with y := 4 } : Ev) nilS nilS) 41 := BX1); (have BR1 := BR.oth ox (by omega) (by omega)); (have BQ1 := BQ.oth ox (by omega) (by omega)); (have BN1 := BN.oth ox (by omega) (by omega)); (have BC1 := BC.oth ox (by omega) (by omega)); (have bel1 := below_oth bel ox (by omega) (by omega) bel.size); clear BR BQ BN BC BX bel ox; (have BX := BX1); (have BR := BR1); (have BQ := BQ1); (have BN := BN1); (have BC := BC1); (have bel := bel1); clear BX1 BR1 BQ1 BN1 BC1 bel1))
    refine HK1.out _ _ ?_
    exact rp_tail s w _ r g5 g10 g11 t 0 hd nt1 isn gd cv ({ noEv with y := 4 } : Ev) nilS nilS _ _ _ _ _ _ _ _ _ _ _ _ _ _ _ _ _ _ _ _ _ _ _ _ _ _ _ _ _ _ _ _ _ _ _ _ _ _ _ _ _ _ _ _ _ _ _ _ _ _ _ _ _ _ _ _ _ _ _ _ _ _ _ _ _ _ _ _ _ _ _ _ _ _ _ _ _ _ _ _ _ _ _ _ _ _ _ _ _ _ _ _ _ _ _ _ _ _ _ _ _ _ _ _ _ _ _ _ _ _ _ _ _ _ _ _ _ _ ⟨BR, BQ, BN, BC, BX, OwnV.nil _ _, OwnV.nil _ _, bel, hr, l1, l2, l3⟩ (fun h => absurd rfl h) (fun _ => by have h := H0.out EF.out; rw [h, HX.out])
end Go.Proofs.YtdhlheilgagcpaaDoor
