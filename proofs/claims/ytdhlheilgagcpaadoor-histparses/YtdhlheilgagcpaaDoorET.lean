/- The document's Parse at a Done. Conditions: what it has read lies in memory; the words are at most 2^62 bytes. -/
import Derived.Test.YtdhlheilgagcpaaDoorER
namespace Go.Proofs.YtdhlheilgagcpaaDoor
open Go.RowKit Go.PlainAid Ln
set_option linter.unusedVariables false
set_option linter.unusedSimpArgs false

theorem ev_ok {L : List (List UInt8)} (h : eY L = 2) : eEv L = { noEv with y := 2, t := (eEv L).t, c := (eEv L).c, r := aV (L.drop 3) (L.drop 3).length } := by
  unfold eEv
  simp only [if_neg (show ¬ eY L = 1 by omega), if_pos h, l3_eq]
  rfl
set_option maxRecDepth 100000 in
set_option maxHeartbeats 8000000 in
theorem rp_ok (s : ByteArray) (L : List (List UInt8)) (w wz : World) (r g5 g10 g11 c : Nat) (a : Option Addr) (t : Int) (hd nt1 : List UInt8) (isn gd : Bool) (cv : Val) (x7 x12 x13 x14 x15 x16 x17 x18 x19 x20 x21 x22 x23 x24 x25 x26 x27 x28 x29 x30 x31 x32 x33 x34 x35 x36 x37 x38 x39 x40 x41 x42 x43 x44 x45 x46 x47 x48 x49 x50 x51 x52 x53 x54 x55 x56 x57 x58 x59 x60 x61 x62 x63 x64 x65 x66 x67 x68 x69 x70 x71 x72 x73 x74 x75 x76 x77 x78 x79 x80 x81 x82 x83 x84 x85 x86 x87 x88 x89 x90 x91 x92 x93 x94 x95 x96 x97 x98 x99 x100 x101 x102 x103 x104 x105 x106 x107 x108 x109 x110 x111 x112 x113 x114 x115 x116 x117 x118 x119 x120 x121 x122 x123 x124 x125 x126 x127 : Value)
    (hA : TAbout w wz r g5 g10 g11 hd nt1 isn gd cv noEv nilS nilS) (hv : SSl wz (.slice a L.length c) L) (hlo : LoB g11 (.slice a L.length c)) (hs : Sm L) (hN : L.length ≤ 900001) (hL3 : 3 ≤ L.length)
    (hF : eF 0 L ≠ 0 → pE (tx s) = (noEv, eF 0 L)) (h0 : eF 0 L = 0 → pE (tx s) = ({ eEv L with nd := isn, n := bs nt1 }, 0)) (ht : (eEv L).t = t ∧ (eEv L).c = cv) (h3 : e3 0 L = mf (decide (0 < eY L))) (hy : eY L = 2) :
    Code.wp Tryd.prog (sndC (sndC (sndC (sndC (sndC (sndC (sndC (sndC (sndC (sndC (sndC (sndC (Tryd.f12.body.getD .skip))))))))))))) (bodyPost Tryd.prog Tryd.f12 fun e w' => RParse w (tx s) e w') ⟨#[.string s, undef, .pointer (some ⟨r, 0, none⟩), .int .i64 0, .pointer (some ⟨r + 1, 0, none⟩), .pointer (some ⟨g5, 0, none⟩), .slice a L.length c, x7, .int .i64 t, .int .i64 0, .pointer (some ⟨g10, 0, none⟩), .pointer (some ⟨g11, 0, none⟩), x12, x13, x14, x15, x16, x17, x18, x19, x20, x21, x22, x23, x24, x25, x26, x27, x28, x29, x30, x31, x32, x33, x34, x35, x36, x37, x38, x39, x40, x41, x42, x43, x44, x45, x46, x47, x48, x49, x50, x51, x52, x53, x54, x55, x56, x57, x58, x59, x60, x61, x62, x63, x64, x65, x66, x67, x68, x69, x70, x71, x72, x73, x74, x75, x76, x77, x78, x79, x80, x81, x82, x83, x84, x85, x86, x87, x88, x89, x90, x91, x92, x93, x94, x95, x96, x97, x98, x99, x100, x101, x102, x103, x104, x105, x106, x107, x108, x109, x110, x111, x112, x113, x114, x115, x116, x117, x118, x119, x120, x121, x122, x123, x124, x125, x126, x127], []⟩ wz := by
  have mixed : Tryd.prog.follows .mixedOrders = true := by kernel_rfl
  have hY := hy
  rw [eY_eq] at hY
  have S1 := ty_1 (hdW (L.drop 2))
  have S2 := ty_2 (hdW (L.drop 2))
  have S3 := ty_3 (hdW (L.drop 2))
  have S4 := ty_4 (hdW (L.drop 2))
  rw [hY, decide_eq_false (by decide)] at S1
  rw [hY, decide_eq_true rfl] at S2
  rw [hY, decide_eq_false (by decide)] at S3
  rw [hY, decide_eq_false (by decide)] at S4
  have HY : Hid (eY L = 2) := hy
  obtain ⟨b, o, rfl, _⟩ := hv.block (by omega)
  have cx := SSl.cell hv (i := 2) (by omega)
  have e2 : bs (nt L 2) = hdW (L.drop 2) := (hdW_at L 2 (by omega)).symm
  rw [e2] at cx
  have HE2 : Hid (bs (nt L 2) = hdW (L.drop 2)) := e2
  clear e2
  have HL3 : Hid (3 ≤ L.length) := hL3
  have HA : Hid (TAbout w wz r g5 g10 g11 hd nt1 isn gd cv noEv nilS nilS) := hA
  have HV : Hid (SSl wz (.slice (some ⟨b, o, none⟩) L.length c) L) := hv
  have HF : Hid (eF 0 L ≠ 0 → pE (tx s) = (noEv, eF 0 L)) := hF
  have H0 : Hid (eF 0 L = 0 → pE (tx s) = ({ eEv L with nd := isn, n := bs nt1 }, 0)) := h0
  have HT : Hid ((eEv L).t = t ∧ (eEv L).c = cv) := ht
  have H3 : Hid (e3 0 L = mf (decide (0 < eY L))) := h3
  have HS : Hid (Sm L) := hs
  clear hv hA hF h0 ht h3 hy hY hs
  generalize hdW (L.drop 2) = S at *
  unfold Tryd.f12
  dsimp only [sndC, Option.getD]
  go_step
  go_step
  rename_i K1 hK1
  have HK1 : Hid (∀ (a : Act) (w : World), _ → K1 a w) := hK1
  clear hK1
  have EF : Hid (eF 0 L = rF 0 (L.drop 3) (L.drop 3).length) := by
    show _ = _
    exact eF_ok (by rw [H3.out, HY.out]; rfl) HY.out
  have HSZ : Hid (∀ i, i < L.length → (hdW (L.drop i)).size ≤ 4611686018427387904) := fun i hi => by rw [hdW_at L i hi, nt_eq L i hi]; exact HS.out _ (List.getElem_mem hi)
  obtain ⟨BR, BQ, BN, BC, BX, _, _, bel, hr, l1, l2, l3⟩ := HA.out
  have HLL : Hid (g11 < wz.heap.size) := BX.lt
  have hlo2 : LoB g11 (.slice (some ⟨b, o, none⟩) L.length c) := fun g hg => by have := hlo g hg; omega
  have hg11 : w.heap.size ≤ g11 := by omega
  go_wp2_with ((with_reducible refine wp_storeC 3 (.tmp 75) (.const (.int .i64 2)) g11 4 (.int .i64 2) (evC noEv nilS nilS) 41 ?_ ?_ ?_ ?_ ?_ ?_ ?_ BX ?_); (exact sizeI); (exact (show 4 < 14 by decide)); (exact rfl); (exact rfl); (exact ⟨rfl, rfl⟩); (exact rfl); (exact rfl); (intro z0 BX1 ox); (replace BX1 : Blk z0 g11 (evC ({ noEv with y := 2 } : Ev) nilS nilS) 41 := BX1); (have BR1 := BR.oth ox (by omega) (by omega)); (have BQ1 := BQ.oth ox (by omega) (by omega)); (have BN1 := BN.oth ox (by omega) (by omega)); (have BC1 := BC.oth ox (by omega) (by omega)); (have bel1 := below_oth bel ox (by omega) (by omega) bel.size); (have oz := ox); clear BR BQ BN BC BX bel ox; (have BX := BX1); (have BR := BR1); (have BQ := BQ1); (have BN := BN1); (have BC := BC1); (have bel := bel1); clear BX1 BR1 BQ1 BN1 BC1 bel1; (have hv0 := SSl.oth HV.out oz hlo2 (Nat.le_refl _) (Nat.le_refl _)); (have hz0 := oz.size); clear oz cx)
  have CELLS : Hid (∀ wr, Oth g11 g11 z0 wr → ∀ i, i < L.length → wr.cell? ⟨b, o + i, none⟩ = some (.string (hdW (L.drop i)))) := fun wr hw i hi => by
    rw [hdW_at L i hi]; exact SSl.cell (SSl.oth hv0 hw hlo2 (Nat.le_refl _) (Nat.le_refl _)) hi
  have HLZ : Hid (g11 < z0.heap.size ∧ w.heap.size ≤ z0.heap.size) := ⟨BX.lt, by have := BX.lt; omega⟩
  obtain ⟨n, hn⟩ : ∃ n, (L.drop 3).length = n := ⟨_, rfl⟩
  have HN : Hid ((L.drop 3).length = n ∧ 3 + n = L.length ∧ n ≤ 900001) := ⟨hn, by rw [← hn, List.length_drop]; have := HL3.out; omega, by rw [← hn, List.length_drop]; omega⟩
  have HI0 : Hid (∃ vr, Blk z0 r (evC noEv nilS nilS) 41 ∧ Blk z0 (r + 1) (evC noEv nilS nilS) 41 ∧ Blk z0 g5 [.string (bs hd), .string (bs nt1), .bool isn, .bool gd] 62 ∧ Blk z0 g10 (vls cv.1 cv.2.1 cv.2.2) 38 ∧ Blk z0 g11 (evC ({ noEv with y := 2 } : Ev) nilS vr) 41 ∧ OwnV z0 z0.heap.size vr (aV (L.drop 3) 0) ∧ Below w.heap.size w z0 ∧ Oth g11 g11 z0 z0) := ⟨nilS, BR, BQ, BN, BC, BX, OwnV.nil _ _, bel, Oth.refl _ _ _⟩
  clear BR BQ BN BC BX bel hv0 hn hz0 hN
  go_loopw [9, 12] (fun e i wr => ∃ k j : Nat, k ≤ n ∧ 3 + k = j ∧ i = .int .i64 (j : Int) ∧ e = .int .i64 (rF 0 (L.drop 3) k) ∧ Hid (∃ vr, Blk wr r (evC noEv nilS nilS) 41 ∧ Blk wr (r + 1) (evC noEv nilS nilS) 41 ∧ Blk wr g5 [.string (bs hd), .string (bs nt1), .bool isn, .bool gd] 62 ∧ Blk wr g10 (vls cv.1 cv.2.1 cv.2.2) 38 ∧ Blk wr g11 (evC ({ noEv with y := 2 } : Ev) nilS vr) 41 ∧ OwnV wr z0.heap.size vr (aV (L.drop 3) k) ∧ Below w.heap.size w wr ∧ Oth g11 g11 z0 wr)) (fun e i wr => n + 3 - (intOf i).toNat)
  case atStart => exact ⟨0, 3, by omega, rfl, rfl, rfl, HI0⟩
  case round =>
    obtain ⟨k, j, hk, hj, rfl, rfl, HI⟩ := hrel
    clear HI0
    obtain ⟨vr, BR, BQ, BN, BC, BX, Ov, bel, Or⟩ := HI.out
    have ob : vr.oneCell' = true := by obtain ⟨a1, c1, e1⟩ := Ov.form; rw [e1]; rfl
    have HJ : Hid (3 + k = j) := hj
    have HK : Hid (k ≤ n) := hk
    obtain ⟨F, hFk⟩ : ∃ F, rF 0 (L.drop 3) k = F := ⟨_, rfl⟩
    have HFK : Hid (rF 0 (L.drop 3) k = F) := hFk
    rw [hFk]
    clear hFk HI
    by_cases hlt : j < L.length
    · have hlt' : (j : Int) < (L.length : Int) := by omega
      by_cases hF0 : F = 0
      · have hne : (F == 0) = true := by simp [hF0]
        have HF0 : Hid (F = 0) := hF0
        have HLT : Hid (j < L.length) := hlt
        have cx := CELLS.out _ Or j hlt
        have hPz := HSZ.out j hlt
        have hPc := fun w => vrparse_any (hdW (L.drop j)) w hPz
        unfold ansV at hPc
        change ∀ w, Calls _ _ _ w fun e w' => e = .returned (.tuple #[.agg #[.int .i64 (vOf (L.drop j)).1, .int .i64 (vOf (L.drop j)).2.1, .string (vOf (L.drop j)).2.2], .int .i64 (parR (hdW (L.drop j))).2.2.2]) ∧ _ at hPc
        obtain ⟨pe, hpe⟩ : ∃ pe, (parR (hdW (L.drop j))).2.2.2 = pe := ⟨_, rfl⟩
        have HPE : Hid ((parR (hdW (L.drop j))).2.2.2 = pe) := hpe
        rw [hpe] at hPc
        have hj9 : j ≤ 1000000 := by have := HN.out; omega
        clear hF0 hlt hj hk hpe hPz
        go_wp2_with fail
        refine (hPc _).mono ?_
        rintro e wp ⟨rfl, bp⟩
        clear cx
        have hbz1 : Below wp.heap.size wp (wp.alloc (.cells #[.int .i64 (vOf (L.drop j)).1, .int .i64 (vOf (L.drop j)).2.1, .string (vOf (L.drop j)).2.2] 38)) := below_more (Below.refl _ _) _
        have hbz2 : Below wp.heap.size wp ((wp.alloc (.cells #[.int .i64 (vOf (L.drop j)).1, .int .i64 (vOf (L.drop j)).2.1, .string (vOf (L.drop j)).2.2] 38)).alloc (.cells #[.int .i64 (vOf (L.drop j)).1, .int .i64 (vOf (L.drop j)).2.1, .string (vOf (L.drop j)).2.2] 38)) := below_more hbz1 _
        have hb2 := below_next bp hbz2
        have BV : Blk (wp.alloc (.cells #[.int .i64 (vOf (L.drop j)).1, .int .i64 (vOf (L.drop j)).2.1, .string (vOf (L.drop j)).2.2] 38)) wp.heap.size (vls (vOf (L.drop j)).1 (vOf (L.drop j)).2.1 (vOf (L.drop j)).2.2) 38 := Blk.new wp (vls _ _ _) 38
        have c11 : (wp.alloc (.cells #[.int .i64 (vOf (L.drop j)).1, .int .i64 (vOf (L.drop j)).2.1, .string (vOf (L.drop j)).2.2] 38)).cell? ⟨g11, 11, none⟩ = some vr := ((BX.later bp).later hbz1).cell 11 vr rfl
        have hv1 : VSl ((wp.alloc (.cells #[.int .i64 (vOf (L.drop j)).1, .int .i64 (vOf (L.drop j)).2.1, .string (vOf (L.drop j)).2.2] 38)).alloc (.cells #[.int .i64 (vOf (L.drop j)).1, .int .i64 (vOf (L.drop j)).2.1, .string (vOf (L.drop j)).2.2] 38)) (.slice (some ⟨wp.heap.size + 1, 0, none⟩) 1 1) [vOf (L.drop j)] := by
          have := vsl_one (wp.alloc (.cells #[.int .i64 (vOf (L.drop j)).1, .int .i64 (vOf (L.drop j)).2.1, .string (vOf (L.drop j)).2.2] 38)) (vOf (L.drop j))
          rw [World.size_alloc] at this
          exact this
        have Ov3 := Ov.later hb2
        have BR3 := BR.later hb2
        have BQ3 := BQ.later hb2
        have BN3 := BN.later hb2
        have BC3 := BC.later hb2
        have BX3 := BX.later hb2
        have bel3 := bel.trans (hb2.mono bel.size)
        have Or3 := Or.trans (.of_below hb2)
        have lw3 : z0.heap.size ≤ ((wp.alloc (.cells #[.int .i64 (vOf (L.drop j)).1, .int .i64 (vOf (L.drop j)).2.1, .string (vOf (L.drop j)).2.2] 38)).alloc (.cells #[.int .i64 (vOf (L.drop j)).1, .int .i64 (vOf (L.drop j)).2.1, .string (vOf (L.drop j)).2.2] 38)).heap.size := Or3.size
        have hal : (aV (L.drop 3) k).length + 1 ≤ 1000000 := by rw [aV_len]; have := HN.out; have := HK.out; omega
        have HVF : Hid (∃ a1 c1, vr = .slice a1 (aV (L.drop 3) k).length c1) := Ov.form
        clear BR BQ BN BC BX Ov bel Or hbz1 hbz2 hb2 bp
        go_wp2_with (first
          | ((with_reducible refine wp_loadB 38 (.tmp 13) wp.heap.size 0 (vls (vOf (L.drop j)).1 (vOf (L.drop j)).2.1 (vOf (L.drop j)).2.2) (vls (vOf (L.drop j)).1 (vOf (L.drop j)).2.1 (vOf (L.drop j)).2.2) 38 _ Tryd.underlying38 ?_ ?_ ?_ ?_ BV (fun j v hv => by rw [Nat.zero_add]; exact hv) ?_); (exact rfl); (exact sizeV); (exact ⟨rfl, rfl⟩); (exact rfl))
          | ((with_reducible refine wpl_appendV1 (.tmp 95) (.tmp 97) ?_ z0.heap.size vr (aV (L.drop 3) k) ?_ Ov3 (wp.heap.size + 1) (vOf (L.drop j)) ?_ hv1 hal lw3 ?_); (exact ⟨rfl, rfl⟩); (exact rfl); (exact rfl); (intro g cap z4 Ov4 hgr); (have BR4 := BR3.kept hgr (BR3.not_row (by decide) Ov3)); (have BQ4 := BQ3.kept hgr (BQ3.not_row (by decide) Ov3)); (have BX4 := BX3.kept hgr (BX3.not_row (by decide) Ov3)); (have BN4 := BN3.kept hgr (BN3.not_row (by decide) Ov3)); (have BC4 := BC3.kept hgr (fun e => by have := (Ov3.lt g10 e.symm).1; have := HLZ.out.1; omega)); (have bel4 := below_own (OwnV.base Ov3 HLZ.out.2) hgr bel3 bel3.size); (have Or4 := oth_grown Or3 Ov3 hgr (Nat.le_refl _)); clear BV c11 hv1 Ov3 BR3 BQ3 BN3 BC3 BX3 bel3 Or3 hgr)
          | ((with_reducible refine wp_storeC 39 (.tmp 99) (.tmp 98) g11 11 (.slice (some ⟨g, 0, none⟩) ((aV (L.drop 3) k).length + 1) cap) (evC ({ noEv with y := 2 } : Ev) nilS vr) 41 ?_ ?_ ?_ ?_ ?_ ?_ ?_ BX4 ?_); (exact sizeVs); (exact (show 11 < 14 by decide)); (exact rfl); (exact rfl); (exact ⟨rfl, rfl⟩); (exact rfl); (exact rfl); (intro z5 BX5 ox); (replace BX5 : Blk z5 g11 (evC ({ noEv with y := 2 } : Ev) nilS (.slice (some ⟨g, 0, none⟩) ((aV (L.drop 3) k).length + 1) cap)) 41 := BX5); (have BR5 := BR4.oth ox (by omega) (by omega)); (have BQ5 := BQ4.oth ox (by omega) (by omega)); (have BN5 := BN4.oth ox (by omega) (by omega)); (have BC5 := BC4.oth ox (by omega) (by omega)); (have Ov5 := OwnV.oth Ov4 ox BX4 (by decide)); (have bel5 := below_oth bel4 ox hg11 hg11 bel4.size); (have Or5 := Or4.trans ox); clear BX4 BR4 BQ4 BN4 BC4 Ov4 bel4 Or4 ox))
        go_roundw
        case rel =>
          refine ⟨k + 1, j + 1, by have := HN.out; have := HLT.out; have := HJ.out; omega, by have := HJ.out; omega, by go_num, ?_, ⟨_, BR5, BQ5, BN5, BC5, BX5, ?_, bel5, Or5⟩⟩
          · rw [rF, HFK.out, HF0.out, kp_0, List.drop_drop, HJ.out, HPE.out]
          · rw [aV_succ, List.drop_drop, HJ.out]; exact Ov5
        case measure => have := HLT.out; have := HN.out; simp [intOf]; omega
      · have hne : (F == 0) = false := by simp [hF0]
        have EF2 : Hid (eF 0 L = F) := by
          show _ = _
          rw [EF.out, rF_le (k := k) (by rw [HFK.out]; exact hF0) (by rw [HN.out.1]; exact hk), HFK.out]
        have HF0 : Hid (F ≠ 0) := hF0
        clear hF0 hlt hj hk
        go_wp2_with fail
        refine HK1.out _ _ ?_
        exact rp_tail s w wr r g5 g10 g11 t F hd nt1 isn gd cv { noEv with y := 2, r := aV (L.drop 3) k } nilS vr _ _ _ _ _ _ _ _ _ _ _ _ _ _ _ _ _ _ _ _ _ _ _ _ _ _ _ _ _ _ _ _ _ _ _ _ _ _ _ _ _ _ _ _ _ _ _ _ _ _ _ _ _ _ _ _ _ _ _ _ _ _ _ _ _ _ _ _ _ _ _ _ _ _ _ _ _ _ _ _ _ _ _ _ _ _ _ _ _ _ _ _ _ _ _ _ _ _ _ _ _ _ _ _ _ _ _ _ _ _ _ _ _ _ _ _ _ _ ⟨BR, BQ, BN, BC, BX, OwnV.nil _ _, OwnV.base Ov HLZ.out.2, bel, hr, l1, l2, l3⟩ (fun hne => by have h := HF.out (by rw [EF2.out]; exact hne); rw [EF2.out] at h; exact h) (fun h => absurd h HF0.out)
    · have hlt' : ¬ (j : Int) < (L.length : Int) := by omega
      have hkn : k = n := by have := HN.out; omega
      have EF2 : Hid (eF 0 L = F) := by
        show _ = _
        rw [EF.out, HN.out.1, ← hkn, HFK.out]
      have HKN : Hid (k = n) := hkn
      clear hlt hj hk hkn
      go_wp2_with fail
      refine HK1.out _ _ ?_
      exact rp_tail s w wr r g5 g10 g11 t F hd nt1 isn gd cv { noEv with y := 2, r := aV (L.drop 3) k } nilS vr _ _ _ _ _ _ _ _ _ _ _ _ _ _ _ _ _ _ _ _ _ _ _ _ _ _ _ _ _ _ _ _ _ _ _ _ _ _ _ _ _ _ _ _ _ _ _ _ _ _ _ _ _ _ _ _ _ _ _ _ _ _ _ _ _ _ _ _ _ _ _ _ _ _ _ _ _ _ _ _ _ _ _ _ _ _ _ _ _ _ _ _ _ _ _ _ _ _ _ _ _ _ _ _ _ _ _ _ _ _ _ _ _ _ _ _ _ _ ⟨BR, BQ, BN, BC, BX, OwnV.nil _ _, OwnV.base Ov HLZ.out.2, bel, hr, l1, l2, l3⟩ (fun hne => by have h := HF.out (by rw [EF2.out]; exact hne); rw [EF2.out] at h; exact h) (fun h => by have h2 := H0.out (EF2.out.trans h); rw [h2, ev_ok HY.out, HT.out.1, HT.out.2, HN.out.1, ← HKN.out])
end Go.Proofs.YtdhlheilgagcpaaDoor
