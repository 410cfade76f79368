/- The document's Parse at an Invoke. Conditions: what it has read lies in memory; the words are at most 2^62 bytes. -/
import Derived.Test.YtdhlheilgagcpaaDoorER
namespace Go.Proofs.YtdhlheilgagcpaaDoor
open Go.RowKit Go.PlainAid Ln
set_option linter.unusedVariables false
set_option linter.unusedSimpArgs false

theorem ev_invoke {L : List (List UInt8)} (h : eY L = 1) : eEv L = { invEv (L.drop 3) with y := 1, t := (eEv L).t, c := (eEv L).c } := by
  unfold eEv invEv
  simp only [if_pos h, l3_eq, l6_eq, tail1 (L.drop 3)]
  rfl
set_option maxRecDepth 100000 in
set_option maxHeartbeats 8000000 in
theorem rp_invoke (s : ByteArray) (L : List (List UInt8)) (w wz : World) (r g5 g10 g11 c : Nat) (a : Option Addr) (t : Int) (hd nt1 : List UInt8) (isn gd : Bool) (cv : Val) (x7 x12 x13 x14 x15 x16 x17 x18 x19 x20 x21 x22 x23 x24 x25 x26 x27 x28 x29 x30 x31 x32 x33 x34 x35 x36 x37 x38 x39 x40 x41 x42 x43 x44 x45 x46 x47 x48 x49 x50 x51 x52 x53 x54 x55 x56 x57 x58 x59 x60 x61 x62 x63 x64 x65 x66 x67 x68 x69 x70 x71 x72 x73 x74 x75 x76 x77 x78 x79 x80 x81 x82 x83 x84 x85 x86 x87 x88 x89 x90 x91 x92 x93 x94 x95 x96 x97 x98 x99 x100 x101 x102 x103 x104 x105 x106 x107 x108 x109 x110 x111 x112 x113 x114 x115 x116 x117 x118 x119 x120 x121 x122 x123 x124 x125 x126 x127 : Value)
    (hA : TAbout w wz r g5 g10 g11 hd nt1 isn gd cv noEv nilS nilS) (hv : SSl wz (.slice a L.length c) L) (hlo : LoB g11 (.slice a L.length c)) (hs : Sm L) (hN : L.length ≤ 900001) (hL3 : 3 ≤ L.length)
    (hF : eF 0 L ≠ 0 → pE (tx s) = (noEv, eF 0 L)) (h0 : eF 0 L = 0 → pE (tx s) = ({ eEv L with nd := isn, n := bs nt1 }, 0)) (ht : (eEv L).t = t ∧ (eEv L).c = cv) (h3 : e3 0 L = mf (decide (0 < eY L))) (hy : eY L = 1) :
    Code.wp Tryd.prog (sndC (sndC (sndC (sndC (sndC (sndC (sndC (sndC (sndC (sndC (sndC (sndC (Tryd.f12.body.getD .skip))))))))))))) (bodyPost Tryd.prog Tryd.f12 fun e w' => RParse w (tx s) e w') ⟨#[.string s, undef, .pointer (some ⟨r, 0, none⟩), .int .i64 0, .pointer (some ⟨r + 1, 0, none⟩), .pointer (some ⟨g5, 0, none⟩), .slice a L.length c, x7, .int .i64 t, .int .i64 0, .pointer (some ⟨g10, 0, none⟩), .pointer (some ⟨g11, 0, none⟩), x12, x13, x14, x15, x16, x17, x18, x19, x20, x21, x22, x23, x24, x25, x26, x27, x28, x29, x30, x31, x32, x33, x34, x35, x36, x37, x38, x39, x40, x41, x42, x43, x44, x45, x46, x47, x48, x49, x50, x51, x52, x53, x54, x55, x56, x57, x58, x59, x60, x61, x62, x63, x64, x65, x66, x67, x68, x69, x70, x71, x72, x73, x74, x75, x76, x77, x78, x79, x80, x81, x82, x83, x84, x85, x86, x87, x88, x89, x90, x91, x92, x93, x94, x95, x96, x97, x98, x99, x100, x101, x102, x103, x104, x105, x106, x107, x108, x109, x110, x111, x112, x113, x114, x115, x116, x117, x118, x119, x120, x121, x122, x123, x124, x125, x126, x127], []⟩ wz := by
  have mixed : Tryd.prog.follows .mixedOrders = true := by kernel_rfl
  have hY := hy
  rw [eY_eq] at hY
  have S1 := ty_1 (hdW (L.drop 2))
  have S2 := ty_2 (hdW (L.drop 2))
  have S3 := ty_3 (hdW (L.drop 2))
  have S4 := ty_4 (hdW (L.drop 2))
  rw [hY, decide_eq_true rfl] at S1
  rw [hY, decide_eq_false (by decide)] at S2
  rw [hY, decide_eq_false (by decide)] at S3
  rw [hY, decide_eq_false (by decide)] at S4
  have HY : Hid (eY L = 1) := hy
  obtain ⟨b, o, rfl, _⟩ := hv.block (by omega)
  have cx := SSl.cell hv (i := 2) (by omega)
  have e2 : bs (nt L 2) = hdW (L.drop 2) := (hdW_at L 2 (by omega)).symm
  rw [e2] at cx
  have HE2 : Hid (bs (nt L 2) = hdW (L.drop 2)) := e2
  clear e2
  have HL3 : Hid (3 ≤ L.length) := hL3
  have HA : Hid (TAbout w wz r g5 g10 g11 hd nt1 isn gd cv noEv nilS nilS) := hA
  have HV : Hid (SSl wz (.slice (some ⟨b, o, none⟩) L.length c) L) := hv
  have HF : Hid (eF 0 L ≠ 0 → pE (tx s) = (noEv, eF 0 L)) := hF
  have H0 : Hid (eF 0 L = 0 → pE (tx s) = ({ eEv L with nd := isn, n := bs nt1 }, 0)) := h0
  have HT : Hid ((eEv L).t = t ∧ (eEv L).c = cv) := ht
  have H3 : Hid (e3 0 L = mf (decide (0 < eY L))) := h3
  have HS : Hid (Sm L) := hs
  clear hv hA hF h0 ht h3 hy hY hs
  generalize hdW (L.drop 2) = S at *
  unfold Tryd.f12
  dsimp only [sndC, Option.getD]
  go_step
  go_step
  rename_i K1 hK1
  have HK1 : Hid (∀ (a : Act) (w : World), _ → K1 a w) := hK1
  clear hK1
  have EF : Hid (eF 0 L = vF (L.drop 3)) := by
    show _ = _
    exact eF_invoke (by rw [H3.out, HY.out]; rfl) HY.out
  obtain ⟨BR, BQ, BN, BC, BX, _, _, bel, hr, l1, l2, l3⟩ := HA.out
  go_wp2_with fail
  refine (rinvoked_any _ L _ HV.out HS.out hN).mono ?_
  rintro e z1 ⟨X, va, rfl, hX, Ova, b1⟩
  have HX : Hid (vF (L.drop 3) = 0 → X = invEv (L.drop 3)) := hX
  replace BR := BR.later b1
  replace BQ := BQ.later b1
  replace BN := BN.later b1
  replace BC := BC.later b1
  replace BX := BX.later b1
  have Va := OwnV.base Ova bel.size
  replace bel := bel.trans (b1.mono bel.size)
  have oa : va.oneCell' = true := by obtain ⟨a1, c1, e1⟩ := Va.form; rw [e1]; rfl
  have hX2 : w.heap.size ≤ g11 := by omega
  clear b1 hX Ova cx
  go_wp2_with (first
    | ((with_reducible refine wp_storeB 41 (.tmp 11) (.tmp 70) g11 0 (evC X va nilS) (evC noEv nilS nilS) 41 ?_ ?_ (evC_one _ oa rfl) ?_ ?_ ?_ BX ?_); (exact sizeE); (exact (show 0 + 14 ≤ 14 by decide)); (exact ⟨rfl, rfl⟩); (exact rfl); (exact rfl); (intro z2 BX1 ox); (replace BX1 : Blk z2 g11 (evC X va nilS) 41 := BX1); (have Va1 := OwnV.oth Va ox BX (by decide)); (have BR1 := BR.oth ox (by omega) (by omega)); (have BQ1 := BQ.oth ox (by omega) (by omega)); (have BN1 := BN.oth ox (by omega) (by omega)); (have BC1 := BC.oth ox (by omega) (by omega)); (have bel1 := below_oth bel ox hX2 hX2 bel.size); clear BX ox Va BR BQ BN BC bel)
    | ((with_reducible refine wp_storeC 3 (.tmp 72) (.const (.int .i64 1)) g11 4 (.int .i64 1) (evC X va nilS) 41 ?_ ?_ ?_ ?_ ?_ ?_ ?_ BX1 ?_); (exact sizeI); (exact (show 4 < 14 by decide)); (exact rfl); (exact rfl); (exact ⟨rfl, rfl⟩); (exact rfl); (exact rfl); (intro z3 BX2 ox); (replace BX2 : Blk z3 g11 (evC { X with y := 1 } va nilS) 41 := BX2); (have Va2 := OwnV.oth Va1 ox BX1 (by decide)); (have BR2 := BR1.oth ox (by omega) (by omega)); (have BQ2 := BQ1.oth ox (by omega) (by omega)); (have BN2 := BN1.oth ox (by omega) (by omega)); (have BC2 := BC1.oth ox (by omega) (by omega)); (have bel2 := below_oth bel1 ox hX2 hX2 bel1.size); clear BX1 ox Va1 BR1 BQ1 BN1 BC1 bel1))
  refine HK1.out _ _ ?_
  exact rp_tail s w _ r g5 g10 g11 t (vF (L.drop 3)) hd nt1 isn gd cv ({ X with y := 1, r := [] } : Ev) va nilS _ _ _ _ _ _ _ _ _ _ _ _ _ _ _ _ _ _ _ _ _ _ _ _ _ _ _ _ _ _ _ _ _ _ _ _ _ _ _ _ _ _ _ _ _ _ _ _ _ _ _ _ _ _ _ _ _ _ _ _ _ _ _ _ _ _ _ _ _ _ _ _ _ _ _ _ _ _ _ _ _ _ _ _ _ _ _ _ _ _ _ _ _ _ _ _ _ _ _ _ _ _ _ _ _ _ _ _ _ _ _ _ _ _ _ _ _ _ ⟨BR2, BQ2, BN2, BC2, BX2, Va2, OwnV.nil _ _, bel2, hr, l1, l2, l3⟩ (fun hne => by have h := HF.out (by rw [EF.out]; exact hne); rw [EF.out] at h; exact h) (fun h => by have h2 := H0.out (EF.out.trans h); rw [h2, ev_invoke HY.out, HX.out h, HT.out.1, HT.out.2]; try rfl)
end Go.Proofs.YtdhlheilgagcpaaDoor
