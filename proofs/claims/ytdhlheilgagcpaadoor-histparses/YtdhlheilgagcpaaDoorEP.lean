/- The document's Parse, from there on where the words are read. Conditions: what it has read lies in memory. -/
import Derived.Test.YtdhlheilgagcpaaDoorEL
import Derived.Test.YtdhlheilgagcpaaDoorEN
namespace Go.Proofs.YtdhlheilgagcpaaDoor
open Go.RowKit Go.PlainAid Ln
set_option linter.unusedVariables false
set_option linter.unusedSimpArgs false

/-- the end: a fault, or the event with time, client and note -/
def TAbout (w wz : World) (r g5 g10 g11 : Nat) (hd nt1 : List UInt8) (isn gd : Bool) (c : Val) (X : Ev) (va vr : Value) : Prop :=
  Blk wz r (evC noEv nilS nilS) 41 ∧ Blk wz (r + 1) (evC noEv nilS nilS) 41 ∧ Blk wz g5 [.string (bs hd), .string (bs nt1), .bool isn, .bool gd] 62 ∧ Blk wz g10 (vls c.1 c.2.1 c.2.2) 38 ∧ Blk wz g11 (evC X va vr) 41 ∧
    OwnV wz w.heap.size va X.a ∧ OwnV wz w.heap.size vr X.r ∧ Below w.heap.size w wz ∧ (w.heap.size = r ∧ r + 1 < g5 ∧ g5 < g10 ∧ g10 < g11)
set_option maxRecDepth 100000 in
set_option maxHeartbeats 8000000 in
theorem rp_tail (s : ByteArray) (w wz : World) (r g5 g10 g11 : Nat) (t F : Int) (hd nt1 : List UInt8) (isn gd : Bool) (c : Val) (X : Ev) (va vr x6 x7 x12 x13 x14 x15 x16 x17 x18 x19 x20 x21 x22 x23 x24 x25 x26 x27 x28 x29 x30 x31 x32 x33 x34 x35 x36 x37 x38 x39 x40 x41 x42 x43 x44 x45 x46 x47 x48 x49 x50 x51 x52 x53 x54 x55 x56 x57 x58 x59 x60 x61 x62 x63 x64 x65 x66 x67 x68 x69 x70 x71 x72 x73 x74 x75 x76 x77 x78 x79 x80 x81 x82 x83 x84 x85 x86 x87 x88 x89 x90 x91 x92 x93 x94 x95 x96 x97 x98 x99 x100 x101 x102 x103 x104 x105 x106 x107 x108 x109 x110 x111 x112 x113 x114 x115 x116 x117 x118 x119 x120 x121 x122 x123 x124 x125 x126 x127 : Value)
    (hA : TAbout w wz r g5 g10 g11 hd nt1 isn gd c X va vr) (hF : F ≠ 0 → pE (tx s) = (noEv, F)) (h0 : F = 0 → pE (tx s) = ({ X with t := t, c := c, nd := isn, n := bs nt1 }, 0)) :
    Code.wp Tryd.prog (sndC (sndC (sndC (sndC (sndC (sndC (sndC (sndC (sndC (sndC (sndC (sndC (sndC (Tryd.f12.body.getD .skip)))))))))))))) (bodyPost Tryd.prog Tryd.f12 fun e w' => RParse w (tx s) e w') ⟨#[.string s, undef, .pointer (some ⟨r, 0, none⟩), .int .i64 0, .pointer (some ⟨r + 1, 0, none⟩), .pointer (some ⟨g5, 0, none⟩), x6, x7, .int .i64 t, .int .i64 F, .pointer (some ⟨g10, 0, none⟩), .pointer (some ⟨g11, 0, none⟩), x12, x13, x14, x15, x16, x17, x18, x19, x20, x21, x22, x23, x24, x25, x26, x27, x28, x29, x30, x31, x32, x33, x34, x35, x36, x37, x38, x39, x40, x41, x42, x43, x44, x45, x46, x47, x48, x49, x50, x51, x52, x53, x54, x55, x56, x57, x58, x59, x60, x61, x62, x63, x64, x65, x66, x67, x68, x69, x70, x71, x72, x73, x74, x75, x76, x77, x78, x79, x80, x81, x82, x83, x84, x85, x86, x87, x88, x89, x90, x91, x92, x93, x94, x95, x96, x97, x98, x99, x100, x101, x102, x103, x104, x105, x106, x107, x108, x109, x110, x111, x112, x113, x114, x115, x116, x117, x118, x119, x120, x121, x122, x123, x124, x125, x126, x127], []⟩ wz := by
  have mixed : Tryd.prog.follows .mixedOrders = true := by kernel_rfl
  obtain ⟨BR, BQ, BN, BC, BX, Va, Vr, bel, hr, l1, l2, l3⟩ := hA
  have oa : va.oneCell' = true := by obtain ⟨a1, c1, e1⟩ := Va.form; rw [e1]; rfl
  have ob : vr.oneCell' = true := by obtain ⟨a1, c1, e1⟩ := Vr.form; rw [e1]; rfl
  have hrr : w.heap.size ≤ r := by omega
  have hqr : w.heap.size ≤ g11 := by omega
  by_cases hF0 : F = 0
  · have hne : (F != 0) = false := by simp [hF0]
    have HPE : Hid (pE (tx s) = ({ X with t := t, c := c, nd := isn, n := bs nt1 }, 0)) := h0 hF0
    have HR : Hid (w.heap.size = r) := hr
    clear h0 hF hF0 hr
    unfold Tryd.f12
    dsimp only [sndC, Option.getD]
    go_wp2_with fail
    rename_i K8 hK8
    have BRd := BR.drew
    have BNd := BN.drew
    have BCd := BC.drew
    have BXd := BX.drew
    have beld : Below w.heap.size w { wz with drawn := wz.drawn + 1 } := ⟨bel.os, bel.tape, bel.output, bel.size, bel.block⟩
    have Vad : OwnV { wz with drawn := wz.drawn + 1 } w.heap.size va X.a := Va
    have Vrd : OwnV { wz with drawn := wz.drawn + 1 } w.heap.size vr X.r := Vr
    clear BR BQ BN BC BX Va Vr bel
    refine wp_region_held (S := fun w' => Blk w' g10 (vls c.1 c.2.1 c.2.2) 38 ∧ Blk w' g5 [.string (bs hd), .string (bs nt1), .bool isn, .bool gd] 62) mixed ?_
    generalize ({ wz with drawn := wz.drawn + 1 } : World) = wd at BRd BNd BCd BXd beld Vad Vrd ⊢
    have HW := And.intro BCd BNd
    refine takeH 0 117 (.int .i64 t) rfl rfl (by kernel_rfl) (by kernel_rfl) (by kernel_rfl) (fun c a w h => h) (.inl ⟨rfl, fun w _ => rfl⟩) HW ?_
    simp only [List.setIfInBounds_toArray, List.set_cons_zero, List.set_cons_succ]
    refine takeH 1 118 (.agg (vls c.1 c.2.1 c.2.2).toArray) rfl rfl (by kernel_rfl) (by kernel_rfl) (by kernel_rfl) (fun c a w h => h) (yieldsIf_load_mid rfl 38 (.tmp 10) rfl g10 0 rfl (vls c.1 c.2.1 c.2.2) _ (fun wx hx => hx.1.all) Tryd.underlying38 rfl sizeV) HW ?_
    simp only [List.setIfInBounds_toArray, List.set_cons_zero, List.set_cons_succ]
    refine takeH 2 119 (.pointer (some ⟨g5, 2, none⟩)) rfl rfl (by kernel_rfl) (by kernel_rfl) (by kernel_rfl) (fun c a w h => h) (.inl ⟨rfl, fun w _ => by go_simp⟩) HW ?_
    simp only [List.setIfInBounds_toArray, List.set_cons_zero, List.set_cons_succ]
    refine takeH 3 120 (.bool isn) rfl rfl (by kernel_rfl) (by kernel_rfl) (by kernel_rfl) (fun c a w h => h) (.inl ⟨rfl, fun wx hx => by have c := hx.2.cell 2 (.bool isn) rfl; go_simp⟩) HW ?_
    simp only [List.setIfInBounds_toArray, List.set_cons_zero, List.set_cons_succ]
    refine takeH 4 121 (.pointer (some ⟨g5, 1, none⟩)) rfl rfl (by kernel_rfl) (by kernel_rfl) (by kernel_rfl) (fun c a w h => h) (.inl ⟨rfl, fun w _ => by go_simp⟩) HW ?_
    simp only [List.setIfInBounds_toArray, List.set_cons_zero, List.set_cons_succ]
    refine takeH 5 122 (.string (bs nt1)) rfl rfl (by kernel_rfl) (by kernel_rfl) (by kernel_rfl) (fun c a w h => h) (.inl ⟨rfl, fun wx hx => by have c := hx.2.cell 1 (.string (bs nt1)) rfl; go_simp⟩) HW ?_
    simp only [List.setIfInBounds_toArray, List.set_cons_zero, List.set_cons_succ]
    refine takeH 6 123 (.pointer (some ⟨g11, 0, none⟩)) rfl rfl (by kernel_rfl) (by kernel_rfl) (by kernel_rfl) (fun c a w h => h) (.inl ⟨rfl, fun w _ => by go_simp⟩) HW ?_
    simp only [List.setIfInBounds_toArray, List.set_cons_zero, List.set_cons_succ]
    refine wpAnyH_all (rs := [7]) (by kernel_rfl) (by simp) (fun i hi => ?_)
    obtain rfl : i = 7 := by simpa using hi
    refine wpOp_doG 7 (by rfl) (by rfl) ?_
    refine wpo_storeC 2 (.tmp 123) (.tmp 117) g11 0 (.int .i64 t) (evC X va vr) 41 sizeI64 (show 0 < 14 by decide) rfl rfl rfl rfl rfl BXd ?_
    intro z1 BX1 ox
    change _ ∧ wpAnyH _ _ _ _ _ _ _ (Act.mk _ _) _
    replace BX1 : Blk z1 g11 (evC { X with t := t } va vr) 41 := BX1
    have BC1 := BCd.oth ox (by omega) (by omega)
    have BN1 := BNd.oth ox (by omega) (by omega)
    have BR1 := BRd.oth ox (by omega) (by omega)
    have Va1 := OwnV.oth Vad ox BXd (by decide)
    have Vr1 := OwnV.oth Vrd ox BXd (by decide)
    have bel1 := below_oth beld ox hqr hqr beld.size
    refine ⟨⟨BC1, BN1⟩, ?_⟩
    clear HW BXd BCd BNd BRd Vad Vrd beld ox
    have HW := And.intro BC1 BN1
    have BXd := BX1
    have BCd := BC1
    have BNd := BN1
    have BRd := BR1
    have Vad := Va1
    have Vrd := Vr1
    have beld := bel1
    clear BX1 BC1 BN1 BR1 Va1 Vr1 bel1
    refine takeH 8 124 (.pointer (some ⟨g11, 1, none⟩)) rfl rfl (by kernel_rfl) (by kernel_rfl) (by kernel_rfl) (fun c a w h => h) (.inl ⟨rfl, fun w _ => by go_simp⟩) HW ?_
    simp only [List.setIfInBounds_toArray, List.set_cons_zero, List.set_cons_succ]
    refine wpAnyH_all (rs := [9]) (by kernel_rfl) (by simp) (fun i hi => ?_)
    obtain rfl : i = 9 := by simpa using hi
    refine wpOp_doG 9 (by rfl) (by rfl) ?_
    refine wpo_storeB 38 (.tmp 124) (.tmp 118) g11 1 (vls c.1 c.2.1 c.2.2) (evC { X with t := t } va vr) 41 sizeV (show 1 + 3 ≤ 14 by decide) (vls_one _ _ _) rfl rfl rfl BXd ?_
    intro z2 BX1 ox
    change _ ∧ wpAnyH _ _ _ _ _ _ _ (Act.mk _ _) _
    replace BX1 : Blk z2 g11 (evC { X with t := t, c := c } va vr) 41 := BX1
    have BC1 := BCd.oth ox (by omega) (by omega)
    have BN1 := BNd.oth ox (by omega) (by omega)
    have BR1 := BRd.oth ox (by omega) (by omega)
    have Va1 := OwnV.oth Vad ox BXd (by decide)
    have Vr1 := OwnV.oth Vrd ox BXd (by decide)
    have bel1 := below_oth beld ox hqr hqr beld.size
    refine ⟨⟨BC1, BN1⟩, ?_⟩
    clear HW BXd BCd BNd BRd Vad Vrd beld ox
    have HW := And.intro BC1 BN1
    have BXd := BX1
    have BCd := BC1
    have BNd := BN1
    have BRd := BR1
    have Vad := Va1
    have Vrd := Vr1
    have beld := bel1
    clear BX1 BC1 BN1 BR1 Va1 Vr1 bel1
    refine takeH 10 125 (.pointer (some ⟨g11, 12, none⟩)) rfl rfl (by kernel_rfl) (by kernel_rfl) (by kernel_rfl) (fun c a w h => h) (.inl ⟨rfl, fun w _ => by go_simp⟩) HW ?_
    simp only [List.setIfInBounds_toArray, List.set_cons_zero, List.set_cons_succ]
    refine wpAnyH_all (rs := [11]) (by kernel_rfl) (by simp) (fun i hi => ?_)
    obtain rfl : i = 11 := by simpa using hi
    refine wpOp_doG 11 (by rfl) (by rfl) ?_
    refine wpo_storeC 4 (.tmp 125) (.tmp 120) g11 12 (.bool isn) (evC { X with t := t, c := c } va vr) 41 sizeB (show 12 < 14 by decide) rfl rfl rfl rfl rfl BXd ?_
    intro z3 BX1 ox
    change _ ∧ wpAnyH _ _ _ _ _ _ _ (Act.mk _ _) _
    replace BX1 : Blk z3 g11 (evC { X with t := t, c := c, nd := isn } va vr) 41 := BX1
    have BC1 := BCd.oth ox (by omega) (by omega)
    have BN1 := BNd.oth ox (by omega) (by omega)
    have BR1 := BRd.oth ox (by omega) (by omega)
    have Va1 := OwnV.oth Vad ox BXd (by decide)
    have Vr1 := OwnV.oth Vrd ox BXd (by decide)
    have bel1 := below_oth beld ox hqr hqr beld.size
    refine ⟨⟨BC1, BN1⟩, ?_⟩
    clear HW BXd BCd BNd BRd Vad Vrd beld ox
    have HW := And.intro BC1 BN1
    have BXd := BX1
    have BCd := BC1
    have BNd := BN1
    have BRd := BR1
    have Vad := Va1
    have Vrd := Vr1
    have beld := bel1
    clear BX1 BC1 BN1 BR1 Va1 Vr1 bel1
    refine takeH 12 126 (.pointer (some ⟨g11, 13, none⟩)) rfl rfl (by kernel_rfl) (by kernel_rfl) (by kernel_rfl) (fun c a w h => h) (.inl ⟨rfl, fun w _ => by go_simp⟩) HW ?_
    simp only [List.setIfInBounds_toArray, List.set_cons_zero, List.set_cons_succ]
    refine wpAnyH_all (rs := [13]) (by kernel_rfl) (by simp) (fun i hi => ?_)
    obtain rfl : i = 13 := by simpa using hi
    refine wpOp_doG 13 (by rfl) (by rfl) ?_
    refine wpo_storeC 9 (.tmp 126) (.tmp 122) g11 13 (.string (bs nt1)) (evC { X with t := t, c := c, nd := isn } va vr) 41 infoS1 (show 13 < 14 by decide) rfl rfl rfl rfl rfl BXd ?_
    intro z4 BX1 ox
    change _ ∧ wpAnyH _ _ _ _ _ _ _ (Act.mk _ _) _
    replace BX1 : Blk z4 g11 (evC { X with t := t, c := c, nd := isn, n := bs nt1 } va vr) 41 := BX1
    have BC1 := BCd.oth ox (by omega) (by omega)
    have BN1 := BNd.oth ox (by omega) (by omega)
    have BR1 := BRd.oth ox (by omega) (by omega)
    have Va1 := OwnV.oth Vad ox BXd (by decide)
    have Vr1 := OwnV.oth Vrd ox BXd (by decide)
    have bel1 := below_oth beld ox hqr hqr beld.size
    refine ⟨⟨BC1, BN1⟩, ?_⟩
    clear HW BXd BCd BNd BRd Vad Vrd beld ox
    have HW := And.intro BC1 BN1
    have BXd := BX1
    have BCd := BC1
    have BNd := BN1
    have BRd := BR1
    have Vad := Va1
    have Vrd := Vr1
    have beld := bel1
    clear BX1 BC1 BN1 BR1 Va1 Vr1 bel1
    refine wpAnyH_done (by kernel_rfl) ?_ _
    clear HW
    show K8 _ _
    apply hK8
    clear hK8
    go_wp2_with (first
      | ((with_reducible refine wp_loadB 41 (.tmp 11) g11 0 (evC { X with t := t, c := c, nd := isn, n := bs nt1 } va vr) (evC { X with t := t, c := c, nd := isn, n := bs nt1 } va vr) 41 _ Tryd.underlying41 ?_ ?_ ?_ ?_ BXd (fun j v hv => by rw [Nat.zero_add]; exact hv) ?_); (exact rfl); (exact sizeE); (exact ⟨rfl, rfl⟩); (exact rfl))
      | ((with_reducible refine wp_storeB 41 (.tmp 2) (.tmp 127) r 0 (evC { X with t := t, c := c, nd := isn, n := bs nt1 } va vr) (evC noEv nilS nilS) 41 ?_ ?_ (evC_one _ oa ob) ?_ ?_ ?_ BRd ?_); (exact sizeE); (exact (show 0 + 14 ≤ 14 by decide)); (exact ⟨rfl, rfl⟩); (exact rfl); (exact rfl); (intro wx Rx ox)))
    replace Rx : Blk wx r (evC { X with t := t, c := c, nd := isn, n := bs nt1 } va vr) 41 := Rx
    refine ret_blk2 rfl r (evC { X with t := t, c := c, nd := isn, n := bs nt1 } va vr) 41 _ (.int .i64 0) Tryd.underlying41 rfl sizeE rfl Rx rfl rfl ?_
    unfold RParse
    rw [HPE.out]
    exact ⟨va, vr, rfl, OwnV.oth Vad ox BRd (by decide), OwnV.oth Vrd ox BRd (by decide), below_oth beld ox hrr hrr beld.size⟩
  · have hne : (F != 0) = true := by simp [hF0]
    have HPE : Hid (pE (tx s) = (noEv, F)) := hF hF0
    have HR : Hid (w.heap.size = r) := hr
    clear h0 hF hF0 hr
    unfold Tryd.f12
    dsimp only [sndC, Option.getD]
    go_wp2_with (first
      | ((with_reducible refine wp_loadB 41 (.tmp 4) (r + 1) 0 (evC noEv nilS nilS) (evC noEv nilS nilS) 41 _ Tryd.underlying41 ?_ ?_ ?_ ?_ BQ (fun j v hv => by rw [Nat.zero_add]; exact hv) ?_); (exact rfl); (exact sizeE); (exact ⟨rfl, rfl⟩); (exact rfl))
      | ((with_reducible refine wp_storeB 41 (.tmp 2) (.tmp 115) r 0 (evC noEv nilS nilS) (evC noEv nilS nilS) 41 ?_ ?_ (evC_one _ rfl rfl) ?_ ?_ ?_ BR ?_); (exact sizeE); (exact (show 0 + 14 ≤ 14 by decide)); (exact ⟨rfl, rfl⟩); (exact rfl); (exact rfl); (intro wx Rx ox)))
    replace Rx : Blk wx r (evC noEv nilS nilS) 41 := Rx
    refine ret_blk2 rfl r (evC noEv nilS nilS) 41 _ (.int .i64 F) Tryd.underlying41 rfl sizeE rfl Rx rfl rfl ?_
    unfold RParse
    rw [HPE.out]
    exact ⟨nilS, nilS, rfl, OwnV.nil _ _, OwnV.nil _ _, below_oth bel ox hrr hrr bel.size⟩
end Go.Proofs.YtdhlheilgagcpaaDoor
