/- The contract of the document's reading of what stands behind the type of an Invoke. Conditions: the words are at most 2^62 bytes, at most a million. -/
import Derived.Test.YtdhlheilgagcpaaDoorEN
namespace Go.Proofs.YtdhlheilgagcpaaDoor
open Go.RowKit Go.PlainAid Ln
set_option linter.unusedVariables false
set_option linter.unusedSimpArgs false

set_option maxRecDepth 100000 in
set_option maxHeartbeats 8000000 in
theorem rinvoked_any (v : Value) (L : List (List UInt8)) (w : World) (hv : SSl w v L) (hs : Sm L) (hN : L.length ≤ 900001) :
    Calls Tryd.prog 22 #[v] w fun e w' => RInv w (L.drop 3) e w' := by
  have mixed : Tryd.prog.follows .mixedOrders = true := by kernel_rfl
  obtain ⟨a, c, rfl, hlc, hcc, hnn⟩ := hv.form
  obtain ⟨r, hr⟩ : ∃ r, w.heap.size = r := ⟨_, rfl⟩
  have BR : Blk ((w.alloc (.cells #[.int .i64 0, .int .i64 0, .int .i64 0, .string ⟨#[]⟩, .int .i64 0, .int .i64 0, .int .i64 0, .int .i64 0, .string ⟨#[]⟩, .int .i64 0, .slice none 0 0, .slice none 0 0, .bool false, .string ⟨#[]⟩] 41)).alloc (.cells #[.int .i64 0, .int .i64 0, .int .i64 0, .string ⟨#[]⟩, .int .i64 0, .int .i64 0, .int .i64 0, .int .i64 0, .string ⟨#[]⟩, .int .i64 0, .slice none 0 0, .slice none 0 0, .bool false, .string ⟨#[]⟩] 41)) r (evC noEv nilS nilS) 41 := by rw [← hr]; exact (Blk.new w (evC noEv nilS nilS) 41).alloc _
  have BQ : Blk ((w.alloc (.cells #[.int .i64 0, .int .i64 0, .int .i64 0, .string ⟨#[]⟩, .int .i64 0, .int .i64 0, .int .i64 0, .int .i64 0, .string ⟨#[]⟩, .int .i64 0, .slice none 0 0, .slice none 0 0, .bool false, .string ⟨#[]⟩] 41)).alloc (.cells #[.int .i64 0, .int .i64 0, .int .i64 0, .string ⟨#[]⟩, .int .i64 0, .int .i64 0, .int .i64 0, .int .i64 0, .string ⟨#[]⟩, .int .i64 0, .slice none 0 0, .slice none 0 0, .bool false, .string ⟨#[]⟩] 41)) (r + 1) (evC noEv nilS nilS) 41 := by
    have := Blk.new (w.alloc (.cells #[.int .i64 0, .int .i64 0, .int .i64 0, .string ⟨#[]⟩, .int .i64 0, .int .i64 0, .int .i64 0, .int .i64 0, .string ⟨#[]⟩, .int .i64 0, .slice none 0 0, .slice none 0 0, .bool false, .string ⟨#[]⟩] 41)) (evC noEv nilS nilS) 41
    rw [World.size_alloc, hr] at this
    exact this
  have bel : Below w.heap.size w ((w.alloc (.cells #[.int .i64 0, .int .i64 0, .int .i64 0, .string ⟨#[]⟩, .int .i64 0, .int .i64 0, .int .i64 0, .int .i64 0, .string ⟨#[]⟩, .int .i64 0, .slice none 0 0, .slice none 0 0, .bool false, .string ⟨#[]⟩] 41)).alloc (.cells #[.int .i64 0, .int .i64 0, .int .i64 0, .string ⟨#[]⟩, .int .i64 0, .int .i64 0, .int .i64 0, .int .i64 0, .string ⟨#[]⟩, .int .i64 0, .slice none 0 0, .slice none 0 0, .bool false, .string ⟨#[]⟩] 41)) := below_more (below_more (Below.refl _ _) _) _
  have hrr : w.heap.size ≤ r := by omega
  have hqr : w.heap.size ≤ r + 1 := by omega
  have HV0 : Hid (SSl w (.slice a L.length c) L) := hv
  have HSm : Hid (Sm L) := hs
  have HM0 : ∀ i, i < L.length → (bs (nt L i)).size ≤ 4611686018427387904 := fun i hi => by rw [nt_eq L i hi]; exact hs _ (List.getElem_mem hi)
  have HM : Hid (∀ i, i < L.length → (bs (nt L i)).size ≤ 4611686018427387904) := HM0
  have HR : Hid (w.heap.size = r) := hr
  clear hv hs HM0
  by_cases h4 : L.length < 4
  · have HV : Hid (vF (L.drop 3) = 2) := by
      show _ = _
      have := cF_model (cM_none (L := L) (by omega))
      rw [vF_of (by rw [this]; decide), this]
    have h4' : (L.length : Int) < 4 := by omega
    go_enter Tryd.func22, Tryd.ntmps22
    go_wp2_with (first
      | ((with_reducible refine wp_loadB 41 (.tmp 4) (r + 1) 0 (evC noEv (nilS) nilS) (evC noEv (nilS) nilS) 41 _ Tryd.underlying41 ?_ ?_ ?_ ?_ BQ (fun j v hv => by rw [Nat.zero_add]; exact hv) ?_); (exact rfl); (exact sizeE); (exact ⟨rfl, rfl⟩); (exact rfl))
      | ((with_reducible refine wp_storeB 41 (.tmp 2) (.tmp 21) r 0 (evC noEv (nilS) nilS) (evC noEv nilS nilS) 41 ?_ ?_ (evC_one _ rfl rfl) ?_ ?_ ?_ BR ?_); (exact sizeE); (exact (show 0 + 14 ≤ 14 by decide)); (exact ⟨rfl, rfl⟩); (exact rfl); (exact rfl); (intro wx Rx ox)))
    replace Rx : Blk wx r (evC noEv (nilS) nilS) 41 := Rx
    refine ret_blk2 rfl r (evC noEv (nilS) nilS) 41 _ (.int .i64 2) Tryd.underlying41 rfl sizeE rfl Rx rfl rfl ?_
    unfold RInv
    rw [HV.out]
    exact ⟨noEv, nilS, rfl, fun h => absurd h (by first | decide | exact HNE.out), OwnV.oth (OwnV.nil _ _) ox BR (by decide), below_oth bel ox hrr hrr bel.size⟩
  have h4' : ¬ (L.length : Int) < 4 := by omega
  obtain ⟨b, o, rfl, _⟩ := HV0.out.block (by omega)
  have CELLS : Hid (∀ wz, Below w.heap.size w wz → ∀ i, i < L.length → wz.cell? ⟨b, o + i, none⟩ = some (.string (hdW (L.drop i)))) := fun wz hz i hi => by
    rw [hdW_at L i hi]; exact SSl.cell (HV0.out.later hz) hi
  have HSZ : Hid (∀ i, i < L.length → (hdW (L.drop i)).size ≤ 4611686018427387904) := fun i hi => by rw [hdW_at L i hi]; exact HM.out i hi
  obtain ⟨m, hm⟩ : ∃ m, cM (L.drop 3) = m := ⟨_, rfl⟩
  have HCM : Hid (cM (L.drop 3) = m) := hm
  clear hm h4 hnn
  have cx := CELLS.out _ bel 3 (by omega)
  by_cases hm0 : m = 0
  · have HV : Hid (vF (L.drop 3) = 2) := by
      show _ = _
      have := cF_model (HCM.out.trans hm0)
      rw [vF_of (by rw [this]; decide), this]
    have hq : ((m : Int) == 0) = true := by rw [hm0]; rfl
    clear hm0
    go_enter Tryd.func22, Tryd.ntmps22
    go_wp2_with fail
    refine (rmodel_any _ _).mono ?_
    rintro e w1 ⟨m1, rfl, hm1, _, b1⟩
    obtain rfl : m = m1 := ((isW_eq apart_m hm1).trans HCM.out).symm
    clear hm1 cx
    replace BQ := BQ.later b1
    replace BR := BR.later b1
    replace bel := bel.trans (b1.mono bel.size)
    clear b1
    go_wp2_with (first
      | ((with_reducible refine wp_loadB 41 (.tmp 4) (r + 1) 0 (evC noEv (nilS) nilS) (evC noEv (nilS) nilS) 41 _ Tryd.underlying41 ?_ ?_ ?_ ?_ BQ (fun j v hv => by rw [Nat.zero_add]; exact hv) ?_); (exact rfl); (exact sizeE); (exact ⟨rfl, rfl⟩); (exact rfl))
      | ((with_reducible refine wp_storeB 41 (.tmp 2) (.tmp 21) r 0 (evC noEv (nilS) nilS) (evC noEv nilS nilS) 41 ?_ ?_ (evC_one _ rfl rfl) ?_ ?_ ?_ BR ?_); (exact sizeE); (exact (show 0 + 14 ≤ 14 by decide)); (exact ⟨rfl, rfl⟩); (exact rfl); (exact rfl); (intro wx Rx ox)))
    replace Rx : Blk wx r (evC noEv (nilS) nilS) 41 := Rx
    refine ret_blk2 rfl r (evC noEv (nilS) nilS) 41 _ (.int .i64 2) Tryd.underlying41 rfl sizeE rfl Rx rfl rfl ?_
    unfold RInv
    rw [HV.out]
    exact ⟨noEv, nilS, rfl, fun h => absurd h (by first | decide | exact HNE.out), OwnV.oth (OwnV.nil _ _) ox BR (by decide), below_oth bel ox hrr hrr bel.size⟩
  have hmp : 0 < m := by omega
  have hq : ((m : Int) == 0) = false := by simp; omega
  clear hm0
  by_cases h5 : L.length < 5
  · have h5' : (L.length : Int) < 5 := by omega
    have HV : Hid (vF (L.drop 3) = 2) := by
      show _ = _
      have e1 : tkF 1 0 ((L.drop 3).drop 1) = 2 := by rw [List.drop_drop, tkF_name 1 (by decide), hdW_none L _ (by omega), nE_empty]
      have := cF_key (by rw [HCM.out]; exact hmp) (by rw [e1]; decide)
      rw [e1] at this
      rw [vF_of (by rw [this]; decide), this]
    clear h5
    go_enter Tryd.func22, Tryd.ntmps22
    go_wp2_with fail
    refine (rmodel_any _ _).mono ?_
    rintro e w1 ⟨m1, rfl, hm1, _, b1⟩
    obtain rfl : m = m1 := ((isW_eq apart_m hm1).trans HCM.out).symm
    clear hm1 cx
    replace BQ := BQ.later b1
    replace BR := BR.later b1
    replace bel := bel.trans (b1.mono bel.size)
    clear b1
    have cx := CELLS.out _ bel 3 (by omega)
    go_wp2_with fail
    refine (rmodel_any _ _).mono ?_
    rintro e w2 ⟨m2, rfl, hm2, _, b2⟩
    obtain rfl : m = m2 := ((isW_eq apart_m hm2).trans HCM.out).symm
    clear hm2 cx
    replace BQ := BQ.later b2
    replace BR := BR.later b2
    replace bel := bel.trans (b2.mono bel.size)
    clear b2
    go_wp2_with (first
      | ((with_reducible refine wp_storeC 3 (.tmp 26) (.tmp 25) (r + 1) 5 (.int .i64 (m : Int)) (evC noEv nilS nilS) 41 ?_ ?_ ?_ ?_ ?_ ?_ ?_ BQ ?_); (exact sizeI); (exact (show 5 < 14 by decide)); (exact rfl); (exact rfl); (exact ⟨rfl, rfl⟩); (exact rfl); (exact rfl); (intro w3 BQ1 ox); (replace BQ1 : Blk w3 (r + 1) (evC ({ noEv with m := (m : Int) } : Ev) nilS nilS) 41 := BQ1); (replace BR := BR.oth ox (by omega) (by omega)); (replace bel := below_oth bel ox hqr hqr bel.size); clear BQ ox; (have BQ := BQ1); clear BQ1)
      | ((with_reducible refine wp_loadB 41 (.tmp 4) (r + 1) 0 (evC ({ noEv with m := (m : Int) } : Ev) (nilS) nilS) (evC ({ noEv with m := (m : Int) } : Ev) (nilS) nilS) 41 _ Tryd.underlying41 ?_ ?_ ?_ ?_ BQ (fun j v hv => by rw [Nat.zero_add]; exact hv) ?_); (exact rfl); (exact sizeE); (exact ⟨rfl, rfl⟩); (exact rfl))
      | ((with_reducible refine wp_storeB 41 (.tmp 2) (.tmp 30) r 0 (evC ({ noEv with m := (m : Int) } : Ev) (nilS) nilS) (evC noEv nilS nilS) 41 ?_ ?_ (evC_one _ rfl rfl) ?_ ?_ ?_ BR ?_); (exact sizeE); (exact (show 0 + 14 ≤ 14 by decide)); (exact ⟨rfl, rfl⟩); (exact rfl); (exact rfl); (intro wx Rx ox)))
    replace Rx : Blk wx r (evC ({ noEv with m := (m : Int) } : Ev) (nilS) nilS) 41 := Rx
    refine ret_blk2 rfl r (evC ({ noEv with m := (m : Int) } : Ev) (nilS) nilS) 41 _ (.int .i64 2) Tryd.underlying41 rfl sizeE rfl Rx rfl rfl ?_
    unfold RInv
    rw [HV.out]
    exact ⟨({ noEv with m := (m : Int) } : Ev), nilS, rfl, fun h => absurd h (by first | decide | exact HNE.out), OwnV.oth (OwnV.nil _ _) ox BR (by decide), below_oth bel ox hrr hrr bel.size⟩
  have hNm := fun w => rname_any (hdW (L.drop 4)) w (HSZ.out 4 (by omega))
  change ∀ w, Calls _ _ _ w fun e w' => e = .returned (.tuple #[.agg #[.int .i64 (vOf (L.drop 4)).1, .int .i64 (vOf (L.drop 4)).2.1, .string (vOf (L.drop 4)).2.2], .int .i64 (nE _)]) ∧ _ at hNm
  obtain ⟨kf, hkf⟩ : ∃ kf, nE (hdW (L.drop 4)) = kf := ⟨_, rfl⟩
  rw [hkf] at hNm
  have HKF : Hid (tkF 1 0 ((L.drop 3).drop 1) = kf) := by show _ = _; rw [List.drop_drop, tkF_name 1 (by decide), hkf]
  have H5 : Hid (¬ (L.length : Int) < 5) := by show ¬ _; omega
  have H5' : Hid (5 ≤ L.length) := by show _ ≤ _; omega
  have hmp' : Hid (0 < m) := hmp
  clear hkf h5 hmp
  by_cases hk0 : kf ≠ 0
  · have hne : (kf != 0) = true := by simp [hk0]
    have HNE : Hid (kf ≠ 0) := hk0
    have HV : Hid (vF (L.drop 3) = kf) := by
      show _ = _
      have := cF_key (by rw [HCM.out]; exact hmp'.out) (by rw [HKF.out]; exact hk0)
      rw [HKF.out] at this
      rw [vF_of (by rw [this]; exact hk0), this]
    clear hk0
    go_enter Tryd.func22, Tryd.ntmps22
    go_wp2_with fail
    refine (rmodel_any _ _).mono ?_
    rintro e w1 ⟨m1, rfl, hm1, _, b1⟩
    obtain rfl : m = m1 := ((isW_eq apart_m hm1).trans HCM.out).symm
    clear hm1 cx
    replace BQ := BQ.later b1
    replace BR := BR.later b1
    replace bel := bel.trans (b1.mono bel.size)
    clear b1
    have cx := CELLS.out _ bel 3 (by omega)
    go_wp2_with fail
    refine (rmodel_any _ _).mono ?_
    rintro e w2 ⟨m2, rfl, hm2, _, b2⟩
    obtain rfl : m = m2 := ((isW_eq apart_m hm2).trans HCM.out).symm
    clear hm2 cx
    replace BQ := BQ.later b2
    replace BR := BR.later b2
    replace bel := bel.trans (b2.mono bel.size)
    clear b2
    go_wp2_with (((with_reducible refine wp_storeC 3 (.tmp 26) (.tmp 25) (r + 1) 5 (.int .i64 (m : Int)) (evC noEv nilS nilS) 41 ?_ ?_ ?_ ?_ ?_ ?_ ?_ BQ ?_); (exact sizeI); (exact (show 5 < 14 by decide)); (exact rfl); (exact rfl); (exact ⟨rfl, rfl⟩); (exact rfl); (exact rfl); (intro w3 BQ1 ox); (replace BQ1 : Blk w3 (r + 1) (evC ({ noEv with m := (m : Int) } : Ev) nilS nilS) 41 := BQ1); (replace BR := BR.oth ox (by omega) (by omega)); (replace bel := below_oth bel ox hqr hqr bel.size); clear BQ ox; (have BQ := BQ1); clear BQ1); (have cx := CELLS.out _ bel 4 H5'.out); (have h5x : ¬ ((L.length : Int) < 5) := (by have := H5'.out; omega)))
    refine (hNm _).mono ?_
    rintro e w4 ⟨rfl, b4⟩
    clear cx
    replace BQ := BQ.later b4
    replace BR := BR.later b4
    replace bel := bel.trans (b4.mono bel.size)
    clear b4
    have BV : Blk (w4.alloc (.cells #[.int .i64 (vOf (L.drop 4)).1, .int .i64 (vOf (L.drop 4)).2.1, .string (vOf (L.drop 4)).2.2] 38)) w4.heap.size (vls (vOf (L.drop 4)).1 (vOf (L.drop 4)).2.1 (vOf (L.drop 4)).2.2) 38 := Blk.new w4 (vls _ _ _) 38
    have lq := BQ.lt
    have lr := BR.lt
    have BQ1 : Blk (w4.alloc (.cells #[.int .i64 (vOf (L.drop 4)).1, .int .i64 (vOf (L.drop 4)).2.1, .string (vOf (L.drop 4)).2.2] 38)) (r + 1) (evC ({ noEv with m := (m : Int) } : Ev) nilS nilS) 41 := BQ.alloc _
    have BR1 : Blk (w4.alloc (.cells #[.int .i64 (vOf (L.drop 4)).1, .int .i64 (vOf (L.drop 4)).2.1, .string (vOf (L.drop 4)).2.2] 38)) r (evC noEv nilS nilS) 41 := BR.alloc _
    have bel1 : Below w.heap.size w (w4.alloc (.cells #[.int .i64 (vOf (L.drop 4)).1, .int .i64 (vOf (L.drop 4)).2.1, .string (vOf (L.drop 4)).2.2] 38)) := below_more bel _
    clear BQ BR bel
    have BQ := BQ1
    have BR := BR1
    have bel := bel1
    clear BQ1 BR1 bel1
    go_wp2_with (first
      | ((with_reducible refine wp_loadB 41 (.tmp 4) (r + 1) 0 (evC ({ noEv with m := (m : Int) } : Ev) (nilS) nilS) (evC ({ noEv with m := (m : Int) } : Ev) (nilS) nilS) 41 _ Tryd.underlying41 ?_ ?_ ?_ ?_ BQ (fun j v hv => by rw [Nat.zero_add]; exact hv) ?_); (exact rfl); (exact sizeE); (exact ⟨rfl, rfl⟩); (exact rfl))
      | ((with_reducible refine wp_storeB 41 (.tmp 2) (.tmp 40) r 0 (evC ({ noEv with m := (m : Int) } : Ev) (nilS) nilS) (evC noEv nilS nilS) 41 ?_ ?_ (evC_one _ rfl rfl) ?_ ?_ ?_ BR ?_); (exact sizeE); (exact (show 0 + 14 ≤ 14 by decide)); (exact ⟨rfl, rfl⟩); (exact rfl); (exact rfl); (intro wx Rx ox)))
    replace Rx : Blk wx r (evC ({ noEv with m := (m : Int) } : Ev) (nilS) nilS) 41 := Rx
    refine ret_blk2 rfl r (evC ({ noEv with m := (m : Int) } : Ev) (nilS) nilS) 41 _ (.int .i64 kf) Tryd.underlying41 rfl sizeE rfl Rx rfl rfl ?_
    unfold RInv
    rw [HV.out]
    exact ⟨({ noEv with m := (m : Int) } : Ev), nilS, rfl, fun h => absurd h (by first | decide | exact HNE.out), OwnV.oth (OwnV.nil _ _) ox BR (by decide), below_oth bel ox hrr hrr bel.size⟩
  have hk1 : kf = 0 := Classical.not_not.1 hk0
  have hne : (kf != 0) = false := by rw [hk1]; rfl
  have HK1 : Hid (kf = 0) := hk1
  clear hk0 hk1
  by_cases h6 : L.length < 6
  · have h6' : (L.length : Int) < 6 := by omega
    have HV : Hid (vF (L.drop 3) = 2) := by
      show _ = _
      have := cF_can (by rw [HCM.out]; exact hmp'.out) (HKF.out.trans HK1.out)
      rw [cO_none (by omega), Int.natCast_zero, fi_zero] at this
      rw [vF_of (by rw [this]; decide), this]; rfl
    clear h6
    go_enter Tryd.func22, Tryd.ntmps22
    go_wp2_with fail
    refine (rmodel_any _ _).mono ?_
    rintro e w1 ⟨m1, rfl, hm1, _, b1⟩
    obtain rfl : m = m1 := ((isW_eq apart_m hm1).trans HCM.out).symm
    clear hm1 cx
    replace BQ := BQ.later b1
    replace BR := BR.later b1
    replace bel := bel.trans (b1.mono bel.size)
    clear b1
    have cx := CELLS.out _ bel 3 (by omega)
    go_wp2_with fail
    refine (rmodel_any _ _).mono ?_
    rintro e w2 ⟨m2, rfl, hm2, _, b2⟩
    obtain rfl : m = m2 := ((isW_eq apart_m hm2).trans HCM.out).symm
    clear hm2 cx
    replace BQ := BQ.later b2
    replace BR := BR.later b2
    replace bel := bel.trans (b2.mono bel.size)
    clear b2
    go_wp2_with (((with_reducible refine wp_storeC 3 (.tmp 26) (.tmp 25) (r + 1) 5 (.int .i64 (m : Int)) (evC noEv nilS nilS) 41 ?_ ?_ ?_ ?_ ?_ ?_ ?_ BQ ?_); (exact sizeI); (exact (show 5 < 14 by decide)); (exact rfl); (exact rfl); (exact ⟨rfl, rfl⟩); (exact rfl); (exact rfl); (intro w3 BQ1 ox); (replace BQ1 : Blk w3 (r + 1) (evC ({ noEv with m := (m : Int) } : Ev) nilS nilS) 41 := BQ1); (replace BR := BR.oth ox (by omega) (by omega)); (replace bel := below_oth bel ox hqr hqr bel.size); clear BQ ox; (have BQ := BQ1); clear BQ1); (have cx := CELLS.out _ bel 4 H5'.out); (have h5x : ¬ ((L.length : Int) < 5) := (by have := H5'.out; omega)))
    refine (hNm _).mono ?_
    rintro e w4 ⟨rfl, b4⟩
    clear cx
    replace BQ := BQ.later b4
    replace BR := BR.later b4
    replace bel := bel.trans (b4.mono bel.size)
    clear b4
    have BV : Blk (w4.alloc (.cells #[.int .i64 (vOf (L.drop 4)).1, .int .i64 (vOf (L.drop 4)).2.1, .string (vOf (L.drop 4)).2.2] 38)) w4.heap.size (vls (vOf (L.drop 4)).1 (vOf (L.drop 4)).2.1 (vOf (L.drop 4)).2.2) 38 := Blk.new w4 (vls _ _ _) 38
    have lq := BQ.lt
    have lr := BR.lt
    have BQ1 : Blk (w4.alloc (.cells #[.int .i64 (vOf (L.drop 4)).1, .int .i64 (vOf (L.drop 4)).2.1, .string (vOf (L.drop 4)).2.2] 38)) (r + 1) (evC ({ noEv with m := (m : Int) } : Ev) nilS nilS) 41 := BQ.alloc _
    have BR1 : Blk (w4.alloc (.cells #[.int .i64 (vOf (L.drop 4)).1, .int .i64 (vOf (L.drop 4)).2.1, .string (vOf (L.drop 4)).2.2] 38)) r (evC noEv nilS nilS) 41 := BR.alloc _
    have bel1 : Below w.heap.size w (w4.alloc (.cells #[.int .i64 (vOf (L.drop 4)).1, .int .i64 (vOf (L.drop 4)).2.1, .string (vOf (L.drop 4)).2.2] 38)) := below_more bel _
    clear BQ BR bel
    have BQ := BQ1
    have BR := BR1
    have bel := bel1
    clear BQ1 BR1 bel1
    go_wp2_with (first
      | ((with_reducible refine wp_loadB 38 (.tmp 5) w4.heap.size 0 (vls (vOf (L.drop 4)).1 (vOf (L.drop 4)).2.1 (vOf (L.drop 4)).2.2) (vls (vOf (L.drop 4)).1 (vOf (L.drop 4)).2.1 (vOf (L.drop 4)).2.2) 38 _ Tryd.underlying38 ?_ ?_ ?_ ?_ BV (fun j v hv => by rw [Nat.zero_add]; exact hv) ?_); (exact rfl); (exact sizeV); (exact ⟨rfl, rfl⟩); (exact rfl))
      | ((with_reducible refine wp_storeB 38 (.tmp 43) (.tmp 42) (r + 1) 6 (vls (vOf (L.drop 4)).1 (vOf (L.drop 4)).2.1 (vOf (L.drop 4)).2.2) (evC ({ noEv with m := (m : Int) } : Ev) nilS nilS) 41 ?_ ?_ (vls_one _ _ _) ?_ ?_ ?_ BQ ?_); (exact sizeV); (exact (show 6 + 3 ≤ 14 by decide)); (exact ⟨rfl, rfl⟩); (exact rfl); (exact rfl); (intro w5 BQ1 ox); (replace BQ1 : Blk w5 (r + 1) (evC ({ noEv with m := (m : Int), k := vOf (L.drop 4) } : Ev) nilS nilS) 41 := BQ1); (replace BR := BR.oth ox (by omega) (by omega)); (replace bel := below_oth bel ox hqr hqr bel.size); clear BQ BV ox; (have BQ := BQ1); clear BQ1))
    rename_i K1 hK1 K8 hK8
    have BQd := BQ.drew
    have BRd := BR.drew
    have beld : Below w.heap.size w { w5 with drawn := w5.drawn + 1 } := ⟨bel.os, bel.tape, bel.output, bel.size, bel.block⟩
    clear BQ BR bel
    refine wp_region_held (S := AnyW) mixed ?_
    generalize ({ w5 with drawn := w5.drawn + 1 } : World) = wd at BQd BRd beld ⊢
    have BQ := BQd
    have BR := BRd
    have bel := beld
    clear BQd BRd beld
    refine takeH 0 44 (.slice (some ⟨b, o, none⟩) L.length c) rfl rfl (by kernel_rfl) (by kernel_rfl) (by kernel_rfl) (fun c a w h => h) (.inl ⟨rfl, fun w _ => rfl⟩) (anyW _) ?_
    simp only [List.setIfInBounds_toArray, List.set_cons_zero, List.set_cons_succ]
    refine takeH 1 45 (.int .i64 (L.length : Int)) rfl rfl (by kernel_rfl) (by kernel_rfl) (by kernel_rfl) (fun c a w h => h) (.inl ⟨rfl, fun w _ => by go_simp⟩) (anyW _) ?_
    simp only [List.setIfInBounds_toArray, List.set_cons_zero, List.set_cons_succ]
    refine takeH 2 46 (.bool true) rfl rfl (by kernel_rfl) (by kernel_rfl) (by kernel_rfl) (fun c a w h => h) (.inl ⟨rfl, fun w _ => by go_simp⟩) (anyW _) ?_
    simp only [List.setIfInBounds_toArray, List.set_cons_zero, List.set_cons_succ]
    refine takeH 3 47 (.bool true) rfl rfl (by kernel_rfl) (by kernel_rfl) (by kernel_rfl) (fun c a w h => h) (.inl ⟨rfl, fun w _ => rfl⟩) (anyW _) ?_
    simp only [List.setIfInBounds_toArray, List.set_cons_zero, List.set_cons_succ]
    refine takeH 4 48 (undef) rfl rfl (by kernel_rfl) (by kernel_rfl) (by kernel_rfl) (fun c a w h => h) (.inr ⟨rfl, rfl⟩) (anyW _) ?_
    simp only [List.setIfInBounds_toArray, List.set_cons_zero, List.set_cons_succ]
    refine takeH 5 49 (undef) rfl rfl (by kernel_rfl) (by kernel_rfl) (by kernel_rfl) (fun c a w h => h) (.inr ⟨rfl, rfl⟩) (anyW _) ?_
    simp only [List.setIfInBounds_toArray, List.set_cons_zero, List.set_cons_succ]
    refine takeH 6 50 (undef) rfl rfl (by kernel_rfl) (by kernel_rfl) (by kernel_rfl) (fun c a w h => h) (.inr ⟨rfl, rfl⟩) (anyW _) ?_
    simp only [List.setIfInBounds_toArray, List.set_cons_zero, List.set_cons_succ]
    refine takeH 7 51 (undef) rfl rfl (by kernel_rfl) (by kernel_rfl) (by kernel_rfl) (fun c a w h => h) (.inr ⟨rfl, rfl⟩) (anyW _) ?_
    simp only [List.setIfInBounds_toArray, List.set_cons_zero, List.set_cons_succ]
    refine takeH 8 52 (undef) rfl rfl (by kernel_rfl) (by kernel_rfl) (by kernel_rfl) (fun c a w h => h) (.inr ⟨rfl, rfl⟩) (anyW _) ?_
    simp only [List.setIfInBounds_toArray, List.set_cons_zero, List.set_cons_succ]
    refine takeH 9 53 (undef) rfl rfl (by kernel_rfl) (by kernel_rfl) (by kernel_rfl) (fun c a w h => h) (.inr ⟨rfl, rfl⟩) (anyW _) ?_
    simp only [List.setIfInBounds_toArray, List.set_cons_zero, List.set_cons_succ]
    refine takeH 10 54 (undef) rfl rfl (by kernel_rfl) (by kernel_rfl) (by kernel_rfl) (fun c a w h => h) (.inr ⟨rfl, rfl⟩) (anyW _) ?_
    simp only [List.setIfInBounds_toArray, List.set_cons_zero, List.set_cons_succ]
    refine takeH 11 55 (undef) rfl rfl (by kernel_rfl) (by kernel_rfl) (by kernel_rfl) (fun c a w h => h) (.inr ⟨rfl, rfl⟩) (anyW _) ?_
    simp only [List.setIfInBounds_toArray, List.set_cons_zero, List.set_cons_succ]
    refine takeH 12 56 (undef) rfl rfl (by kernel_rfl) (by kernel_rfl) (by kernel_rfl) (fun c a w h => h) (.inr ⟨rfl, rfl⟩) (anyW _) ?_
    simp only [List.setIfInBounds_toArray, List.set_cons_zero, List.set_cons_succ]
    refine takeH 13 57 (.bool true) rfl rfl (by kernel_rfl) (by kernel_rfl) (by kernel_rfl) (fun c a w h => h) (.inl ⟨rfl, fun w _ => by go_simp⟩) (anyW _) ?_
    simp only [List.setIfInBounds_toArray, List.set_cons_zero, List.set_cons_succ]
    refine wpAnyH_done (by kernel_rfl) ?_ _
    show K8 _ _
    apply hK8
    clear hK8
    go_wp2_with (first
      | ((with_reducible refine wp_loadB 41 (.tmp 4) (r + 1) 0 (evC ({ noEv with m := (m : Int), k := vOf (L.drop 4) } : Ev) (nilS) nilS) (evC ({ noEv with m := (m : Int), k := vOf (L.drop 4) } : Ev) (nilS) nilS) 41 _ Tryd.underlying41 ?_ ?_ ?_ ?_ BQ (fun j v hv => by rw [Nat.zero_add]; exact hv) ?_); (exact rfl); (exact sizeE); (exact ⟨rfl, rfl⟩); (exact rfl))
      | ((with_reducible refine wp_storeB 41 (.tmp 2) (.tmp 58) r 0 (evC ({ noEv with m := (m : Int), k := vOf (L.drop 4) } : Ev) (nilS) nilS) (evC noEv nilS nilS) 41 ?_ ?_ (evC_one _ rfl rfl) ?_ ?_ ?_ BR ?_); (exact sizeE); (exact (show 0 + 14 ≤ 14 by decide)); (exact ⟨rfl, rfl⟩); (exact rfl); (exact rfl); (intro wx Rx ox)))
    replace Rx : Blk wx r (evC ({ noEv with m := (m : Int), k := vOf (L.drop 4) } : Ev) (nilS) nilS) 41 := Rx
    refine ret_blk2 rfl r (evC ({ noEv with m := (m : Int), k := vOf (L.drop 4) } : Ev) (nilS) nilS) 41 _ (.int .i64 2) Tryd.underlying41 rfl sizeE rfl Rx rfl rfl ?_
    unfold RInv
    rw [HV.out]
    exact ⟨({ noEv with m := (m : Int), k := vOf (L.drop 4) } : Ev), nilS, rfl, fun h => absurd h (by first | decide | exact HNE.out), OwnV.oth (OwnV.nil _ _) ox BR (by decide), below_oth bel ox hrr hrr bel.size⟩
  have H6 : Hid (¬ (L.length : Int) < 6) := by show ¬ _; omega
  obtain ⟨oo, ho⟩ : ∃ oo, cO (L.drop 3) = oo := ⟨_, rfl⟩
  have HCO : Hid (cO (L.drop 3) = oo) := ho
  have HCO2 : Hid (wI on 14 (hdW (L.drop 5)) = oo) := by show _ = _; rw [← cO_eq]; exact ho
  have HL6 : Hid (6 ≤ L.length) := by show _ ≤ _; omega
  clear ho h6
  cases hfi : fi (m : Int) (oo : Int)
  · have HFI : Hid (fi (m : Int) (oo : Int) = false) := hfi
    have HV : Hid (vF (L.drop 3) = 2) := by
      show _ = _
      have := cF_can (by rw [HCM.out]; exact hmp'.out) (HKF.out.trans HK1.out)
      rw [HCM.out, HCO.out, hfi] at this
      rw [vF_of (by rw [this]; decide), this]; rfl
    clear hfi
    go_enter Tryd.func22, Tryd.ntmps22
    go_wp2_with fail
    refine (rmodel_any _ _).mono ?_
    rintro e w1 ⟨m1, rfl, hm1, _, b1⟩
    obtain rfl : m = m1 := ((isW_eq apart_m hm1).trans HCM.out).symm
    clear hm1 cx
    replace BQ := BQ.later b1
    replace BR := BR.later b1
    replace bel := bel.trans (b1.mono bel.size)
    clear b1
    have cx := CELLS.out _ bel 3 (by omega)
    go_wp2_with fail
    refine (rmodel_any _ _).mono ?_
    rintro e w2 ⟨m2, rfl, hm2, _, b2⟩
    obtain rfl : m = m2 := ((isW_eq apart_m hm2).trans HCM.out).symm
    clear hm2 cx
    replace BQ := BQ.later b2
    replace BR := BR.later b2
    replace bel := bel.trans (b2.mono bel.size)
    clear b2
    go_wp2_with (((with_reducible refine wp_storeC 3 (.tmp 26) (.tmp 25) (r + 1) 5 (.int .i64 (m : Int)) (evC noEv nilS nilS) 41 ?_ ?_ ?_ ?_ ?_ ?_ ?_ BQ ?_); (exact sizeI); (exact (show 5 < 14 by decide)); (exact rfl); (exact rfl); (exact ⟨rfl, rfl⟩); (exact rfl); (exact rfl); (intro w3 BQ1 ox); (replace BQ1 : Blk w3 (r + 1) (evC ({ noEv with m := (m : Int) } : Ev) nilS nilS) 41 := BQ1); (replace BR := BR.oth ox (by omega) (by omega)); (replace bel := below_oth bel ox hqr hqr bel.size); clear BQ ox; (have BQ := BQ1); clear BQ1); (have cx := CELLS.out _ bel 4 H5'.out); (have h5x : ¬ ((L.length : Int) < 5) := (by have := H5'.out; omega)))
    refine (hNm _).mono ?_
    rintro e w4 ⟨rfl, b4⟩
    clear cx
    replace BQ := BQ.later b4
    replace BR := BR.later b4
    replace bel := bel.trans (b4.mono bel.size)
    clear b4
    have BV : Blk (w4.alloc (.cells #[.int .i64 (vOf (L.drop 4)).1, .int .i64 (vOf (L.drop 4)).2.1, .string (vOf (L.drop 4)).2.2] 38)) w4.heap.size (vls (vOf (L.drop 4)).1 (vOf (L.drop 4)).2.1 (vOf (L.drop 4)).2.2) 38 := Blk.new w4 (vls _ _ _) 38
    have lq := BQ.lt
    have lr := BR.lt
    have BQ1 : Blk (w4.alloc (.cells #[.int .i64 (vOf (L.drop 4)).1, .int .i64 (vOf (L.drop 4)).2.1, .string (vOf (L.drop 4)).2.2] 38)) (r + 1) (evC ({ noEv with m := (m : Int) } : Ev) nilS nilS) 41 := BQ.alloc _
    have BR1 : Blk (w4.alloc (.cells #[.int .i64 (vOf (L.drop 4)).1, .int .i64 (vOf (L.drop 4)).2.1, .string (vOf (L.drop 4)).2.2] 38)) r (evC noEv nilS nilS) 41 := BR.alloc _
    have bel1 : Below w.heap.size w (w4.alloc (.cells #[.int .i64 (vOf (L.drop 4)).1, .int .i64 (vOf (L.drop 4)).2.1, .string (vOf (L.drop 4)).2.2] 38)) := below_more bel _
    clear BQ BR bel
    have BQ := BQ1
    have BR := BR1
    have bel := bel1
    clear BQ1 BR1 bel1
    go_wp2_with (first
      | ((with_reducible refine wp_loadB 38 (.tmp 5) w4.heap.size 0 (vls (vOf (L.drop 4)).1 (vOf (L.drop 4)).2.1 (vOf (L.drop 4)).2.2) (vls (vOf (L.drop 4)).1 (vOf (L.drop 4)).2.1 (vOf (L.drop 4)).2.2) 38 _ Tryd.underlying38 ?_ ?_ ?_ ?_ BV (fun j v hv => by rw [Nat.zero_add]; exact hv) ?_); (exact rfl); (exact sizeV); (exact ⟨rfl, rfl⟩); (exact rfl))
      | ((with_reducible refine wp_storeB 38 (.tmp 43) (.tmp 42) (r + 1) 6 (vls (vOf (L.drop 4)).1 (vOf (L.drop 4)).2.1 (vOf (L.drop 4)).2.2) (evC ({ noEv with m := (m : Int) } : Ev) nilS nilS) 41 ?_ ?_ (vls_one _ _ _) ?_ ?_ ?_ BQ ?_); (exact sizeV); (exact (show 6 + 3 ≤ 14 by decide)); (exact ⟨rfl, rfl⟩); (exact rfl); (exact rfl); (intro w5 BQ1 ox); (replace BQ1 : Blk w5 (r + 1) (evC ({ noEv with m := (m : Int), k := vOf (L.drop 4) } : Ev) nilS nilS) 41 := BQ1); (replace BR := BR.oth ox (by omega) (by omega)); (replace bel := below_oth bel ox hqr hqr bel.size); clear BQ BV ox; (have BQ := BQ1); clear BQ1))
    rename_i K1 hK1 K8 hK8
    have BQd := BQ.drew
    have BRd := BR.drew
    have beld : Below w.heap.size w { w5 with drawn := w5.drawn + 1 } := ⟨bel.os, bel.tape, bel.output, bel.size, bel.block⟩
    clear BQ BR bel
    have cx := CELLS.out _ beld 5 HL6.out
    refine wp_region_held (S := Below ({ w5 with drawn := w5.drawn + 1 } : World).heap.size ({ w5 with drawn := w5.drawn + 1 } : World)) mixed ?_
    generalize ({ w5 with drawn := w5.drawn + 1 } : World) = wd at BQd BRd beld cx ⊢
    have HW : Below wd.heap.size wd wd := Below.refl _ _
    refine takeH 0 44 (.slice (some ⟨b, o, none⟩) L.length c) rfl rfl (by kernel_rfl) (by kernel_rfl) (by kernel_rfl) (fun c a w h => h) (.inl ⟨rfl, fun w _ => rfl⟩) HW ?_
    simp only [List.setIfInBounds_toArray, List.set_cons_zero, List.set_cons_succ]
    refine takeH 1 45 (.int .i64 (L.length : Int)) rfl rfl (by kernel_rfl) (by kernel_rfl) (by kernel_rfl) (fun c a w h => h) (.inl ⟨rfl, fun w _ => by go_simp⟩) HW ?_
    simp only [List.setIfInBounds_toArray, List.set_cons_zero, List.set_cons_succ]
    refine takeH 2 46 (.bool false) rfl rfl (by kernel_rfl) (by kernel_rfl) (by kernel_rfl) (fun c a w h => h) (.inl ⟨rfl, fun w _ => by have h6x : ¬ ((L.length : Int) < 6) := (by have := HL6.out; omega); go_simp⟩) HW ?_
    simp only [List.setIfInBounds_toArray, List.set_cons_zero, List.set_cons_succ]
    refine takeH 3 47 (.bool false) rfl rfl (by kernel_rfl) (by kernel_rfl) (by kernel_rfl) (fun c a w h => h) (.inl ⟨rfl, fun w _ => rfl⟩) HW ?_
    simp only [List.setIfInBounds_toArray, List.set_cons_zero, List.set_cons_succ]
    refine takeH 4 48 (.pointer (some ⟨r + 1, 5, none⟩)) rfl rfl (by kernel_rfl) (by kernel_rfl) (by kernel_rfl) (fun c a w h => h) (.inl ⟨rfl, fun w _ => by go_simp⟩) HW ?_
    simp only [List.setIfInBounds_toArray, List.set_cons_zero, List.set_cons_succ]
    refine takeH 5 49 (.int .i64 (m : Int)) rfl rfl (by kernel_rfl) (by kernel_rfl) (by kernel_rfl) (fun c a w h => h) (.inl ⟨rfl, fun wx hx => by have c := (BQd.later hx).cell 5 (.int .i64 (m : Int)) rfl; go_simp⟩) HW ?_
    simp only [List.setIfInBounds_toArray, List.set_cons_zero, List.set_cons_succ]
    refine takeH 6 50 (.slice (some ⟨b, o, none⟩) L.length c) rfl rfl (by kernel_rfl) (by kernel_rfl) (by kernel_rfl) (fun c a w h => h) (.inl ⟨rfl, fun w _ => rfl⟩) HW ?_
    simp only [List.setIfInBounds_toArray, List.set_cons_zero, List.set_cons_succ]
    refine takeH 7 51 (.pointer (some ⟨b, o + 5, none⟩)) rfl rfl (by kernel_rfl) (by kernel_rfl) (by kernel_rfl) (fun c a w h => h) (.inl ⟨rfl, fun w _ => by have h5y : ¬ ((L.length : Int) ≤ 5) := (by have := HL6.out; omega); go_simp⟩) HW ?_
    simp only [List.setIfInBounds_toArray, List.set_cons_zero, List.set_cons_succ]
    refine takeH 8 52 (.string (hdW (L.drop 5))) rfl rfl (by kernel_rfl) (by kernel_rfl) (by kernel_rfl) (fun c a w h => h) (.inl ⟨rfl, fun wx hx => by have c := CELLS.out _ (beld.trans (hx.mono beld.size)) 5 HL6.out; go_simp⟩) HW ?_
    simp only [List.setIfInBounds_toArray, List.set_cons_zero, List.set_cons_succ]
    refine wpAnyH_all (rs := [9]) (by kernel_rfl) (by simp) (fun i hi => ?_)
    obtain rfl : i = 9 := by simpa using hi
    refine wpOp_doG 9 (by rfl) (by rfl) ?_
    go_wp2_with fail
    refine (rop_any _ _).mono ?_
    rintro e z1 ⟨o1, rfl, hho, _, bz1⟩
    obtain rfl : oo = o1 := ((isW_eq apart_o hho).trans HCO2.out).symm
    refine ⟨bz1, ?_⟩
    clear HW hho cx
    refine wpAnyH_all (rs := [10]) (by kernel_rfl) (by simp) (fun i hi => ?_)
    obtain rfl : i = 10 := by simpa using hi
    refine wpOp_doG 10 (by rfl) (by rfl) ?_
    go_wp2_with fail
    refine (rfind_any _ _ _).mono ?_
    rintro e z2 ⟨vi, rfl, _, bz2⟩
    rw [HFI.out]
    have HW0 := bz1.trans (bz2.mono bz1.size)
    refine ⟨HW0, ?_⟩
    have HWh : Hid (Below wd.heap.size wd z2) := HW0
    clear HW0
    refine wpAnyH_all (rs := [11]) (by kernel_rfl) (by simp) (fun i hi => ?_)
    obtain rfl : i = 11 := by simpa using hi
    refine wpOp_doG 11 (by rfl) (by rfl) ?_
    go_wp2_with fail
    refine ⟨HWh.out, ?_⟩
    have HW := HWh.out
    refine takeH 12 56 (.bool true) rfl rfl (by kernel_rfl) (by kernel_rfl) (by kernel_rfl) (fun c a w h => h) (.inl ⟨rfl, fun w _ => by go_simp⟩) HW ?_
    simp only [List.setIfInBounds_toArray, List.set_cons_zero, List.set_cons_succ]
    refine takeH 13 57 (.bool true) rfl rfl (by kernel_rfl) (by kernel_rfl) (by kernel_rfl) (fun c a w h => h) (.inl ⟨rfl, fun w _ => by go_simp⟩) HW ?_
    simp only [List.setIfInBounds_toArray, List.set_cons_zero, List.set_cons_succ]
    have BQ := BQd.later HW
    have BR := BRd.later HW
    have bel := beld.trans (HW.mono beld.size)
    clear BQd BRd beld bz1 bz2
    refine wpAnyH_done (by kernel_rfl) ?_ _
    clear HW
    show K8 _ _
    apply hK8
    clear hK8
    go_wp2_with (first
      | ((with_reducible refine wp_loadB 41 (.tmp 4) (r + 1) 0 (evC ({ noEv with m := (m : Int), k := vOf (L.drop 4) } : Ev) (nilS) nilS) (evC ({ noEv with m := (m : Int), k := vOf (L.drop 4) } : Ev) (nilS) nilS) 41 _ Tryd.underlying41 ?_ ?_ ?_ ?_ BQ (fun j v hv => by rw [Nat.zero_add]; exact hv) ?_); (exact rfl); (exact sizeE); (exact ⟨rfl, rfl⟩); (exact rfl))
      | ((with_reducible refine wp_storeB 41 (.tmp 2) (.tmp 58) r 0 (evC ({ noEv with m := (m : Int), k := vOf (L.drop 4) } : Ev) (nilS) nilS) (evC noEv nilS nilS) 41 ?_ ?_ (evC_one _ rfl rfl) ?_ ?_ ?_ BR ?_); (exact sizeE); (exact (show 0 + 14 ≤ 14 by decide)); (exact ⟨rfl, rfl⟩); (exact rfl); (exact rfl); (intro wx Rx ox)))
    replace Rx : Blk wx r (evC ({ noEv with m := (m : Int), k := vOf (L.drop 4) } : Ev) (nilS) nilS) 41 := Rx
    refine ret_blk2 rfl r (evC ({ noEv with m := (m : Int), k := vOf (L.drop 4) } : Ev) (nilS) nilS) 41 _ (.int .i64 2) Tryd.underlying41 rfl sizeE rfl Rx rfl rfl ?_
    unfold RInv
    rw [HV.out]
    exact ⟨({ noEv with m := (m : Int), k := vOf (L.drop 4) } : Ev), nilS, rfl, fun h => absurd h (by first | decide | exact HNE.out), OwnV.oth (OwnV.nil _ _) ox BR (by decide), below_oth bel ox hrr hrr bel.size⟩
  · have HFI : Hid (fi (m : Int) (oo : Int) = true) := hfi
    have HCF : Hid (cF 0 (L.drop 3) = 0) := by
      show _ = _
      rw [cF_can (by rw [HCM.out]; exact hmp'.out) (HKF.out.trans HK1.out), HCM.out, HCO.out, hfi]; rfl
    clear hfi
    go_enter Tryd.func22, Tryd.ntmps22
    go_wp2_with fail
    refine (rmodel_any _ _).mono ?_
    rintro e w1 ⟨m1, rfl, hm1, _, b1⟩
    obtain rfl : m = m1 := ((isW_eq apart_m hm1).trans HCM.out).symm
    clear hm1 cx
    replace BQ := BQ.later b1
    replace BR := BR.later b1
    replace bel := bel.trans (b1.mono bel.size)
    clear b1
    have cx := CELLS.out _ bel 3 (by omega)
    go_wp2_with fail
    refine (rmodel_any _ _).mono ?_
    rintro e w2 ⟨m2, rfl, hm2, _, b2⟩
    obtain rfl : m = m2 := ((isW_eq apart_m hm2).trans HCM.out).symm
    clear hm2 cx
    replace BQ := BQ.later b2
    replace BR := BR.later b2
    replace bel := bel.trans (b2.mono bel.size)
    clear b2
    go_wp2_with (((with_reducible refine wp_storeC 3 (.tmp 26) (.tmp 25) (r + 1) 5 (.int .i64 (m : Int)) (evC noEv nilS nilS) 41 ?_ ?_ ?_ ?_ ?_ ?_ ?_ BQ ?_); (exact sizeI); (exact (show 5 < 14 by decide)); (exact rfl); (exact rfl); (exact ⟨rfl, rfl⟩); (exact rfl); (exact rfl); (intro w3 BQ1 ox); (replace BQ1 : Blk w3 (r + 1) (evC ({ noEv with m := (m : Int) } : Ev) nilS nilS) 41 := BQ1); (replace BR := BR.oth ox (by omega) (by omega)); (replace bel := below_oth bel ox hqr hqr bel.size); clear BQ ox; (have BQ := BQ1); clear BQ1); (have cx := CELLS.out _ bel 4 H5'.out); (have h5x : ¬ ((L.length : Int) < 5) := (by have := H5'.out; omega)))
    refine (hNm _).mono ?_
    rintro e w4 ⟨rfl, b4⟩
    clear cx
    replace BQ := BQ.later b4
    replace BR := BR.later b4
    replace bel := bel.trans (b4.mono bel.size)
    clear b4
    have BV : Blk (w4.alloc (.cells #[.int .i64 (vOf (L.drop 4)).1, .int .i64 (vOf (L.drop 4)).2.1, .string (vOf (L.drop 4)).2.2] 38)) w4.heap.size (vls (vOf (L.drop 4)).1 (vOf (L.drop 4)).2.1 (vOf (L.drop 4)).2.2) 38 := Blk.new w4 (vls _ _ _) 38
    have lq := BQ.lt
    have lr := BR.lt
    have BQ1 : Blk (w4.alloc (.cells #[.int .i64 (vOf (L.drop 4)).1, .int .i64 (vOf (L.drop 4)).2.1, .string (vOf (L.drop 4)).2.2] 38)) (r + 1) (evC ({ noEv with m := (m : Int) } : Ev) nilS nilS) 41 := BQ.alloc _
    have BR1 : Blk (w4.alloc (.cells #[.int .i64 (vOf (L.drop 4)).1, .int .i64 (vOf (L.drop 4)).2.1, .string (vOf (L.drop 4)).2.2] 38)) r (evC noEv nilS nilS) 41 := BR.alloc _
    have bel1 : Below w.heap.size w (w4.alloc (.cells #[.int .i64 (vOf (L.drop 4)).1, .int .i64 (vOf (L.drop 4)).2.1, .string (vOf (L.drop 4)).2.2] 38)) := below_more bel _
    clear BQ BR bel
    have BQ := BQ1
    have BR := BR1
    have bel := bel1
    clear BQ1 BR1 bel1
    go_wp2_with (first
      | ((with_reducible refine wp_loadB 38 (.tmp 5) w4.heap.size 0 (vls (vOf (L.drop 4)).1 (vOf (L.drop 4)).2.1 (vOf (L.drop 4)).2.2) (vls (vOf (L.drop 4)).1 (vOf (L.drop 4)).2.1 (vOf (L.drop 4)).2.2) 38 _ Tryd.underlying38 ?_ ?_ ?_ ?_ BV (fun j v hv => by rw [Nat.zero_add]; exact hv) ?_); (exact rfl); (exact sizeV); (exact ⟨rfl, rfl⟩); (exact rfl))
      | ((with_reducible refine wp_storeB 38 (.tmp 43) (.tmp 42) (r + 1) 6 (vls (vOf (L.drop 4)).1 (vOf (L.drop 4)).2.1 (vOf (L.drop 4)).2.2) (evC ({ noEv with m := (m : Int) } : Ev) nilS nilS) 41 ?_ ?_ (vls_one _ _ _) ?_ ?_ ?_ BQ ?_); (exact sizeV); (exact (show 6 + 3 ≤ 14 by decide)); (exact ⟨rfl, rfl⟩); (exact rfl); (exact rfl); (intro w5 BQ1 ox); (replace BQ1 : Blk w5 (r + 1) (evC ({ noEv with m := (m : Int), k := vOf (L.drop 4) } : Ev) nilS nilS) 41 := BQ1); (replace BR := BR.oth ox (by omega) (by omega)); (replace bel := below_oth bel ox hqr hqr bel.size); clear BQ BV ox; (have BQ := BQ1); clear BQ1))
    rename_i K1 hK1 K8 hK8
    have BQd := BQ.drew
    have BRd := BR.drew
    have beld : Below w.heap.size w { w5 with drawn := w5.drawn + 1 } := ⟨bel.os, bel.tape, bel.output, bel.size, bel.block⟩
    clear BQ BR bel
    have cx := CELLS.out _ beld 5 HL6.out
    refine wp_region_held (S := Below ({ w5 with drawn := w5.drawn + 1 } : World).heap.size ({ w5 with drawn := w5.drawn + 1 } : World)) mixed ?_
    generalize ({ w5 with drawn := w5.drawn + 1 } : World) = wd at BQd BRd beld cx ⊢
    have HW : Below wd.heap.size wd wd := Below.refl _ _
    refine takeH 0 44 (.slice (some ⟨b, o, none⟩) L.length c) rfl rfl (by kernel_rfl) (by kernel_rfl) (by kernel_rfl) (fun c a w h => h) (.inl ⟨rfl, fun w _ => rfl⟩) HW ?_
    simp only [List.setIfInBounds_toArray, List.set_cons_zero, List.set_cons_succ]
    refine takeH 1 45 (.int .i64 (L.length : Int)) rfl rfl (by kernel_rfl) (by kernel_rfl) (by kernel_rfl) (fun c a w h => h) (.inl ⟨rfl, fun w _ => by go_simp⟩) HW ?_
    simp only [List.setIfInBounds_toArray, List.set_cons_zero, List.set_cons_succ]
    refine takeH 2 46 (.bool false) rfl rfl (by kernel_rfl) (by kernel_rfl) (by kernel_rfl) (fun c a w h => h) (.inl ⟨rfl, fun w _ => by have h6x : ¬ ((L.length : Int) < 6) := (by have := HL6.out; omega); go_simp⟩) HW ?_
    simp only [List.setIfInBounds_toArray, List.set_cons_zero, List.set_cons_succ]
    refine takeH 3 47 (.bool false) rfl rfl (by kernel_rfl) (by kernel_rfl) (by kernel_rfl) (fun c a w h => h) (.inl ⟨rfl, fun w _ => rfl⟩) HW ?_
    simp only [List.setIfInBounds_toArray, List.set_cons_zero, List.set_cons_succ]
    refine takeH 4 48 (.pointer (some ⟨r + 1, 5, none⟩)) rfl rfl (by kernel_rfl) (by kernel_rfl) (by kernel_rfl) (fun c a w h => h) (.inl ⟨rfl, fun w _ => by go_simp⟩) HW ?_
    simp only [List.setIfInBounds_toArray, List.set_cons_zero, List.set_cons_succ]
    refine takeH 5 49 (.int .i64 (m : Int)) rfl rfl (by kernel_rfl) (by kernel_rfl) (by kernel_rfl) (fun c a w h => h) (.inl ⟨rfl, fun wx hx => by have c := (BQd.later hx).cell 5 (.int .i64 (m : Int)) rfl; go_simp⟩) HW ?_
    simp only [List.setIfInBounds_toArray, List.set_cons_zero, List.set_cons_succ]
    refine takeH 6 50 (.slice (some ⟨b, o, none⟩) L.length c) rfl rfl (by kernel_rfl) (by kernel_rfl) (by kernel_rfl) (fun c a w h => h) (.inl ⟨rfl, fun w _ => rfl⟩) HW ?_
    simp only [List.setIfInBounds_toArray, List.set_cons_zero, List.set_cons_succ]
    refine takeH 7 51 (.pointer (some ⟨b, o + 5, none⟩)) rfl rfl (by kernel_rfl) (by kernel_rfl) (by kernel_rfl) (fun c a w h => h) (.inl ⟨rfl, fun w _ => by have h5y : ¬ ((L.length : Int) ≤ 5) := (by have := HL6.out; omega); go_simp⟩) HW ?_
    simp only [List.setIfInBounds_toArray, List.set_cons_zero, List.set_cons_succ]
    refine takeH 8 52 (.string (hdW (L.drop 5))) rfl rfl (by kernel_rfl) (by kernel_rfl) (by kernel_rfl) (fun c a w h => h) (.inl ⟨rfl, fun wx hx => by have c := CELLS.out _ (beld.trans (hx.mono beld.size)) 5 HL6.out; go_simp⟩) HW ?_
    simp only [List.setIfInBounds_toArray, List.set_cons_zero, List.set_cons_succ]
    refine wpAnyH_all (rs := [9]) (by kernel_rfl) (by simp) (fun i hi => ?_)
    obtain rfl : i = 9 := by simpa using hi
    refine wpOp_doG 9 (by rfl) (by rfl) ?_
    go_wp2_with fail
    refine (rop_any _ _).mono ?_
    rintro e z1 ⟨o1, rfl, hho, _, bz1⟩
    obtain rfl : oo = o1 := ((isW_eq apart_o hho).trans HCO2.out).symm
    refine ⟨bz1, ?_⟩
    clear HW hho cx
    refine wpAnyH_all (rs := [10]) (by kernel_rfl) (by simp) (fun i hi => ?_)
    obtain rfl : i = 10 := by simpa using hi
    refine wpOp_doG 10 (by rfl) (by rfl) ?_
    go_wp2_with fail
    refine (rfind_any _ _ _).mono ?_
    rintro e z2 ⟨vi, rfl, _, bz2⟩
    rw [HFI.out]
    have HW0 := bz1.trans (bz2.mono bz1.size)
    refine ⟨HW0, ?_⟩
    have HWh : Hid (Below wd.heap.size wd z2) := HW0
    clear HW0
    refine wpAnyH_all (rs := [11]) (by kernel_rfl) (by simp) (fun i hi => ?_)
    obtain rfl : i = 11 := by simpa using hi
    refine wpOp_doG 11 (by rfl) (by rfl) ?_
    go_wp2_with fail
    refine ⟨HWh.out, ?_⟩
    have HW := HWh.out
    refine takeH 12 56 (.bool false) rfl rfl (by kernel_rfl) (by kernel_rfl) (by kernel_rfl) (fun c a w h => h) (.inl ⟨rfl, fun w _ => by go_simp⟩) HW ?_
    simp only [List.setIfInBounds_toArray, List.set_cons_zero, List.set_cons_succ]
    refine takeH 13 57 (.bool false) rfl rfl (by kernel_rfl) (by kernel_rfl) (by kernel_rfl) (fun c a w h => h) (.inl ⟨rfl, fun w _ => by go_simp⟩) HW ?_
    simp only [List.setIfInBounds_toArray, List.set_cons_zero, List.set_cons_succ]
    have BQ := BQd.later HW
    have BR := BRd.later HW
    have bel := beld.trans (HW.mono beld.size)
    clear BQd BRd beld bz1 bz2
    refine wpAnyH_done (by kernel_rfl) ?_ _
    clear HW
    show K8 _ _
    apply hK8
    clear hK8
    go_step
    go_step
    show K1 _ _
    apply hK1
    exact inv_rest L w _ r c b o m oo _ _ _ _ _ _ _ _ _ _ _ _ _ _ _ _ _ _ _ _ _ _ _ _ _ _ _ _ _ _ _ _ _ _ _ _ _ _ _ _ _ _ _ _ _ _ _ _ _ _ _ _ _ _ _ _ _ _ _ _ _ _ _ _ _ _ _ _ _ _ _ _ _ _ _ _ _ _ _ _ _ _ _ _ _ _ _ _ _ _ _ _ _ _ _ _ _ _ _ _ _ _ _ _ _ _ _ _ _ _ _ _ HR.out hlc hcc hN HV0.out HSm.out HCM.out HCO.out HL6.out HCF.out BQ BR bel
end Go.Proofs.YtdhlheilgagcpaaDoor
