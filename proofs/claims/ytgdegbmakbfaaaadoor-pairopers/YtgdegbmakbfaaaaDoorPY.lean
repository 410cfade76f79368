/- The contract of pass: the walk's state with one event more. Conditions: the walk's state and the history lie in memory; the event has no fault. -/
import Derived.Test.YtgdegbmakbfaaaaDoorPX
namespace Go.Proofs.YtgdegbmakbfaaaaDoor
open Go.RowKit Go.PlainAid Ln
set_option linter.unusedVariables false
set_option linter.unusedSimpArgs false

set_option maxRecDepth 100000 in
set_option maxHeartbeats 16000000 in
theorem pass_any (p mb ml n b o q c B : Nat) (ve : Value) (ys : List YE) (w : World) (hst : St w B p mb ml (.slice (some ⟨b, o, none⟩) q c) ve (ys.map (·.1)) n) (hh : Hst w b o q c ys) (hn : n < q) (hok : wrongE (ys.map (·.1)) n = 0) (hbB : b < B) (hB : B ≤ w.heap.size) :
    Calls Tryd.prog 27 #[.pointer (some ⟨p, 0, none⟩), .int .i64 (n : Int)] w fun e w' => e = .returned (.tuple #[]) ∧ (∃ v, St w' B p mb ml (.slice (some ⟨b, o, none⟩) q c) v (ys.map (·.1)) (n + 1)) ∧ Below B w w' := by
  have mixed : Tryd.prog.follows .mixedOrders = true := by kernel_rfl
  obtain ⟨_, hright, hform⟩ := wrong_0 hok
  have hnq : (n : Int) < (q : Int) := by have := hn; omega
  have hn0 : (0 : Int) ≤ (n : Int) := by omega
  have hq := hh.few
  have hqc := hh.le
  have hct := hh.top
  have hy := hh.row n hn
  have hin := hh.inl n (by rw [hh.len]; exact hn)
  have hkn := hh.kv n hn
  have hex := ev_ye ys n
  have hlen : n < (ys.map (·.1)).length := by rw [List.length_map, hh.len]; exact hn
  rcases hye : ye ys n with ⟨X, va, vr⟩
  rw [hye] at hy hin hkn hex
  have hty := right_ty hright
  obtain ⟨av, cv, rfl⟩ : ∃ a c, va = .slice a X.a.length c := by obtain ⟨a, c, h, _⟩ := hin.1; exact ⟨a, c, h⟩
  obtain ⟨ar, cr, rfl⟩ : ∃ a c, vr = .slice a X.r.length c := by obtain ⟨a, c, h, _⟩ := hin.2; exact ⟨a, c, h⟩
  obtain ⟨ae, ne, ce, rfl⟩ : ∃ a n c, ve = .slice a n c := by obtain ⟨a, c, h, _⟩ := hst.ends.isl; exact ⟨a, _, c, h⟩
  have HY : Hid (w.rangeAt b (o + n * 14) (evC X (.slice av X.a.length cv) (.slice ar X.r.length cr))) := hy
  have HBb : Hid (b < B) := hbB
  have HBs : Hid (B ≤ w.heap.size) := hB
  have HKV : Hid (KV X.c) := hkn
  have HXA : Hid (Sx (w.alloc (.cells #[.int .i64 (-1)] 3)) B p mb ml (.slice (some ⟨b, o, none⟩) q c) (.slice ae ne ce) n (openG (ys.map (·.1)) n) (lostG (ys.map (·.1)) n) (endsB (ys.map (·.1)) n)) := hst.sx.later (below_more (Below.refl _ _) _)
  have HBA : Hid (B ≤ (w.alloc (.cells #[.int .i64 (-1)] 3)).heap.size) := Nat.le_trans hB (below_more (Below.refl w.heap.size w) _).size
  have HBB : Hid (Below B w (w.alloc (.cells #[.int .i64 (-1)] 3))) := Below.alloc (Below.refl B w) hB _
  have HCA : Hid ((w.alloc (.cells #[.int .i64 (-1)] 3)).cell? ⟨w.heap.size, 0, none⟩ = some (.int .i64 (-1))) := (Blk.new w [.int .i64 (-1)] 3).cell 0 _ rfl
  have k0 := hst.blk.cell 0 _ rfl
  have k3 := hst.blk.cell 3 _ rfl
  have HEx : Hid (ev (ys.map (·.1)) n = X) := hex
  have HFo : Hid (formE (ys.map (·.1)) n = 0) := hform
  have HLen : Hid (n < (ys.map (·.1)).length) := hlen
  rw [hex] at hty
  clear hst hh hye hkn hin hy hok hright hform hex hbB hB hlen
  generalize ys.map (·.1) = xs at *
  by_cases y1 : X.y = 1
  · have e1 : (X.y == 1) = true := by simp [y1]
    have hfi := form_inv HFo.out (by rw [HEx.out]; exact y1)
    have HOp : Hid (openG xs (n + 1) = upd (openG xs n) X.c (some (n : Int))) := by show _ = _; rw [openG_call (by rw [HEx.out]; exact y1), HEx.out]
    have HLo : Hid (lostG xs (n + 1) = lostG xs n) := lostG_same (by rw [HEx.out]; omega) hfi.2
    have HEn : Hid (endsB xs (n + 1) = endsB xs n ++ [-1]) := ends_call HLen.out hfi.1
    clear hfi y1 hty
    go_enter Tryd.func27, Tryd.ntmps27
    go_wp2_with (first
      | (at_builtin; refine wpList_appendI rfl (.tmp 9) (.tmp 10) rfl B (.slice ae ne ce) (endsB xs n) rfl HXA.out.ends ⟨w.heap.size, 0, none⟩ 1 (-1) rfl HCA.out (by rw [endsB_len]; omega) HBA.out ?_; intro v1 w1 o1 g1; obtain ⟨gg, cc, rfl, hgb, hgl, hgc⟩ := ownI_snoc o1; rw [endsB_len] at o1 hgc; have HO1 : Hid (OwnI w1 B (.slice (some ⟨gg, 0, none⟩) (n + 1) cc) (endsB xs n ++ [-1])) := o1; have HG1 : Hid ((w.alloc (.cells #[.int .i64 (-1)] 3)).grownBy w1 (Value.slice ae ne ce).ownBlock) := g1; have HK1 : Hid (Blk w1 p (wkC (.slice (some ⟨b, o, none⟩) q c) mb ml (.slice ae ne ce)) 61) := HXA.out.blk.kept g1 HXA.out.apartB.2.2.1; rw [endsB_len]; clear o1 g1)
      | ((with_reducible refine wp_storeC 50 (.tmp 13) (.tmp 11) p 3 (.slice (some ⟨gg, 0, none⟩) (n + 1) cc) (wkC (.slice (some ⟨b, o, none⟩) q c) mb ml (.slice ae ne ce)) 61 infoSI1 ?_ ?_ ?_ ?_ ?_ ?_ HK1.out ?_); (exact Nat.lt_succ_self 3); (exact rfl); (exact rfl); (exact ⟨rfl, rfl⟩); (exact rfl); (exact rfl); intro w2 b2 o2; have HX2 : Hid (Sx w2 B p mb ml (.slice (some ⟨b, o, none⟩) q c) (.slice (some ⟨gg, 0, none⟩) (n + 1) cc) n (openG xs n) (lostG xs n) (endsB xs n ++ [-1])) := HXA.out.newE HG1.out HO1.out b2 o2; have HB2 : Hid (Below B w w2) := Below.grown (Below.grown HBB.out HG1.out HBA.out (fun q h => (World.ownsRow.lt HXA.out.ends q h).1)) o2.grown (Nat.le_trans HBA.out HG1.out.size) (fun q h => by injection h with h; rw [← h]; exact HXA.out.lp); have k0 := b2.cell 0 _ rfl; have HY2 : Hid (w2.rangeAt b (o + n * 14) (evC X (.slice av X.a.length cv) (.slice ar X.r.length cr))) := fun j u hj => (HB2.out.cell (p := ⟨b, o + n * 14 + j, none⟩) HBb.out).trans (HY.out j u hj); clear b2 o2)
      | ((with_reducible refine wpList_load_mid ?_ 47 (.tmp 19) ?_ b (o + n * 14) ?_ (evC X (.slice av X.a.length cv) (.slice ar X.r.length cr)) _ HY2.out Tryd.underlying47 ?_ ?_ ?_); (exact rfl); (exact rfl); (exact rfl); (exact rfl); (exact sizeE); (simp only [evC])))
    have B3 := Blk.new w2 (evC X (.slice av X.a.length cv) (.slice ar X.r.length cr)) 47
    have HX := HX2.out.later (below_more (Below.refl w2.heap.size w2) (.cells (evC X (.slice av X.a.length cv) (.slice ar X.r.length cr)).toArray 47))
    have HB : Below B w (w2.alloc (.cells (evC X (.slice av X.a.length cv) (.slice ar X.r.length cr)).toArray 47)) := HB2.out.alloc (Nat.le_trans HBs.out HB2.out.size) _
    obtain ⟨pe, hpe⟩ : ∃ pe, w2.heap.size = pe := ⟨_, rfl⟩
    have HPe : Hid (w2.heap.size = pe) := hpe
    rw [hpe] at B3
    have HE : Blk (w2.alloc (.cells (evC X (.slice av X.a.length cv) (.slice ar X.r.length cr)).toArray 47)) pe (evC X (.slice av X.a.length cv) (.slice ar X.r.length cr)) 47 := B3
    simp only [hpe]
    change Blk (w2.alloc (.cells #[.int .i64 X.t, .int .i64 X.c.1, .int .i64 X.c.2.1, .string X.c.2.2, .int .i64 X.y, .int .i64 X.m, .int .i64 X.k.1, .int .i64 X.k.2.1, .string X.k.2.2, .int .i64 X.o, .slice av X.a.length cv, .slice ar X.r.length cr, .bool X.nd, .string X.n] 47)) pe _ _ at HE
    change Sx (w2.alloc (.cells #[.int .i64 X.t, .int .i64 X.c.1, .int .i64 X.c.2.1, .string X.c.2.2, .int .i64 X.y, .int .i64 X.m, .int .i64 X.k.1, .int .i64 X.k.2.1, .string X.k.2.2, .int .i64 X.o, .slice av X.a.length cv, .slice ar X.r.length cr, .bool X.nd, .string X.n] 47)) _ _ _ _ _ _ _ _ _ _ at HX
    change Below B w (w2.alloc (.cells #[.int .i64 X.t, .int .i64 X.c.1, .int .i64 X.c.2.1, .string X.c.2.2, .int .i64 X.y, .int .i64 X.m, .int .i64 X.k.1, .int .i64 X.k.2.1, .string X.k.2.2, .int .i64 X.o, .slice av X.a.length cv, .slice ar X.r.length cr, .bool X.nd, .string X.n] 47)) at HB
    generalize w2.alloc (.cells #[.int .i64 X.t, .int .i64 X.c.1, .int .i64 X.c.2.1, .string X.c.2.2, .int .i64 X.y, .int .i64 X.m, .int .i64 X.k.1, .int .i64 X.k.2.1, .string X.k.2.2, .int .i64 X.o, .slice av X.a.length cv, .slice ar X.r.length cr, .bool X.nd, .string X.n] 47) = w3 at HX HB HE ⊢
    have HSE : Hid (∀ wx : World, Blk wx pe (evC X (.slice av X.a.length cv) (.slice ar X.r.length cr)) 47 → wx.rangeAt pe 1 (vls X.c.1 X.c.2.1 X.c.2.2)) := fun wx hx => hx.range 1 _ (evC_cl X (.slice av X.a.length cv) (.slice ar X.r.length cr))
    clear B3 hpe k0
    rename_i K hKK
    have hd : Below w3.heap.size w3 { w3 with drawn := w3.drawn + 1 } := ⟨rfl, rfl, rfl, Nat.le_refl _, fun _ _ => rfl⟩
    replace HX := HX.later hd
    replace HE := HE.later hd
    replace HB : Below B w { w3 with drawn := w3.drawn + 1 } := ⟨HB.os, HB.tape, HB.output, HB.size, HB.block⟩
    have HW1 : Blk { w3 with drawn := w3.drawn + 1 } p (wkC (.slice (some ⟨b, o, none⟩) q c) mb ml (.slice (some ⟨gg, 0, none⟩) (n + 1) cc)) 61 ∧ Blk { w3 with drawn := w3.drawn + 1 } pe (evC X (.slice av X.a.length cv) (.slice ar X.r.length cr)) 47 := ⟨HX.blk, HE⟩
    refine wp_region_held (S := fun wx => Blk wx p (wkC (.slice (some ⟨b, o, none⟩) q c) mb ml (.slice (some ⟨gg, 0, none⟩) (n + 1) cc)) 61 ∧ Blk wx pe (evC X (.slice av X.a.length cv) (.slice ar X.r.length cr)) 47) mixed ?_
    clear hd
    generalize ({ w3 with drawn := w3.drawn + 1 } : World) = n0 at HX HE HB HW1 ⊢
    refine takeH 0 24 (.pointer (some ⟨p, 0, none⟩)) rfl rfl (by kernel_rfl) (by kernel_rfl) (by kernel_rfl) (fun c a w h => h) (.inl ⟨rfl, fun w _ => rfl⟩) HW1 ?_
    simp only [List.setIfInBounds_toArray, List.set_cons_zero, List.set_cons_succ]
    refine takeH 1 25 (.pointer (some ⟨p, 0, none⟩)) rfl rfl (by kernel_rfl) (by kernel_rfl) (by kernel_rfl) (fun c a w h => h) (.inl ⟨rfl, fun w _ => by go_simp⟩) HW1 ?_
    simp only [List.setIfInBounds_toArray, List.set_cons_zero, List.set_cons_succ]
    refine takeH 2 26 (.pointer (some ⟨p, 1, none⟩)) rfl rfl (by kernel_rfl) (by kernel_rfl) (by kernel_rfl) (fun c a w h => h) (.inl ⟨rfl, fun w _ => by go_simp⟩) HW1 ?_
    simp only [List.setIfInBounds_toArray, List.set_cons_zero, List.set_cons_succ]
    refine takeH 3 27 (.map (some mb)) rfl rfl (by kernel_rfl) (by kernel_rfl) (by kernel_rfl) (fun c a w h => h) (.inl ⟨rfl, fun wx hx => by have c := hx.1.cell 1 _ rfl; go_simp⟩) HW1 ?_
    simp only [List.setIfInBounds_toArray, List.set_cons_zero, List.set_cons_succ]
    refine takeH 4 28 (.pointer (some ⟨pe, 1, none⟩)) rfl rfl (by kernel_rfl) (by kernel_rfl) (by kernel_rfl) (fun c a w h => h) (.inl ⟨rfl, fun w _ => by go_simp⟩) HW1 ?_
    simp only [List.setIfInBounds_toArray, List.set_cons_zero, List.set_cons_succ]
    refine takeH 5 29 (.agg (vls X.c.1 X.c.2.1 X.c.2.2).toArray) rfl rfl (by kernel_rfl) (by kernel_rfl) (by kernel_rfl) (fun c a w h => h) (yieldsIf_load_mid rfl 38 (.tmp 28) rfl pe 1 rfl (vls X.c.1 X.c.2.1 X.c.2.2) _ (fun wx hx => HSE.out wx hx.2) Tryd.underlying38 rfl sizeV) HW1 ?_
    simp only [List.setIfInBounds_toArray, List.set_cons_zero, List.set_cons_succ]
    refine takeH 6 30 (.int .i64 (n : Int)) rfl rfl (by kernel_rfl) (by kernel_rfl) (by kernel_rfl) (fun c a w h => h) (.inl ⟨rfl, fun w _ => rfl⟩) HW1 ?_
    simp only [List.setIfInBounds_toArray, List.set_cons_zero, List.set_cons_succ]
    refine wpAnyH_all (rs := [7]) (by kernel_rfl) (by simp) (fun i hi => ?_)
    obtain rfl : i = 7 := by simpa using hi
    refine wpOp_doG 7 (by rfl) (by rfl) ?_
    refine wp_istore (.tmp 27) (.tmp 29) (.tmp 30) rfl Tryd.underlying58 Tryd.underlying3 mb n (openG xs n) rfl HX.busy (by unfold maxLen; omega) X.c HKV.out rfl (n : Int) (wf_nat n (by omega)) rfl ?_
    intro q1 hm ht
    have hb : Blk q1 p (wkC (.slice (some ⟨b, o, none⟩) q c) mb ml (.slice (some ⟨gg, 0, none⟩) (n + 1) cc)) 61 ∧ Blk q1 pe (evC X (.slice av X.a.length cv) (.slice ar X.r.length cr)) 47 := ⟨HX.blk.kept ht.grown (fun e => HX.apartB.1 (by injection e with e; exact e.symm)), HE.kept ht.grown (fun e => (VMap.cells HX.busy (HE.cell 0 _ rfl)) (by injection e with e; exact e.symm))⟩
    replace HB : Below B w q1 := turned_below HB ht (Nat.le_trans HBs.out HB.size) HX.lb
    have HE0 := HE
    replace HE := hb.2
    replace HX := HX.busyT (Nat.le_succ n) hm ht
    clear hm ht HE0
    refine ⟨hb, ?_⟩
    replace HW1 := hb
    clear hb
    refine wpAnyH_done (by kernel_rfl) ?_ _
    show K _ _
    refine hKK _ _ ?_
    clear HW1 hKK
    have HXf : Hid (Sx _ B p mb ml (.slice (some ⟨b, o, none⟩) q c) (.slice (some ⟨gg, 0, none⟩) (n + 1) cc) (n + 1) (upd (openG xs n) X.c (some (n : Int))) (lostG xs n) (endsB xs n ++ [-1])) := HX
    have HBf : Hid (Below B w _) := HB
    clear HX HB HE
    go_wp2
    go_returns
    exact ⟨rfl, ⟨_, HXf.out.st (Nat.le_refl _) HOp.out.symm HLo.out.symm HEn.out.symm⟩, HBf.out⟩
  · have e1 : (X.y == 1) = false := by simp [y1]
    have hfr := form_ret HFo.out (by rw [HEx.out]; exact y1)
    rw [HEx.out] at hfr
    obtain ⟨i, hli, hin, hci, hyi, _⟩ := busy_place hfr.1
    have hi1 : (i : Int) < (n : Int) + 1 := by omega
    have hi0 : (0 : Int) ≤ (i : Int) := by omega
    have HGi : Hid (openG xs n X.c = some (i : Int)) := by show _ = _; rw [openG_get hfr.1, hli]
    have HOp : Hid (openG xs (n + 1) = upd (openG xs n) X.c none) := by show _ = _; rw [openG_back (by rw [HEx.out]; exact y1), HEx.out]
    have HEn : Hid (endsB xs (n + 1) = (endsB xs n ++ [-1]).set i (n : Int)) := ends_back HLen.out hin hyi (by rw [HEx.out]; exact hli)
    have hnl : lostB xs X.c n = false := by rw [lost_at hli, hyi]; rfl
    by_cases y4 : X.y = 4
    · have e4' : (X.y == 4) = true := by simp [y4]
      have HLo : Hid (lostG xs (n + 1) = upd (lostG xs n) X.c (some true)) := by show _ = _; rw [lostG_lost (by rw [HEx.out]; exact y4), HEx.out]
      clear hfr hli hci hyi hnl y1 y4 hty
      go_enter Tryd.func27, Tryd.ntmps27
      go_wp2_with (first
      | (at_builtin; refine wpList_appendI rfl (.tmp 9) (.tmp 10) rfl B (.slice ae ne ce) (endsB xs n) rfl HXA.out.ends ⟨w.heap.size, 0, none⟩ 1 (-1) rfl HCA.out (by rw [endsB_len]; omega) HBA.out ?_; intro v1 w1 o1 g1; obtain ⟨gg, cc, rfl, hgb, hgl, hgc⟩ := ownI_snoc o1; rw [endsB_len] at o1 hgc; have HO1 : Hid (OwnI w1 B (.slice (some ⟨gg, 0, none⟩) (n + 1) cc) (endsB xs n ++ [-1])) := o1; have HG1 : Hid ((w.alloc (.cells #[.int .i64 (-1)] 3)).grownBy w1 (Value.slice ae ne ce).ownBlock) := g1; have HK1 : Hid (Blk w1 p (wkC (.slice (some ⟨b, o, none⟩) q c) mb ml (.slice ae ne ce)) 61) := HXA.out.blk.kept g1 HXA.out.apartB.2.2.1; rw [endsB_len]; clear o1 g1)
      | ((with_reducible refine wp_storeC 50 (.tmp 13) (.tmp 11) p 3 (.slice (some ⟨gg, 0, none⟩) (n + 1) cc) (wkC (.slice (some ⟨b, o, none⟩) q c) mb ml (.slice ae ne ce)) 61 infoSI1 ?_ ?_ ?_ ?_ ?_ ?_ HK1.out ?_); (exact Nat.lt_succ_self 3); (exact rfl); (exact rfl); (exact ⟨rfl, rfl⟩); (exact rfl); (exact rfl); intro w2 b2 o2; have HX2 : Hid (Sx w2 B p mb ml (.slice (some ⟨b, o, none⟩) q c) (.slice (some ⟨gg, 0, none⟩) (n + 1) cc) n (openG xs n) (lostG xs n) (endsB xs n ++ [-1])) := HXA.out.newE HG1.out HO1.out b2 o2; have HB2 : Hid (Below B w w2) := Below.grown (Below.grown HBB.out HG1.out HBA.out (fun q h => (World.ownsRow.lt HXA.out.ends q h).1)) o2.grown (Nat.le_trans HBA.out HG1.out.size) (fun q h => by injection h with h; rw [← h]; exact HXA.out.lp); have k0 := b2.cell 0 _ rfl; have HY2 : Hid (w2.rangeAt b (o + n * 14) (evC X (.slice av X.a.length cv) (.slice ar X.r.length cr))) := fun j u hj => (HB2.out.cell (p := ⟨b, o + n * 14 + j, none⟩) HBb.out).trans (HY.out j u hj); clear b2 o2)
      | ((with_reducible refine wpList_load_mid ?_ 47 (.tmp 19) ?_ b (o + n * 14) ?_ (evC X (.slice av X.a.length cv) (.slice ar X.r.length cr)) _ HY2.out Tryd.underlying47 ?_ ?_ ?_); (exact rfl); (exact rfl); (exact rfl); (exact rfl); (exact sizeE); (simp only [evC])))
      have B3 := Blk.new w2 (evC X (.slice av X.a.length cv) (.slice ar X.r.length cr)) 47
      have HX := HX2.out.later (below_more (Below.refl w2.heap.size w2) (.cells (evC X (.slice av X.a.length cv) (.slice ar X.r.length cr)).toArray 47))
      have HB : Below B w (w2.alloc (.cells (evC X (.slice av X.a.length cv) (.slice ar X.r.length cr)).toArray 47)) := HB2.out.alloc (Nat.le_trans HBs.out HB2.out.size) _
      obtain ⟨pe, hpe⟩ : ∃ pe, w2.heap.size = pe := ⟨_, rfl⟩
      have HPe : Hid (w2.heap.size = pe) := hpe
      rw [hpe] at B3
      have HE : Blk (w2.alloc (.cells (evC X (.slice av X.a.length cv) (.slice ar X.r.length cr)).toArray 47)) pe (evC X (.slice av X.a.length cv) (.slice ar X.r.length cr)) 47 := B3
      simp only [hpe]
      change Blk (w2.alloc (.cells #[.int .i64 X.t, .int .i64 X.c.1, .int .i64 X.c.2.1, .string X.c.2.2, .int .i64 X.y, .int .i64 X.m, .int .i64 X.k.1, .int .i64 X.k.2.1, .string X.k.2.2, .int .i64 X.o, .slice av X.a.length cv, .slice ar X.r.length cr, .bool X.nd, .string X.n] 47)) pe _ _ at HE
      change Sx (w2.alloc (.cells #[.int .i64 X.t, .int .i64 X.c.1, .int .i64 X.c.2.1, .string X.c.2.2, .int .i64 X.y, .int .i64 X.m, .int .i64 X.k.1, .int .i64 X.k.2.1, .string X.k.2.2, .int .i64 X.o, .slice av X.a.length cv, .slice ar X.r.length cr, .bool X.nd, .string X.n] 47)) _ _ _ _ _ _ _ _ _ _ at HX
      change Below B w (w2.alloc (.cells #[.int .i64 X.t, .int .i64 X.c.1, .int .i64 X.c.2.1, .string X.c.2.2, .int .i64 X.y, .int .i64 X.m, .int .i64 X.k.1, .int .i64 X.k.2.1, .string X.k.2.2, .int .i64 X.o, .slice av X.a.length cv, .slice ar X.r.length cr, .bool X.nd, .string X.n] 47)) at HB
      generalize w2.alloc (.cells #[.int .i64 X.t, .int .i64 X.c.1, .int .i64 X.c.2.1, .string X.c.2.2, .int .i64 X.y, .int .i64 X.m, .int .i64 X.k.1, .int .i64 X.k.2.1, .string X.k.2.2, .int .i64 X.o, .slice av X.a.length cv, .slice ar X.r.length cr, .bool X.nd, .string X.n] 47) = w3 at HX HB HE ⊢
      have HSE : Hid (∀ wx : World, Blk wx pe (evC X (.slice av X.a.length cv) (.slice ar X.r.length cr)) 47 → wx.rangeAt pe 1 (vls X.c.1 X.c.2.1 X.c.2.2)) := fun wx hx => hx.range 1 _ (evC_cl X (.slice av X.a.length cv) (.slice ar X.r.length cr))
      clear B3 hpe k0
      rename_i K hKK
      have hd : Below w3.heap.size w3 { w3 with drawn := w3.drawn + 1 } := ⟨rfl, rfl, rfl, Nat.le_refl _, fun _ _ => rfl⟩
      replace HX := HX.later hd
      replace HE := HE.later hd
      replace HB : Below B w { w3 with drawn := w3.drawn + 1 } := ⟨HB.os, HB.tape, HB.output, HB.size, HB.block⟩
      have HW1 : Blk { w3 with drawn := w3.drawn + 1 } p (wkC (.slice (some ⟨b, o, none⟩) q c) mb ml (.slice (some ⟨gg, 0, none⟩) (n + 1) cc)) 61 ∧ Blk { w3 with drawn := w3.drawn + 1 } pe (evC X (.slice av X.a.length cv) (.slice ar X.r.length cr)) 47 ∧ IMap 3 { w3 with drawn := w3.drawn + 1 } mb n (openG xs n) := ⟨HX.blk, HE, HX.busy⟩
      refine wp_region_held (S := fun wx => Blk wx p (wkC (.slice (some ⟨b, o, none⟩) q c) mb ml (.slice (some ⟨gg, 0, none⟩) (n + 1) cc)) 61 ∧ Blk wx pe (evC X (.slice av X.a.length cv) (.slice ar X.r.length cr)) 47 ∧ IMap 3 wx mb n (openG xs n)) mixed ?_
      clear hd
      generalize ({ w3 with drawn := w3.drawn + 1 } : World) = n0 at HX HE HB HW1 ⊢
      refine takeH 0 31 (.pointer (some ⟨p, 0, none⟩)) rfl rfl (by kernel_rfl) (by kernel_rfl) (by kernel_rfl) (fun c a w h => h) (.inl ⟨rfl, fun w _ => rfl⟩) HW1 ?_
      simp only [List.setIfInBounds_toArray, List.set_cons_zero, List.set_cons_succ]
      refine takeH 1 32 (.pointer (some ⟨p, 0, none⟩)) rfl rfl (by kernel_rfl) (by kernel_rfl) (by kernel_rfl) (fun c a w h => h) (.inl ⟨rfl, fun w _ => by go_simp⟩) HW1 ?_
      simp only [List.setIfInBounds_toArray, List.set_cons_zero, List.set_cons_succ]
      refine takeH 2 33 (.pointer (some ⟨p, 3, none⟩)) rfl rfl (by kernel_rfl) (by kernel_rfl) (by kernel_rfl) (fun c a w h => h) (.inl ⟨rfl, fun w _ => by go_simp⟩) HW1 ?_
      simp only [List.setIfInBounds_toArray, List.set_cons_zero, List.set_cons_succ]
      refine takeH 3 34 ((.slice (some ⟨gg, 0, none⟩) (n + 1) cc)) rfl rfl (by kernel_rfl) (by kernel_rfl) (by kernel_rfl) (fun c a w h => h) (.inl ⟨rfl, fun wx hx => by have c := hx.1.cell 3 _ rfl; go_simp⟩) HW1 ?_
      simp only [List.setIfInBounds_toArray, List.set_cons_zero, List.set_cons_succ]
      refine takeH 4 35 (.pointer (some ⟨p, 0, none⟩)) rfl rfl (by kernel_rfl) (by kernel_rfl) (by kernel_rfl) (fun c a w h => h) (.inl ⟨rfl, fun w _ => rfl⟩) HW1 ?_
      simp only [List.setIfInBounds_toArray, List.set_cons_zero, List.set_cons_succ]
      refine takeH 5 36 (.pointer (some ⟨p, 0, none⟩)) rfl rfl (by kernel_rfl) (by kernel_rfl) (by kernel_rfl) (fun c a w h => h) (.inl ⟨rfl, fun w _ => by go_simp⟩) HW1 ?_
      simp only [List.setIfInBounds_toArray, List.set_cons_zero, List.set_cons_succ]
      refine takeH 6 37 (.pointer (some ⟨p, 1, none⟩)) rfl rfl (by kernel_rfl) (by kernel_rfl) (by kernel_rfl) (fun c a w h => h) (.inl ⟨rfl, fun w _ => by go_simp⟩) HW1 ?_
      simp only [List.setIfInBounds_toArray, List.set_cons_zero, List.set_cons_succ]
      refine takeH 7 38 (.map (some mb)) rfl rfl (by kernel_rfl) (by kernel_rfl) (by kernel_rfl) (fun c a w h => h) (.inl ⟨rfl, fun wx hx => by have c := hx.1.cell 1 _ rfl; go_simp⟩) HW1 ?_
      simp only [List.setIfInBounds_toArray, List.set_cons_zero, List.set_cons_succ]
      refine takeH 8 39 (.pointer (some ⟨pe, 1, none⟩)) rfl rfl (by kernel_rfl) (by kernel_rfl) (by kernel_rfl) (fun c a w h => h) (.inl ⟨rfl, fun w _ => by go_simp⟩) HW1 ?_
      simp only [List.setIfInBounds_toArray, List.set_cons_zero, List.set_cons_succ]
      refine takeH 9 40 (.agg (vls X.c.1 X.c.2.1 X.c.2.2).toArray) rfl rfl (by kernel_rfl) (by kernel_rfl) (by kernel_rfl) (fun c a w h => h) (yieldsIf_load_mid rfl 38 (.tmp 39) rfl pe 1 rfl (vls X.c.1 X.c.2.1 X.c.2.2) _ (fun wx hx => HSE.out wx hx.2.1) Tryd.underlying38 rfl sizeV) HW1 ?_
      simp only [List.setIfInBounds_toArray, List.set_cons_zero, List.set_cons_succ]
      refine takeH 10 41 (.int .i64 (i : Int)) rfl rfl (by kernel_rfl) (by kernel_rfl) (by kernel_rfl) (fun c a w h => h) (yieldsIf_ilook false (.tmp 38) (.tmp 40) rfl rfl Tryd.underlying58 Tryd.underlying3 zero_int mb n (openG xs n) rfl (fun wx hx => hx.2.2) X.c HKV.out rfl _ (by rw [HGi.out]; rfl)) HW1 ?_
      simp only [List.setIfInBounds_toArray, List.set_cons_zero, List.set_cons_succ]
      refine takeH 11 42 (.int .i64 (n : Int)) rfl rfl (by kernel_rfl) (by kernel_rfl) (by kernel_rfl) (fun c a w h => h) (.inl ⟨rfl, fun w _ => rfl⟩) HW1 ?_
      simp only [List.setIfInBounds_toArray, List.set_cons_zero, List.set_cons_succ]
      refine takeH 12 43 (.pointer (some ⟨gg, i, none⟩)) rfl rfl (by kernel_rfl) (by kernel_rfl) (by kernel_rfl) (fun c a w h => h) (.inl ⟨rfl, fun w _ => by go_simp⟩) HW1 ?_
      simp only [List.setIfInBounds_toArray, List.set_cons_zero, List.set_cons_succ]
      refine wpAnyH_all (rs := [13]) (by kernel_rfl) (by simp) (fun i hi => ?_)
      obtain rfl : i = 13 := by simpa using hi
      refine wpOp_doG 13 (by rfl) (by rfl) ?_
      refine wpo_storeI (.tmp 43) (.tmp 42) rfl B gg (n + 1) cc (endsB xs n ++ [-1]) HX.ends i (by rw [List.length_append, endsB_len]; simp; omega) (n : Int) rfl rfl ?_
      intro q1 ho hg
      have hb : Blk q1 p (wkC (.slice (some ⟨b, o, none⟩) q c) mb ml (.slice (some ⟨gg, 0, none⟩) (n + 1) cc)) 61 ∧ Blk q1 pe (evC X (.slice av X.a.length cv) (.slice ar X.r.length cr)) 47 ∧ IMap 3 q1 mb n (openG xs n) := ⟨HX.blk.kept hg HX.apartB.2.2.1, HE.kept hg (HE.not_row (by decide) HX.ends), VMap.kept HX.busy hg (Ne.symm HX.apartB.2.2.2.1)⟩
      replace HB : Below B w q1 := Below.grown HB hg (Nat.le_trans HBs.out HB.size) (fun q h => (World.ownsRow.lt HX.ends q h).1)
      replace HE := hb.2.1
      replace HX := HX.endsT ho hg
      clear ho hg
      refine ⟨hb, ?_⟩
      replace HW1 := hb
      clear hb
      refine wpAnyH_done (by kernel_rfl) ?_ _
      show K _ _
      refine hKK _ _ ?_
      clear HW1 hKK
      go_wp2_with fail
      rename_i K hKK
      have hd : Below q1.heap.size q1 { q1 with drawn := q1.drawn + 1 } := ⟨rfl, rfl, rfl, Nat.le_refl _, fun _ _ => rfl⟩
      replace HX := HX.later hd
      replace HE := HE.later hd
      replace HB : Below B w { q1 with drawn := q1.drawn + 1 } := ⟨HB.os, HB.tape, HB.output, HB.size, HB.block⟩
      have HW1 : Blk { q1 with drawn := q1.drawn + 1 } p (wkC (.slice (some ⟨b, o, none⟩) q c) mb ml (.slice (some ⟨gg, 0, none⟩) (n + 1) cc)) 61 ∧ Blk { q1 with drawn := q1.drawn + 1 } pe (evC X (.slice av X.a.length cv) (.slice ar X.r.length cr)) 47 := ⟨HX.blk, HE⟩
      refine wp_region_held (S := fun wx => Blk wx p (wkC (.slice (some ⟨b, o, none⟩) q c) mb ml (.slice (some ⟨gg, 0, none⟩) (n + 1) cc)) 61 ∧ Blk wx pe (evC X (.slice av X.a.length cv) (.slice ar X.r.length cr)) 47) mixed ?_
      clear hd
      generalize ({ q1 with drawn := q1.drawn + 1 } : World) = n1 at HX HE HB HW1 ⊢
      refine takeH 0 44 (.pointer (some ⟨p, 0, none⟩)) rfl rfl (by kernel_rfl) (by kernel_rfl) (by kernel_rfl) (fun c a w h => h) (.inl ⟨rfl, fun w _ => rfl⟩) HW1 ?_
      simp only [List.setIfInBounds_toArray, List.set_cons_zero, List.set_cons_succ]
      refine takeH 1 45 (.pointer (some ⟨p, 0, none⟩)) rfl rfl (by kernel_rfl) (by kernel_rfl) (by kernel_rfl) (fun c a w h => h) (.inl ⟨rfl, fun w _ => by go_simp⟩) HW1 ?_
      simp only [List.setIfInBounds_toArray, List.set_cons_zero, List.set_cons_succ]
      refine takeH 2 46 (.pointer (some ⟨p, 1, none⟩)) rfl rfl (by kernel_rfl) (by kernel_rfl) (by kernel_rfl) (fun c a w h => h) (.inl ⟨rfl, fun w _ => by go_simp⟩) HW1 ?_
      simp only [List.setIfInBounds_toArray, List.set_cons_zero, List.set_cons_succ]
      refine takeH 3 47 (.map (some mb)) rfl rfl (by kernel_rfl) (by kernel_rfl) (by kernel_rfl) (fun c a w h => h) (.inl ⟨rfl, fun wx hx => by have c := hx.1.cell 1 _ rfl; go_simp⟩) HW1 ?_
      simp only [List.setIfInBounds_toArray, List.set_cons_zero, List.set_cons_succ]
      refine takeH 4 48 (.pointer (some ⟨pe, 1, none⟩)) rfl rfl (by kernel_rfl) (by kernel_rfl) (by kernel_rfl) (fun c a w h => h) (.inl ⟨rfl, fun w _ => by go_simp⟩) HW1 ?_
      simp only [List.setIfInBounds_toArray, List.set_cons_zero, List.set_cons_succ]
      refine takeH 5 49 (.agg (vls X.c.1 X.c.2.1 X.c.2.2).toArray) rfl rfl (by kernel_rfl) (by kernel_rfl) (by kernel_rfl) (fun c a w h => h) (yieldsIf_load_mid rfl 38 (.tmp 48) rfl pe 1 rfl (vls X.c.1 X.c.2.1 X.c.2.2) _ (fun wx hx => HSE.out wx hx.2) Tryd.underlying38 rfl sizeV) HW1 ?_
      simp only [List.setIfInBounds_toArray, List.set_cons_zero, List.set_cons_succ]
      refine wpAnyH_all (rs := [6]) (by kernel_rfl) (by simp) (fun i hi => ?_)
      obtain rfl : i = 6 := by simpa using hi
      refine wpOp_doG 6 (by rfl) (by rfl) ?_
      refine wp_idrop (.tmp 47) (.tmp 49) rfl Tryd.underlying58 mb n (openG xs n) rfl HX.busy X.c HKV.out rfl ?_
      intro r1 hm ht
      have hb : Blk r1 p (wkC (.slice (some ⟨b, o, none⟩) q c) mb ml (.slice (some ⟨gg, 0, none⟩) (n + 1) cc)) 61 ∧ Blk r1 pe (evC X (.slice av X.a.length cv) (.slice ar X.r.length cr)) 47 := ⟨HX.blk.kept ht.grown (fun e => HX.apartB.1 (by injection e with e; exact e.symm)), HE.kept ht.grown (fun e => (VMap.cells HX.busy (HE.cell 0 _ rfl)) (by injection e with e; exact e.symm))⟩
      replace HB : Below B w r1 := turned_below HB ht (Nat.le_trans HBs.out HB.size) HX.lb
      replace HE := hb.2
      replace HX := HX.busyT (Nat.le_refl n) hm ht
      clear hm ht
      refine ⟨hb, ?_⟩
      replace HW1 := hb
      clear hb
      refine wpAnyH_done (by kernel_rfl) ?_ _
      show K _ _
      refine hKK _ _ ?_
      clear HW1 hKK
      have e4 := HE.cell 4 _ rfl
      go_wp2_with fail
      have hd : Below r1.heap.size r1 { r1 with drawn := r1.drawn + 1 } := ⟨rfl, rfl, rfl, Nat.le_refl _, fun _ _ => rfl⟩
      replace HX := HX.later hd
      replace HE := HE.later hd
      replace HB : Below B w { r1 with drawn := r1.drawn + 1 } := ⟨HB.os, HB.tape, HB.output, HB.size, HB.block⟩
      have HW1 : Blk { r1 with drawn := r1.drawn + 1 } p (wkC (.slice (some ⟨b, o, none⟩) q c) mb ml (.slice (some ⟨gg, 0, none⟩) (n + 1) cc)) 61 ∧ Blk { r1 with drawn := r1.drawn + 1 } pe (evC X (.slice av X.a.length cv) (.slice ar X.r.length cr)) 47 := ⟨HX.blk, HE⟩
      refine wp_region_held (S := fun wx => Blk wx p (wkC (.slice (some ⟨b, o, none⟩) q c) mb ml (.slice (some ⟨gg, 0, none⟩) (n + 1) cc)) 61 ∧ Blk wx pe (evC X (.slice av X.a.length cv) (.slice ar X.r.length cr)) 47) mixed ?_
      clear hd
      generalize ({ r1 with drawn := r1.drawn + 1 } : World) = n2 at HX HE HB HW1 ⊢
      refine takeH 0 53 (.pointer (some ⟨p, 0, none⟩)) rfl rfl (by kernel_rfl) (by kernel_rfl) (by kernel_rfl) (fun c a w h => h) (.inl ⟨rfl, fun w _ => rfl⟩) HW1 ?_
      simp only [List.setIfInBounds_toArray, List.set_cons_zero, List.set_cons_succ]
      refine takeH 1 54 (.pointer (some ⟨p, 0, none⟩)) rfl rfl (by kernel_rfl) (by kernel_rfl) (by kernel_rfl) (fun c a w h => h) (.inl ⟨rfl, fun w _ => by go_simp⟩) HW1 ?_
      simp only [List.setIfInBounds_toArray, List.set_cons_zero, List.set_cons_succ]
      refine takeH 2 55 (.pointer (some ⟨p, 2, none⟩)) rfl rfl (by kernel_rfl) (by kernel_rfl) (by kernel_rfl) (fun c a w h => h) (.inl ⟨rfl, fun w _ => by go_simp⟩) HW1 ?_
      simp only [List.setIfInBounds_toArray, List.set_cons_zero, List.set_cons_succ]
      refine takeH 3 56 (.map (some ml)) rfl rfl (by kernel_rfl) (by kernel_rfl) (by kernel_rfl) (fun c a w h => h) (.inl ⟨rfl, fun wx hx => by have c := hx.1.cell 2 _ rfl; go_simp⟩) HW1 ?_
      simp only [List.setIfInBounds_toArray, List.set_cons_zero, List.set_cons_succ]
      refine takeH 4 57 (.pointer (some ⟨pe, 1, none⟩)) rfl rfl (by kernel_rfl) (by kernel_rfl) (by kernel_rfl) (fun c a w h => h) (.inl ⟨rfl, fun w _ => by go_simp⟩) HW1 ?_
      simp only [List.setIfInBounds_toArray, List.set_cons_zero, List.set_cons_succ]
      refine takeH 5 58 (.agg (vls X.c.1 X.c.2.1 X.c.2.2).toArray) rfl rfl (by kernel_rfl) (by kernel_rfl) (by kernel_rfl) (fun c a w h => h) (yieldsIf_load_mid rfl 38 (.tmp 57) rfl pe 1 rfl (vls X.c.1 X.c.2.1 X.c.2.2) _ (fun wx hx => HSE.out wx hx.2) Tryd.underlying38 rfl sizeV) HW1 ?_
      simp only [List.setIfInBounds_toArray, List.set_cons_zero, List.set_cons_succ]
      refine takeH 6 59 (.agg #[]) rfl rfl (by kernel_rfl) (by kernel_rfl) (by kernel_rfl) (fun c a w h => h) (.inl ⟨rfl, fun w _ => by go_simp⟩) HW1 ?_
      simp only [List.setIfInBounds_toArray, List.set_cons_zero, List.set_cons_succ]
      refine wpAnyH_all (rs := [7]) (by kernel_rfl) (by simp) (fun i hi => ?_)
      obtain rfl : i = 7 := by simpa using hi
      refine wpOp_doG 7 (by rfl) (by rfl) ?_
      refine wp_ustore (.tmp 56) (.tmp 58) (.tmp 59) rfl Tryd.underlying59 ml n (lostG xs n) rfl HX.lost (by unfold maxLen; omega) X.c HKV.out rfl rfl ?_
      intro s1 hm ht
      have hb : Blk s1 p (wkC (.slice (some ⟨b, o, none⟩) q c) mb ml (.slice (some ⟨gg, 0, none⟩) (n + 1) cc)) 61 ∧ Blk s1 pe (evC X (.slice av X.a.length cv) (.slice ar X.r.length cr)) 47 := ⟨HX.blk.kept ht.grown (fun e => HX.apartB.2.1 (by injection e with e; exact e.symm)), HE.kept ht.grown (fun e => (VMap.cells HX.lost (HE.cell 0 _ rfl)) (by injection e with e; exact e.symm))⟩
      replace HB : Below B w s1 := turned_below HB ht (Nat.le_trans HBs.out HB.size) HX.ll
      replace HE := hb.2
      replace HX := HX.lostT (Nat.le_succ n) hm ht
      clear hm ht
      refine ⟨hb, ?_⟩
      replace HW1 := hb
      clear hb
      refine wpAnyH_done (by kernel_rfl) ?_ _
      clear HW1
      have HXf : Hid (Sx _ B p mb ml (.slice (some ⟨b, o, none⟩) q c) (.slice (some ⟨gg, 0, none⟩) (n + 1) cc) (n + 1) (upd (openG xs n) X.c none) (upd (lostG xs n) X.c (some true)) ((endsB xs n ++ [-1]).set i (n : Int))) := HX
      have HBf : Hid (Below B w _) := HB
      clear HX HB HE
      go_returns
      exact ⟨rfl, ⟨_, HXf.out.st (Nat.le_refl _) HOp.out.symm HLo.out.symm HEn.out.symm⟩, HBf.out⟩
    · have e4' : (X.y == 4) = false := by simp [y4]
      have HLo : Hid (lostG xs (n + 1) = lostG xs n) := lostG_same (by rw [HEx.out]; exact y4) (by rw [HEx.out]; exact hnl)
      clear hfr hli hci hyi hnl y1 y4 hty
      go_enter Tryd.func27, Tryd.ntmps27
      go_wp2_with (first
      | (at_builtin; refine wpList_appendI rfl (.tmp 9) (.tmp 10) rfl B (.slice ae ne ce) (endsB xs n) rfl HXA.out.ends ⟨w.heap.size, 0, none⟩ 1 (-1) rfl HCA.out (by rw [endsB_len]; omega) HBA.out ?_; intro v1 w1 o1 g1; obtain ⟨gg, cc, rfl, hgb, hgl, hgc⟩ := ownI_snoc o1; rw [endsB_len] at o1 hgc; have HO1 : Hid (OwnI w1 B (.slice (some ⟨gg, 0, none⟩) (n + 1) cc) (endsB xs n ++ [-1])) := o1; have HG1 : Hid ((w.alloc (.cells #[.int .i64 (-1)] 3)).grownBy w1 (Value.slice ae ne ce).ownBlock) := g1; have HK1 : Hid (Blk w1 p (wkC (.slice (some ⟨b, o, none⟩) q c) mb ml (.slice ae ne ce)) 61) := HXA.out.blk.kept g1 HXA.out.apartB.2.2.1; rw [endsB_len]; clear o1 g1)
      | ((with_reducible refine wp_storeC 50 (.tmp 13) (.tmp 11) p 3 (.slice (some ⟨gg, 0, none⟩) (n + 1) cc) (wkC (.slice (some ⟨b, o, none⟩) q c) mb ml (.slice ae ne ce)) 61 infoSI1 ?_ ?_ ?_ ?_ ?_ ?_ HK1.out ?_); (exact Nat.lt_succ_self 3); (exact rfl); (exact rfl); (exact ⟨rfl, rfl⟩); (exact rfl); (exact rfl); intro w2 b2 o2; have HX2 : Hid (Sx w2 B p mb ml (.slice (some ⟨b, o, none⟩) q c) (.slice (some ⟨gg, 0, none⟩) (n + 1) cc) n (openG xs n) (lostG xs n) (endsB xs n ++ [-1])) := HXA.out.newE HG1.out HO1.out b2 o2; have HB2 : Hid (Below B w w2) := Below.grown (Below.grown HBB.out HG1.out HBA.out (fun q h => (World.ownsRow.lt HXA.out.ends q h).1)) o2.grown (Nat.le_trans HBA.out HG1.out.size) (fun q h => by injection h with h; rw [← h]; exact HXA.out.lp); have k0 := b2.cell 0 _ rfl; have HY2 : Hid (w2.rangeAt b (o + n * 14) (evC X (.slice av X.a.length cv) (.slice ar X.r.length cr))) := fun j u hj => (HB2.out.cell (p := ⟨b, o + n * 14 + j, none⟩) HBb.out).trans (HY.out j u hj); clear b2 o2)
      | ((with_reducible refine wpList_load_mid ?_ 47 (.tmp 19) ?_ b (o + n * 14) ?_ (evC X (.slice av X.a.length cv) (.slice ar X.r.length cr)) _ HY2.out Tryd.underlying47 ?_ ?_ ?_); (exact rfl); (exact rfl); (exact rfl); (exact rfl); (exact sizeE); (simp only [evC])))
      have B3 := Blk.new w2 (evC X (.slice av X.a.length cv) (.slice ar X.r.length cr)) 47
      have HX := HX2.out.later (below_more (Below.refl w2.heap.size w2) (.cells (evC X (.slice av X.a.length cv) (.slice ar X.r.length cr)).toArray 47))
      have HB : Below B w (w2.alloc (.cells (evC X (.slice av X.a.length cv) (.slice ar X.r.length cr)).toArray 47)) := HB2.out.alloc (Nat.le_trans HBs.out HB2.out.size) _
      obtain ⟨pe, hpe⟩ : ∃ pe, w2.heap.size = pe := ⟨_, rfl⟩
      have HPe : Hid (w2.heap.size = pe) := hpe
      rw [hpe] at B3
      have HE : Blk (w2.alloc (.cells (evC X (.slice av X.a.length cv) (.slice ar X.r.length cr)).toArray 47)) pe (evC X (.slice av X.a.length cv) (.slice ar X.r.length cr)) 47 := B3
      simp only [hpe]
      change Blk (w2.alloc (.cells #[.int .i64 X.t, .int .i64 X.c.1, .int .i64 X.c.2.1, .string X.c.2.2, .int .i64 X.y, .int .i64 X.m, .int .i64 X.k.1, .int .i64 X.k.2.1, .string X.k.2.2, .int .i64 X.o, .slice av X.a.length cv, .slice ar X.r.length cr, .bool X.nd, .string X.n] 47)) pe _ _ at HE
      change Sx (w2.alloc (.cells #[.int .i64 X.t, .int .i64 X.c.1, .int .i64 X.c.2.1, .string X.c.2.2, .int .i64 X.y, .int .i64 X.m, .int .i64 X.k.1, .int .i64 X.k.2.1, .string X.k.2.2, .int .i64 X.o, .slice av X.a.length cv, .slice ar X.r.length cr, .bool X.nd, .string X.n] 47)) _ _ _ _ _ _ _ _ _ _ at HX
      change Below B w (w2.alloc (.cells #[.int .i64 X.t, .int .i64 X.c.1, .int .i64 X.c.2.1, .string X.c.2.2, .int .i64 X.y, .int .i64 X.m, .int .i64 X.k.1, .int .i64 X.k.2.1, .string X.k.2.2, .int .i64 X.o, .slice av X.a.length cv, .slice ar X.r.length cr, .bool X.nd, .string X.n] 47)) at HB
      generalize w2.alloc (.cells #[.int .i64 X.t, .int .i64 X.c.1, .int .i64 X.c.2.1, .string X.c.2.2, .int .i64 X.y, .int .i64 X.m, .int .i64 X.k.1, .int .i64 X.k.2.1, .string X.k.2.2, .int .i64 X.o, .slice av X.a.length cv, .slice ar X.r.length cr, .bool X.nd, .string X.n] 47) = w3 at HX HB HE ⊢
      have HSE : Hid (∀ wx : World, Blk wx pe (evC X (.slice av X.a.length cv) (.slice ar X.r.length cr)) 47 → wx.rangeAt pe 1 (vls X.c.1 X.c.2.1 X.c.2.2)) := fun wx hx => hx.range 1 _ (evC_cl X (.slice av X.a.length cv) (.slice ar X.r.length cr))
      clear B3 hpe k0
      rename_i K hKK
      have hd : Below w3.heap.size w3 { w3 with drawn := w3.drawn + 1 } := ⟨rfl, rfl, rfl, Nat.le_refl _, fun _ _ => rfl⟩
      replace HX := HX.later hd
      replace HE := HE.later hd
      replace HB : Below B w { w3 with drawn := w3.drawn + 1 } := ⟨HB.os, HB.tape, HB.output, HB.size, HB.block⟩
      have HW1 : Blk { w3 with drawn := w3.drawn + 1 } p (wkC (.slice (some ⟨b, o, none⟩) q c) mb ml (.slice (some ⟨gg, 0, none⟩) (n + 1) cc)) 61 ∧ Blk { w3 with drawn := w3.drawn + 1 } pe (evC X (.slice av X.a.length cv) (.slice ar X.r.length cr)) 47 ∧ IMap 3 { w3 with drawn := w3.drawn + 1 } mb n (openG xs n) := ⟨HX.blk, HE, HX.busy⟩
      refine wp_region_held (S := fun wx => Blk wx p (wkC (.slice (some ⟨b, o, none⟩) q c) mb ml (.slice (some ⟨gg, 0, none⟩) (n + 1) cc)) 61 ∧ Blk wx pe (evC X (.slice av X.a.length cv) (.slice ar X.r.length cr)) 47 ∧ IMap 3 wx mb n (openG xs n)) mixed ?_
      clear hd
      generalize ({ w3 with drawn := w3.drawn + 1 } : World) = n0 at HX HE HB HW1 ⊢
      refine takeH 0 31 (.pointer (some ⟨p, 0, none⟩)) rfl rfl (by kernel_rfl) (by kernel_rfl) (by kernel_rfl) (fun c a w h => h) (.inl ⟨rfl, fun w _ => rfl⟩) HW1 ?_
      simp only [List.setIfInBounds_toArray, List.set_cons_zero, List.set_cons_succ]
      refine takeH 1 32 (.pointer (some ⟨p, 0, none⟩)) rfl rfl (by kernel_rfl) (by kernel_rfl) (by kernel_rfl) (fun c a w h => h) (.inl ⟨rfl, fun w _ => by go_simp⟩) HW1 ?_
      simp only [List.setIfInBounds_toArray, List.set_cons_zero, List.set_cons_succ]
      refine takeH 2 33 (.pointer (some ⟨p, 3, none⟩)) rfl rfl (by kernel_rfl) (by kernel_rfl) (by kernel_rfl) (fun c a w h => h) (.inl ⟨rfl, fun w _ => by go_simp⟩) HW1 ?_
      simp only [List.setIfInBounds_toArray, List.set_cons_zero, List.set_cons_succ]
      refine takeH 3 34 ((.slice (some ⟨gg, 0, none⟩) (n + 1) cc)) rfl rfl (by kernel_rfl) (by kernel_rfl) (by kernel_rfl) (fun c a w h => h) (.inl ⟨rfl, fun wx hx => by have c := hx.1.cell 3 _ rfl; go_simp⟩) HW1 ?_
      simp only [List.setIfInBounds_toArray, List.set_cons_zero, List.set_cons_succ]
      refine takeH 4 35 (.pointer (some ⟨p, 0, none⟩)) rfl rfl (by kernel_rfl) (by kernel_rfl) (by kernel_rfl) (fun c a w h => h) (.inl ⟨rfl, fun w _ => rfl⟩) HW1 ?_
      simp only [List.setIfInBounds_toArray, List.set_cons_zero, List.set_cons_succ]
      refine takeH 5 36 (.pointer (some ⟨p, 0, none⟩)) rfl rfl (by kernel_rfl) (by kernel_rfl) (by kernel_rfl) (fun c a w h => h) (.inl ⟨rfl, fun w _ => by go_simp⟩) HW1 ?_
      simp only [List.setIfInBounds_toArray, List.set_cons_zero, List.set_cons_succ]
      refine takeH 6 37 (.pointer (some ⟨p, 1, none⟩)) rfl rfl (by kernel_rfl) (by kernel_rfl) (by kernel_rfl) (fun c a w h => h) (.inl ⟨rfl, fun w _ => by go_simp⟩) HW1 ?_
      simp only [List.setIfInBounds_toArray, List.set_cons_zero, List.set_cons_succ]
      refine takeH 7 38 (.map (some mb)) rfl rfl (by kernel_rfl) (by kernel_rfl) (by kernel_rfl) (fun c a w h => h) (.inl ⟨rfl, fun wx hx => by have c := hx.1.cell 1 _ rfl; go_simp⟩) HW1 ?_
      simp only [List.setIfInBounds_toArray, List.set_cons_zero, List.set_cons_succ]
      refine takeH 8 39 (.pointer (some ⟨pe, 1, none⟩)) rfl rfl (by kernel_rfl) (by kernel_rfl) (by kernel_rfl) (fun c a w h => h) (.inl ⟨rfl, fun w _ => by go_simp⟩) HW1 ?_
      simp only [List.setIfInBounds_toArray, List.set_cons_zero, List.set_cons_succ]
      refine takeH 9 40 (.agg (vls X.c.1 X.c.2.1 X.c.2.2).toArray) rfl rfl (by kernel_rfl) (by kernel_rfl) (by kernel_rfl) (fun c a w h => h) (yieldsIf_load_mid rfl 38 (.tmp 39) rfl pe 1 rfl (vls X.c.1 X.c.2.1 X.c.2.2) _ (fun wx hx => HSE.out wx hx.2.1) Tryd.underlying38 rfl sizeV) HW1 ?_
      simp only [List.setIfInBounds_toArray, List.set_cons_zero, List.set_cons_succ]
      refine takeH 10 41 (.int .i64 (i : Int)) rfl rfl (by kernel_rfl) (by kernel_rfl) (by kernel_rfl) (fun c a w h => h) (yieldsIf_ilook false (.tmp 38) (.tmp 40) rfl rfl Tryd.underlying58 Tryd.underlying3 zero_int mb n (openG xs n) rfl (fun wx hx => hx.2.2) X.c HKV.out rfl _ (by rw [HGi.out]; rfl)) HW1 ?_
      simp only [List.setIfInBounds_toArray, List.set_cons_zero, List.set_cons_succ]
      refine takeH 11 42 (.int .i64 (n : Int)) rfl rfl (by kernel_rfl) (by kernel_rfl) (by kernel_rfl) (fun c a w h => h) (.inl ⟨rfl, fun w _ => rfl⟩) HW1 ?_
      simp only [List.setIfInBounds_toArray, List.set_cons_zero, List.set_cons_succ]
      refine takeH 12 43 (.pointer (some ⟨gg, i, none⟩)) rfl rfl (by kernel_rfl) (by kernel_rfl) (by kernel_rfl) (fun c a w h => h) (.inl ⟨rfl, fun w _ => by go_simp⟩) HW1 ?_
      simp only [List.setIfInBounds_toArray, List.set_cons_zero, List.set_cons_succ]
      refine wpAnyH_all (rs := [13]) (by kernel_rfl) (by simp) (fun i hi => ?_)
      obtain rfl : i = 13 := by simpa using hi
      refine wpOp_doG 13 (by rfl) (by rfl) ?_
      refine wpo_storeI (.tmp 43) (.tmp 42) rfl B gg (n + 1) cc (endsB xs n ++ [-1]) HX.ends i (by rw [List.length_append, endsB_len]; simp; omega) (n : Int) rfl rfl ?_
      intro q1 ho hg
      have hb : Blk q1 p (wkC (.slice (some ⟨b, o, none⟩) q c) mb ml (.slice (some ⟨gg, 0, none⟩) (n + 1) cc)) 61 ∧ Blk q1 pe (evC X (.slice av X.a.length cv) (.slice ar X.r.length cr)) 47 ∧ IMap 3 q1 mb n (openG xs n) := ⟨HX.blk.kept hg HX.apartB.2.2.1, HE.kept hg (HE.not_row (by decide) HX.ends), VMap.kept HX.busy hg (Ne.symm HX.apartB.2.2.2.1)⟩
      replace HB : Below B w q1 := Below.grown HB hg (Nat.le_trans HBs.out HB.size) (fun q h => (World.ownsRow.lt HX.ends q h).1)
      replace HE := hb.2.1
      replace HX := HX.endsT ho hg
      clear ho hg
      refine ⟨hb, ?_⟩
      replace HW1 := hb
      clear hb
      refine wpAnyH_done (by kernel_rfl) ?_ _
      show K _ _
      refine hKK _ _ ?_
      clear HW1 hKK
      go_wp2_with fail
      rename_i K hKK
      have hd : Below q1.heap.size q1 { q1 with drawn := q1.drawn + 1 } := ⟨rfl, rfl, rfl, Nat.le_refl _, fun _ _ => rfl⟩
      replace HX := HX.later hd
      replace HE := HE.later hd
      replace HB : Below B w { q1 with drawn := q1.drawn + 1 } := ⟨HB.os, HB.tape, HB.output, HB.size, HB.block⟩
      have HW1 : Blk { q1 with drawn := q1.drawn + 1 } p (wkC (.slice (some ⟨b, o, none⟩) q c) mb ml (.slice (some ⟨gg, 0, none⟩) (n + 1) cc)) 61 ∧ Blk { q1 with drawn := q1.drawn + 1 } pe (evC X (.slice av X.a.length cv) (.slice ar X.r.length cr)) 47 := ⟨HX.blk, HE⟩
      refine wp_region_held (S := fun wx => Blk wx p (wkC (.slice (some ⟨b, o, none⟩) q c) mb ml (.slice (some ⟨gg, 0, none⟩) (n + 1) cc)) 61 ∧ Blk wx pe (evC X (.slice av X.a.length cv) (.slice ar X.r.length cr)) 47) mixed ?_
      clear hd
      generalize ({ q1 with drawn := q1.drawn + 1 } : World) = n1 at HX HE HB HW1 ⊢
      refine takeH 0 44 (.pointer (some ⟨p, 0, none⟩)) rfl rfl (by kernel_rfl) (by kernel_rfl) (by kernel_rfl) (fun c a w h => h) (.inl ⟨rfl, fun w _ => rfl⟩) HW1 ?_
      simp only [List.setIfInBounds_toArray, List.set_cons_zero, List.set_cons_succ]
      refine takeH 1 45 (.pointer (some ⟨p, 0, none⟩)) rfl rfl (by kernel_rfl) (by kernel_rfl) (by kernel_rfl) (fun c a w h => h) (.inl ⟨rfl, fun w _ => by go_simp⟩) HW1 ?_
      simp only [List.setIfInBounds_toArray, List.set_cons_zero, List.set_cons_succ]
      refine takeH 2 46 (.pointer (some ⟨p, 1, none⟩)) rfl rfl (by kernel_rfl) (by kernel_rfl) (by kernel_rfl) (fun c a w h => h) (.inl ⟨rfl, fun w _ => by go_simp⟩) HW1 ?_
      simp only [List.setIfInBounds_toArray, List.set_cons_zero, List.set_cons_succ]
      refine takeH 3 47 (.map (some mb)) rfl rfl (by kernel_rfl) (by kernel_rfl) (by kernel_rfl) (fun c a w h => h) (.inl ⟨rfl, fun wx hx => by have c := hx.1.cell 1 _ rfl; go_simp⟩) HW1 ?_
      simp only [List.setIfInBounds_toArray, List.set_cons_zero, List.set_cons_succ]
      refine takeH 4 48 (.pointer (some ⟨pe, 1, none⟩)) rfl rfl (by kernel_rfl) (by kernel_rfl) (by kernel_rfl) (fun c a w h => h) (.inl ⟨rfl, fun w _ => by go_simp⟩) HW1 ?_
      simp only [List.setIfInBounds_toArray, List.set_cons_zero, List.set_cons_succ]
      refine takeH 5 49 (.agg (vls X.c.1 X.c.2.1 X.c.2.2).toArray) rfl rfl (by kernel_rfl) (by kernel_rfl) (by kernel_rfl) (fun c a w h => h) (yieldsIf_load_mid rfl 38 (.tmp 48) rfl pe 1 rfl (vls X.c.1 X.c.2.1 X.c.2.2) _ (fun wx hx => HSE.out wx hx.2) Tryd.underlying38 rfl sizeV) HW1 ?_
      simp only [List.setIfInBounds_toArray, List.set_cons_zero, List.set_cons_succ]
      refine wpAnyH_all (rs := [6]) (by kernel_rfl) (by simp) (fun i hi => ?_)
      obtain rfl : i = 6 := by simpa using hi
      refine wpOp_doG 6 (by rfl) (by rfl) ?_
      refine wp_idrop (.tmp 47) (.tmp 49) rfl Tryd.underlying58 mb n (openG xs n) rfl HX.busy X.c HKV.out rfl ?_
      intro r1 hm ht
      have hb : Blk r1 p (wkC (.slice (some ⟨b, o, none⟩) q c) mb ml (.slice (some ⟨gg, 0, none⟩) (n + 1) cc)) 61 ∧ Blk r1 pe (evC X (.slice av X.a.length cv) (.slice ar X.r.length cr)) 47 := ⟨HX.blk.kept ht.grown (fun e => HX.apartB.1 (by injection e with e; exact e.symm)), HE.kept ht.grown (fun e => (VMap.cells HX.busy (HE.cell 0 _ rfl)) (by injection e with e; exact e.symm))⟩
      replace HB : Below B w r1 := turned_below HB ht (Nat.le_trans HBs.out HB.size) HX.lb
      replace HE := hb.2
      replace HX := HX.busyT (Nat.le_refl n) hm ht
      clear hm ht
      refine ⟨hb, ?_⟩
      replace HW1 := hb
      clear hb
      refine wpAnyH_done (by kernel_rfl) ?_ _
      show K _ _
      refine hKK _ _ ?_
      clear HW1 hKK
      have HXf : Hid (Sx _ B p mb ml (.slice (some ⟨b, o, none⟩) q c) (.slice (some ⟨gg, 0, none⟩) (n + 1) cc) n (upd (openG xs n) X.c none) (lostG xs n) ((endsB xs n ++ [-1]).set i (n : Int))) := HX
      have HBf : Hid (Below B w _) := HB
      have e4 := HE.cell 4 _ rfl
      clear HX HB HE
      go_wp2
      go_returns
      exact ⟨rfl, ⟨_, HXf.out.st (Nat.le_succ _) HOp.out.symm HLo.out.symm HEn.out.symm⟩, HBf.out⟩
end Go.Proofs.YtgdegbmakbfaaaaDoor
