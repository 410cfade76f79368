/- The walk of PairKeeps. Conditions: the table and the history lie in memory; numbers of 64 bits. -/
import Derived.Test.YtgdegbmakbfaaaaDoorQE
namespace Go.Proofs.YtgdegbmakbfaaaaDoor
open Go.RowKit Go.PlainAid Ln
set_option linter.unusedVariables false
set_option linter.unusedSimpArgs false

set_option maxRecDepth 100000 in
set_option maxHeartbeats 16000000 in
theorem law_keeps (v : Value) (ys : List YE) (w : World) (ht : Tb w) (hy : YSl w v ys) (hi : InL w ys) (hb : InE ys) : Calls Tryd.prog 7 #[v] w fun e w' => e = .returned (.bool true) ∧ Below w.heap.size w w' := by
  have mixed : Tryd.prog.follows .mixedOrders = true := by kernel_rfl
  have HT : Hid (Tb w) := ht
  have HY : Hid (YSl w v ys) := hy
  have HI : Hid (InL w ys) := hi
  have HK : Hid (∀ i, i < ys.length → KV (ye ys i).1.c) := ine_kv hb
  have HG : Hid (∀ i, i < ys.length → LgE (ye ys i).1) := fun i h => (hb i h).2.1
  clear ht hi hb
  obtain ⟨ah, hc, rfl, hc1, hc2, _⟩ := hy.form
  clear hy
  obtain ⟨q, hq⟩ : ∃ q, ys.length = q := ⟨_, rfl⟩
  have HQ : Hid (ys.length = q) := hq
  rw [hq] at HK HG HY hc1 ⊢
  clear hq
  go_enter Tryd.func7, Tryd.ntmps7
  go_wp2_with fail
  refine (wakes_p _ HT.out).mono ?_
  rintro e w1 ⟨rfl, b1⟩
  have Hb1 : Hid (Below w.heap.size w w1) := b1
  clear b1
  go_wp2_with fail
  refine (rgreat_h _ ys 60 w1 (HY.out.later Hb1.out) (HI.out.later Hb1.out) (by rw [HQ.out]; exact HG.out)).mono ?_
  rintro e w2 ⟨g, rfl, hsm, b2⟩
  have Hb2 : Hid (Below w.heap.size w w2) := below_next Hb1.out b2
  clear b2
  cases g
  case true =>
    go_wp2
    go_ret
    exact ⟨rfl, Hb2.out⟩
  obtain ⟨hl, hse⟩ := hsm rfl
  have HL : Hid (q ≤ 60) := by rw [HQ.out] at hl; exact hl
  have HZ : Hid (∀ i, i < q → SzE (ye ys i).1) := fun i h => (hse i (by rw [HQ.out]; exact h)).sz
  clear hsm hl hse
  go_wp2_with fail
  refine (rcopy_h _ ys w2 (HY.out.later Hb2.out) (HI.out.later Hb2.out) (by rw [HQ.out]; exact fun i h => ⟨(HZ.out i h).2.2.2.2.1, (HZ.out i h).2.2.2.2.2⟩) (by rw [HQ.out]; have := HL.out; omega)).mono ?_
  rintro e w3 ⟨vi, is, rfl, him, hio, hil, b3⟩
  have Hb3 : Hid (Below w.heap.size w w3) := below_next Hb2.out b3
  have hisl : is.length = q := by have := congrArg List.length him; rw [List.length_map, List.length_map, HQ.out] at this; exact this
  have h1y : ∀ k, k < q → (ye is k).1 = (ye ys k).1 := fun k hk => by
    have e1 := map_ye is k (by omega)
    have e2 := map_ye ys k (by rw [HQ.out]; exact hk)
    rw [him] at e1
    exact Option.some.inj (e1.symm.trans e2)
  have H1Y : Hid (∀ k, k < q → (ye is k).1 = (ye ys k).1) := h1y
  obtain ⟨ai, ci, rfl, hci1, hci2, _⟩ := hio.ysl.form
  have HIs : Hid (YSl w3 (.slice ai is.length ci) is) := hio.ysl
  have HIl : Hid (InL w3 is) := hil.inL
  have HIm : Hid (is.map (·.1) = ys.map (·.1)) := him
  have HIq : Hid (is.length = q) := hisl
  rw [hisl] at HIs hci1 ⊢
  clear b3 him hio hil hisl h1y
  have hZi : ∀ i, i < is.length → SzE (ye is i).1 := fun i h => by rw [HIq.out] at h; rw [H1Y.out i h]; exact HZ.out i h
  have hKi : ∀ i, i < is.length → KV (ye is i).1.c := fun i h => by rw [HIq.out] at h; rw [H1Y.out i h]; exact HK.out i h
  have HCk : Hid (∀ w', Below w3.heap.size w3 w' → Calls Tryd.prog 10 #[.slice ai q ci] w' fun e w'' => e = .returned (.agg #[.int .i64 (checkE (is.map (·.1))).1, .int .i64 (checkE (is.map (·.1))).2]) ∧ Below w'.heap.size w' w'') := fun w' h => check_any _ is w' (HIs.out.later h) (HIl.out.later h) hZi hKi (by rw [HIq.out]; have := HL.out; omega) (HT.out.later (below_next Hb3.out h))
  have hO := opers_any _ is w3 HIs.out HIl.out hZi hKi (by rw [HIq.out]; have := HL.out; omega) (HT.out.later Hb3.out)
  clear hZi hKi
  go_wp2_with fail
  refine hO.mono ?_
  clear hO
  rintro e w4 ⟨vl, zs0, rfl, hok, hbad, b4⟩
  have h34 : Below w3.heap.size w3 w4 := b4
  generalize checkE (is.map (·.1)) = ck at *
  have hall : ∃ zs, OwnO w4 w3.heap.size vl zs ∧ OwnLO w4 w3.heap.size zs := by
    by_cases h0 : ck.1 = 0
    · exact ⟨zs0, (hok h0).2⟩
    · rw [hbad h0]; exact ⟨[], OwnO.nil _ _, OwnLO.nil _ _⟩
  obtain ⟨zs, hzo, hzl⟩ := hall
  clear hok hbad b4
  have hK5 : KS (w4.alloc (.cells #[.int .i64 ck.1, .int .i64 ck.2] 27)) (w4.alloc (.cells #[.int .i64 ck.1, .int .i64 ck.2] 27)) w3.heap.size w4.heap.size vl zs [.int .i64 ck.1, .int .i64 ck.2] := KS.start (w := (w4.alloc (.cells #[.int .i64 ck.1, .int .i64 ck.2] 27))) (hzo.later (below_more (Below.refl _ _) _)) (hzl.later (below_more (Below.refl _ _) _)) (Blk.new w4 [.int .i64 ck.1, .int .i64 ck.2] 27) (Nat.le_trans h34.size (below_more (Below.refl w4.heap.size w4) _).size)
  have h35 : Below w3.heap.size w3 (w4.alloc (.cells #[.int .i64 ck.1, .int .i64 ck.2] 27)) := below_more h34 _
  have hbl0 : zs.length ≤ 9223372036854775807 := by obtain ⟨_, _, _, h1, h2, _⟩ := hzo.osl.form; omega
  obtain ⟨al, cl, rfl⟩ := hzo.form
  obtain ⟨l, hzn⟩ : ∃ l, zs.length = l := ⟨_, rfl⟩
  have HZl : Hid (zs.length = l) := hzn
  rw [hzn] at hK5 hbl0 ⊢
  obtain ⟨B, hB⟩ : ∃ B, w3.heap.size = B := ⟨_, rfl⟩
  have HBe : Hid (w3.heap.size = B) := hB
  rw [hB] at hK5
  clear hzo hzl hzn hB
  go_wp2_with fail
  obtain ⟨fb, hfb⟩ : ∃ fb, w4.heap.size = fb := ⟨_, rfl⟩
  rw [hfb] at hK5 ⊢
  clear hfb
  generalize (w4.alloc (.cells #[.int .i64 ck.1, .int .i64 ck.2] 27)) = w5 at hK5 h35 ⊢
  have HK5 : Hid (KS w5 w5 B fb (.slice al l cl) zs [.int .i64 ck.1, .int .i64 ck.2]) := hK5
  have H35 : Hid (Below w3.heap.size w3 w5) := h35
  clear hK5 h35 h34
  go_loopw [23] (fun i wr => ∃ k : Nat, k ≤ l ∧ i = .int .i64 (k : Int) ∧ KS w5 wr B fb (.slice al l cl) zs [.int .i64 ck.1, .int .i64 ck.2]) (fun i wr => l - (intOf i).toNat)
  case atStart => exact ⟨0, Nat.zero_le _, rfl, HK5.out⟩
  case round =>
    obtain ⟨k, hk, rfl, hks⟩ := hrel
    have HKr : Hid (KS w5 wr B fb (.slice al l cl) zs [.int .i64 ck.1, .int .i64 ck.2]) := hks
    clear hks
    by_cases hlt : k < l
    case pos =>
      have hlt' : (k : Int) < (l : Int) := by omega
      have hk0 : (0 : Int) ≤ (k : Int) := by omega
      obtain ⟨b, o, rfl, hbl⟩ := HKr.out.own.osl.block (by rw [HZl.out]; omega)
      obtain ⟨xA, hxA, hwA⟩ := (HKr.out.exa k (by rw [HZl.out]; exact hlt)).1
      obtain ⟨xR, hxR, hwR⟩ := (HKr.out.exa k (by rw [HZl.out]; exact hlt)).2
      have hbA : xA.length ≤ 9223372036854775807 := by obtain ⟨_, _, _, h1, h2, _⟩ := hwA.vsl.form; omega
      have hbR : xR.length ≤ 9223372036854775807 := by obtain ⟨_, _, _, h1, h2, _⟩ := hwR.vsl.form; omega
      obtain ⟨aA, cA, eA⟩ := hwA.form
      obtain ⟨aR, cR, eR⟩ := hwR.form
      rw [hxA] at eA hbA
      rw [hxR] at eR hbR
      obtain ⟨nA, hnA⟩ : ∃ n, (yo zs k).1.a.length = n := ⟨_, rfl⟩
      obtain ⟨nR, hnR⟩ : ∃ n, (yo zs k).1.r.length = n := ⟨_, rfl⟩
      rw [hnA] at eA hbA
      rw [hnR] at eR hbR
      have HA : Hid ((yo zs k).2.1 = .slice aA nA cA ∧ (yo zs k).1.a.length = nA) := ⟨eA, hnA⟩
      have HR : Hid ((yo zs k).2.2 = .slice aR nR cR ∧ (yo zs k).1.r.length = nR) := ⟨eR, hnR⟩
      have HC8 : Hid (∀ wx, KS w5 wx B fb (.slice (some ⟨b, o, none⟩) l cl) zs [.int .i64 ck.1, .int .i64 ck.2] → wx.cell? ⟨b, o + k * 12 + 8, none⟩ = some (.slice aA nA cA)) := fun wx h => by
        have := h.own.osl.at (i := k) (by rw [HZl.out]; exact hlt) 8 (yo zs k).2.1 rfl
        rw [this, HA.out.1]
      have HC9 : Hid (∀ wx, KS w5 wx B fb (.slice (some ⟨b, o, none⟩) l cl) zs [.int .i64 ck.1, .int .i64 ck.2] → wx.cell? ⟨b, o + k * 12 + 9, none⟩ = some (.slice aR nR cR)) := fun wx h => by
        have := h.own.osl.at (i := k) (by rw [HZl.out]; exact hlt) 9 (yo zs k).2.2 rfl
        rw [this, HR.out.1]
      clear hbl hwA hwR eA eR hnA hnR hxA hxR
      have c8 := HC8.out wr HKr.out
      go_wp2_with fail
      go_loopw [32] (fun i wr => ∃ j : Nat, j ≤ nA ∧ i = .int .i64 (j : Int) ∧ KS w5 wr B fb (.slice (some ⟨b, o, none⟩) l cl) zs [.int .i64 ck.1, .int .i64 ck.2]) (fun i wr => nA - (intOf i).toNat)
      case atStart => exact ⟨0, Nat.zero_le _, rfl, HKr.out⟩
      case round =>
        obtain ⟨j, hj, rfl, hks⟩ := hrel
        have HKj : Hid (KS w5 wr B fb (.slice (some ⟨b, o, none⟩) l cl) zs [.int .i64 ck.1, .int .i64 ck.2]) := hks
        clear hks
        by_cases hjt : j < nA
        case pos =>
          have hjt' : (j : Int) < (nA : Int) := by omega
          have hj0 : (0 : Int) ≤ (j : Int) := by omega
          obtain ⟨x2, hx2, hw2⟩ := (HKj.out.exa k (by rw [HZl.out]; exact hlt)).1
          rw [HA.out.1] at hw2
          rw [HA.out.2] at hx2
          obtain ⟨g, rfl⟩ : ∃ g, aA = some ⟨g, 0, none⟩ := by
            rcases hw2.2 with ⟨e, h0⟩ | ⟨g, cap, cur, e, _⟩
            · omega
            · injection e with e; exact ⟨g, e⟩
          have HWn : Hid (OwnV wr B (.slice (some ⟨g, 0, none⟩) nA cA) x2) := hw2
          have HXn : Hid (x2.length = nA) := hx2
          have HGB : Hid (B ≤ g) := (hw2.lt g rfl).1
          have c8 := HC8.out wr HKj.out
          clear hw2 hx2
          go_wp2_with ((with_reducible refine wp_storeK (.tmp 42) (.const (.int .i64 9)) ?_ B g nA cA x2 HWn.out j ?_ ?_ ?_ ?_); (exact ⟨rfl, rfl⟩); (exact (by rw [HXn.out]; exact hjt)); (exact rfl); (exact rfl); (intro wk hks); (have HKk : Hid (KS w5 wk B fb (.slice (some ⟨b, o, none⟩) l cl) zs [.int .i64 ck.1, .int .i64 ck.2]) := HKj.out.kset hks HGB.out); (clear hks))
          go_roundw
          case rel => exact ⟨j + 1, by omega, by go_num, HKk.out⟩
          case measure => simp [intOf] <;> omega
        case neg =>
          obtain rfl : j = nA := by omega
          have c9 := HC9.out wr HKj.out
          go_wp2_with fail
          go_loopw [50] (fun i wr => ∃ j : Nat, j ≤ nR ∧ i = .int .i64 (j : Int) ∧ KS w5 wr B fb (.slice (some ⟨b, o, none⟩) l cl) zs [.int .i64 ck.1, .int .i64 ck.2]) (fun i wr => nR - (intOf i).toNat)
          case atStart => exact ⟨0, Nat.zero_le _, rfl, HKj.out⟩
          case round =>
            obtain ⟨i, hi, rfl, hks⟩ := hrel
            have HKi : Hid (KS w5 wr B fb (.slice (some ⟨b, o, none⟩) l cl) zs [.int .i64 ck.1, .int .i64 ck.2]) := hks
            clear hks
            by_cases hit : i < nR
            case pos =>
              have hit' : (i : Int) < (nR : Int) := by omega
              have hi0 : (0 : Int) ≤ (i : Int) := by omega
              obtain ⟨x2, hx2, hw2⟩ := (HKi.out.exa k (by rw [HZl.out]; exact hlt)).2
              rw [HR.out.1] at hw2
              rw [HR.out.2] at hx2
              obtain ⟨g, rfl⟩ : ∃ g, aR = some ⟨g, 0, none⟩ := by
                rcases hw2.2 with ⟨e, h0⟩ | ⟨g, cap, cur, e, _⟩
                · omega
                · injection e with e; exact ⟨g, e⟩
              have HWn : Hid (OwnV wr B (.slice (some ⟨g, 0, none⟩) nR cR) x2) := hw2
              have HXn : Hid (x2.length = nR) := hx2
              have HGB : Hid (B ≤ g) := (hw2.lt g rfl).1
              have c9 := HC9.out wr HKi.out
              clear hw2 hx2
              go_wp2_with ((with_reducible refine wp_storeK (.tmp 60) (.const (.int .i64 9)) ?_ B g nR cR x2 HWn.out i ?_ ?_ ?_ ?_); (exact ⟨rfl, rfl⟩); (exact (by rw [HXn.out]; exact hit)); (exact rfl); (exact rfl); (intro wk hks); (have HKk : Hid (KS w5 wk B fb (.slice (some ⟨b, o, none⟩) l cl) zs [.int .i64 ck.1, .int .i64 ck.2]) := HKi.out.kset hks HGB.out); (clear hks))
              go_roundw
              case rel => exact ⟨i + 1, by omega, by go_num, HKk.out⟩
              case measure => simp [intOf] <;> omega
            case neg =>
              obtain rfl : i = nR := by omega
              go_wp2
              go_roundw
              case rel => exact ⟨k + 1, by omega, by go_num, HKi.out⟩
              case measure => simp [intOf] <;> omega
    case neg =>
      obtain rfl : k = l := by omega
      have HWe : Hid (Below w.heap.size w wr) := below_next Hb3.out (H35.out.trans (by rw [HBe.out]; exact HKr.out.bel))
      have HW3 : Hid (Below w3.heap.size w3 wr) := H35.out.trans (by rw [HBe.out]; exact HKr.out.bel)
      have HFb : Hid (Blk wr fb [.int .i64 ck.1, .int .i64 ck.2] 27) := HKr.out.fbx
      go_wp2_with fail
      clear hlt hk hbl0
      generalize wr = wd at *
      go_loopw [70] (fun i wr => ∃ k : Nat, k ≤ q ∧ i = .int .i64 (k : Int) ∧ Below wd.heap.size wd wr) (fun i wr => q - (intOf i).toNat)
      case atStart => exact ⟨0, Nat.zero_le _, rfl, Below.refl _ _⟩
      case round =>
        obtain ⟨k, hk, rfl, hbr⟩ := hrel
        have HBr : Hid (Below wd.heap.size wd wr) := hbr
        have HBw : Hid (Below w.heap.size w wr) := below_next HWe.out hbr
        have HB3 : Hid (Below w3.heap.size w3 wr) := below_next HW3.out hbr
        clear hbr
        have HW0 : Below wr.heap.size wr { wr with drawn := wr.drawn + 1 } := ⟨rfl, rfl, rfl, Nat.le_refl _, fun _ _ => rfl⟩
        by_cases hlt : k < q
        · have hlt' : (k : Int) < (q : Int) := by omega
          have hk0 : (0 : Int) ≤ (k : Int) := by omega
          obtain ⟨bi, oi, rfl, hb1⟩ := HIs.out.block (by rw [HIq.out]; omega)
          obtain ⟨bh, oh, rfl, hb2⟩ := HY.out.block (by rw [HQ.out]; omega)
          have ry := (HIs.out.later HB3.out).at (i := k) (by rw [HIq.out]; exact hlt)
          have rz := (HY.out.later HBw.out).at (i := k) (by rw [HQ.out]; exact hlt)
          have qy := HIl.out.later HB3.out k (by rw [HIq.out]; exact hlt)
          have qz := HI.out.later HBw.out k (by rw [HQ.out]; exact hlt)
          have ey := H1Y.out k hlt
          have qm := HZ.out k hlt
          rcases hye : ye is k with ⟨X, va, vr⟩
          rcases hze : ye ys k with ⟨X', ua, ur⟩
          rw [hye, hze] at ey
          obtain rfl : X = X' := ey
          rw [hye] at ry qy
          rw [hze] at rz qz qm
          have RY : Hid (wr.rangeAt bi (oi + k * 14) (evC X va vr)) := ry
          have RZ : Hid (wr.rangeAt bh (oh + k * 14) (evC X ua ur)) := rz
          have HS : Hid (∀ w', Below wr.heap.size wr w' → Calls Tryd.prog 17 #[.agg (evC X va vr).toArray, .agg (evC X ua ur).toArray] w' fun e w'' => e = .returned (.bool true) ∧ Below w'.heap.size w' w'') := fun w' hb => same_ev X va vr ua ur w' (qy.1.later hb) (qy.2.later hb) (qz.1.later hb) (qz.2.later hb) qm.2.2.2.2.1 qm.2.2.2.2.2
          have HBk : Hid (bi < wr.heap.size ∧ bh < wr.heap.size) := ⟨Nat.lt_of_lt_of_le hb1 HB3.out.size, Nat.lt_of_lt_of_le hb2 HBw.out.size⟩
          clear ry rz qy qz qm hye hze hb1 hb2 HW0
          go_wp2_with fail
          rename_i K hKK
          have HW0 : Below wr.heap.size wr { wr with drawn := wr.drawn + 1 } := ⟨rfl, rfl, rfl, Nat.le_refl _, fun _ _ => rfl⟩
          refine wp_region_held (S := fun wx => Below wr.heap.size wr wx) mixed ?_
          generalize ({ wr with drawn := wr.drawn + 1 } : World) = n0 at HW0 ⊢
          have HW := HW0
          clear HW0
          refine takeH 0 73 (.slice (some ⟨bi, oi, none⟩) q ci) rfl rfl (by kernel_rfl) (by kernel_rfl) (by kernel_rfl) (fun c a w h => h) (.inl ⟨rfl, fun w _ => rfl⟩) HW ?_
          simp only [List.setIfInBounds_toArray, List.set_cons_zero, List.set_cons_succ]
          refine takeH 1 74 (.int .i64 (k : Int)) rfl rfl (by kernel_rfl) (by kernel_rfl) (by kernel_rfl) (fun c a w h => h) (.inl ⟨rfl, fun w _ => rfl⟩) HW ?_
          simp only [List.setIfInBounds_toArray, List.set_cons_zero, List.set_cons_succ]
          refine takeH 2 75 (.pointer (some ⟨bi, oi + k * 14, none⟩)) rfl rfl (by kernel_rfl) (by kernel_rfl) (by kernel_rfl) (fun c a w h => h) (.inl ⟨rfl, fun w _ => by go_simp⟩) HW ?_
          simp only [List.setIfInBounds_toArray, List.set_cons_zero, List.set_cons_succ]
          refine takeH 3 76 (.agg (evC X va vr).toArray) rfl rfl (by kernel_rfl) (by kernel_rfl) (by kernel_rfl) (fun c a w h => h) (yieldsIf_load_mid rfl 47 (.tmp 75) rfl bi (oi + k * 14) rfl (evC X va vr) _ (fun wx hx => fun j u hj => (hx.cell (p := ⟨bi, oi + k * 14 + j, none⟩) HBk.out.1).trans (RY.out j u hj)) Tryd.underlying47 rfl sizeE) HW ?_
          simp only [List.setIfInBounds_toArray, List.set_cons_zero, List.set_cons_succ]
          refine takeH 4 77 (.slice (some ⟨bh, oh, none⟩) q hc) rfl rfl (by kernel_rfl) (by kernel_rfl) (by kernel_rfl) (fun c a w h => h) (.inl ⟨rfl, fun w _ => rfl⟩) HW ?_
          simp only [List.setIfInBounds_toArray, List.set_cons_zero, List.set_cons_succ]
          refine takeH 5 78 (.int .i64 (k : Int)) rfl rfl (by kernel_rfl) (by kernel_rfl) (by kernel_rfl) (fun c a w h => h) (.inl ⟨rfl, fun w _ => rfl⟩) HW ?_
          simp only [List.setIfInBounds_toArray, List.set_cons_zero, List.set_cons_succ]
          refine takeH 6 79 (.pointer (some ⟨bh, oh + k * 14, none⟩)) rfl rfl (by kernel_rfl) (by kernel_rfl) (by kernel_rfl) (fun c a w h => h) (.inl ⟨rfl, fun w _ => by go_simp⟩) HW ?_
          simp only [List.setIfInBounds_toArray, List.set_cons_zero, List.set_cons_succ]
          refine takeH 7 80 (.agg (evC X ua ur).toArray) rfl rfl (by kernel_rfl) (by kernel_rfl) (by kernel_rfl) (fun c a w h => h) (yieldsIf_load_mid rfl 47 (.tmp 79) rfl bh (oh + k * 14) rfl (evC X ua ur) _ (fun wx hx => fun j u hj => (hx.cell (p := ⟨bh, oh + k * 14 + j, none⟩) HBk.out.2).trans (RZ.out j u hj)) Tryd.underlying47 rfl sizeE) HW ?_
          simp only [List.setIfInBounds_toArray, List.set_cons_zero, List.set_cons_succ]
          refine wpAnyH_all (rs := [8]) (by kernel_rfl) (by simp) (fun i hi => ?_)
          obtain rfl : i = 8 := by simpa using hi
          refine wpOp_doG 8 (by rfl) (by rfl) ?_
          go_wp2_with fail
          refine (HS.out n0 HW).mono ?_
          rintro e q1 ⟨rfl, hb⟩
          refine ⟨below_next HW hb, ?_⟩
          replace HW := below_next HW hb
          clear hb
          refine takeH 9 82 (.bool false) rfl rfl (by kernel_rfl) (by kernel_rfl) (by kernel_rfl) (fun c a w h => h) (.inl ⟨rfl, fun w _ => rfl⟩) HW ?_
          simp only [List.setIfInBounds_toArray, List.set_cons_zero, List.set_cons_succ]
          refine wpAnyH_done (by kernel_rfl) ?_ _
          show K _ _
          refine hKK _ _ ?_
          have HN : Hid (Below wr.heap.size wr _) := HW
          clear HW
          go_wp2
          go_roundw
          case rel => exact ⟨k + 1, by omega, by go_num, below_next HBr.out HN.out⟩
          case measure => simp [intOf] <;> omega
        · obtain rfl : k = q := by omega
          clear HW0
          have HCh : Hid (∀ w', Below wr.heap.size wr w' → Calls Tryd.prog 10 #[.slice ai k ci] w' fun e w'' => e = .returned (.agg #[.int .i64 ck.1, .int .i64 ck.2]) ∧ Below w'.heap.size w' w'') := fun w' h => HCk.out w' (below_next HB3.out h)
          have HFr : Hid (Blk wr fb [.int .i64 ck.1, .int .i64 ck.2] 27) := HFb.out.later HBr.out
          have hq2 := eqF
          have hg2 := eqgF
          have hs2 := eqfB_self
          go_wp2_with fail
          rename_i K hKK
          have HW0 : Below wr.heap.size wr { wr with drawn := wr.drawn + 1 } := ⟨rfl, rfl, rfl, Nat.le_refl _, fun _ _ => rfl⟩
          refine wp_region_held (S := fun wx => Below wr.heap.size wr wx) mixed ?_
          generalize ({ wr with drawn := wr.drawn + 1 } : World) = n0 at HW0 ⊢
          have HW := HW0
          clear HW0
          refine takeH 0 84 (.slice ai k ci) rfl rfl (by kernel_rfl) (by kernel_rfl) (by kernel_rfl) (fun c a w h => h) (.inl ⟨rfl, fun w _ => rfl⟩) HW ?_
          simp only [List.setIfInBounds_toArray, List.set_cons_zero, List.set_cons_succ]
          refine takeH 2 86 (.agg #[.int .i64 ck.1, .int .i64 ck.2]) rfl rfl (by kernel_rfl) (by kernel_rfl) (by kernel_rfl) (fun c a w h => h) (yieldsIf_load_mid rfl 27 (.tmp 5) rfl fb 0 rfl [.int .i64 ck.1, .int .i64 ck.2] _ (fun wx hx => Blk.all (HFr.out.later hx)) Tryd.underlying27 rfl sizeF) HW ?_
          simp only [List.setIfInBounds_toArray, List.set_cons_zero, List.set_cons_succ]
          refine wpAnyH_all (rs := [1]) (by kernel_rfl) (by simp) (fun i hi => ?_)
          obtain rfl : i = 1 := by simpa using hi
          refine wpOp_doG 1 (by rfl) (by rfl) ?_
          go_wp2_with fail
          refine (HCh.out n0 HW).mono ?_
          rintro e q1 ⟨rfl, hb⟩
          refine ⟨below_next HW hb, ?_⟩
          replace HW := below_next HW hb
          clear hb
          refine takeH 3 87 (.bool true) rfl rfl (by kernel_rfl) (by kernel_rfl) (by kernel_rfl) (fun c a w h => h) (.inl ⟨rfl, fun w _ => by go_simp⟩) HW ?_
          simp only [List.setIfInBounds_toArray, List.set_cons_zero, List.set_cons_succ]
          refine takeH 4 2 (.bool true) rfl rfl (by kernel_rfl) (by kernel_rfl) (by kernel_rfl) (fun c a w h => h) (.inl ⟨rfl, fun w _ => rfl⟩) HW ?_
          simp only [List.setIfInBounds_toArray, List.set_cons_zero, List.set_cons_succ]
          refine wpAnyH_done (by kernel_rfl) ?_ _
          show K _ _
          refine hKK _ _ ?_
          have HN : Hid (Below wr.heap.size wr _) := HW
          clear HW
          go_wp2
          go_ret
          exact ⟨rfl, below_next (below_next HWe.out HBr.out) HN.out⟩
end Go.Proofs.YtgdegbmakbfaaaaDoor
