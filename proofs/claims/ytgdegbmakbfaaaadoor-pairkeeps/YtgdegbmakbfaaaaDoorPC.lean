/- The contracts of the document's copies of an event and of a history. Conditions: the events lie in memory; sizes as the contracts take. -/
import Derived.Test.YtgdegbmakbfaaaaDoorBH
import Derived.Test.YtgdegbmakbfaaaaDoorBA
namespace Go.Proofs.YtgdegbmakbfaaaaDoor
open Go.RowKit Go.PlainAid Ln
set_option linter.unusedVariables false
set_option linter.unusedSimpArgs false

theorem infoSV4 : (Tryd.prog.info? 39).map (·.size) = some 1 := by kernel_rfl
/-- how the copy of an event ends -/
def RCopE (w : World) (x : Ev) (e : Ending) (w' : World) : Prop := ∃ ua ur, e = .returned (.agg (evC x ua ur).toArray) ∧ OwnV w' w.heap.size ua x.a ∧ OwnV w' w.heap.size ur x.r ∧ Below w.heap.size w w'
theorem own_emptyV (w : World) (B : Nat) (hB : B ≤ w.heap.size) : OwnV (w.alloc (.cells #[] 38)) B (.slice (some ⟨w.heap.size, 0, none⟩) 0 0) [] :=
  ⟨rfl, .inr ⟨w.heap.size, 0, #[], rfl, hB, World.alloc_heap_new w _, Nat.le_refl _, Nat.zero_le _, rfl, rfl⟩⟩
set_option maxRecDepth 100000 in
set_option maxHeartbeats 8000000 in
theorem rcopy_ev (x : Ev) (va vr : Value) (w : World) (h1 : VSl w va x.a) (h2 : VSl w vr x.r) (ha : x.a.length ≤ 1000000) (hr : x.r.length ≤ 1000000) :
    Calls Tryd.prog 25 #[.agg (evC x va vr).toArray] w fun e w' => RCopE w x e w' := by
  obtain ⟨av, cv, rfl⟩ : ∃ a c, va = .slice a x.a.length c := by obtain ⟨a, c, h, _⟩ := h1; exact ⟨a, c, h⟩
  obtain ⟨ar, cr, rfl⟩ : ∃ a c, vr = .slice a x.r.length c := by obtain ⟨a, c, h, _⟩ := h2; exact ⟨a, c, h⟩
  obtain ⟨w1, hw1⟩ : ∃ w1, w.alloc (.cells (evC x (.slice av x.a.length cv) (.slice ar x.r.length cr)).toArray 47) = w1 := ⟨_, rfl⟩
  obtain ⟨w2, hw2⟩ : ∃ w2, w1.alloc (.cells (evC noEv nilS nilS).toArray 47) = w2 := ⟨_, rfl⟩
  have B1 := Blk.new w (evC x (.slice av x.a.length cv) (.slice ar x.r.length cr)) 47
  have B2 := Blk.new w1 (evC noEv nilS nilS) 47
  have hs : w1.heap.size = w.heap.size + 1 := by rw [← hw1]; unfold World.alloc; exact Array.size_push ..
  have hs2 : w2.heap.size = w1.heap.size + 1 := by rw [← hw2]; unfold World.alloc; exact Array.size_push ..
  rw [hw1] at B1
  have B1' : Blk w2 w.heap.size (evC x (.slice av x.a.length cv) (.slice ar x.r.length cr)) 47 := by rw [← hw2]; exact B1.alloc _
  rw [hw2] at B2
  have b1 : Below w.heap.size w w1 := by rw [← hw1]; exact below_more (Below.refl _ _) _
  have b2 : Below w.heap.size w w2 := by rw [← hw2]; exact below_more b1 _
  have ea := hw1
  simp only [evC] at ea
  have eb := hw2
  simp only [evC, noEv, noB] at eb
  obtain ⟨p, hp⟩ : ∃ p, w.heap.size = p := ⟨_, rfl⟩
  obtain ⟨p1, hp1⟩ : ∃ p, w1.heap.size = p := ⟨_, rfl⟩
  obtain ⟨p2, hp2⟩ : ∃ p, w2.heap.size = p := ⟨_, rfl⟩
  have HP : Hid (w.heap.size = p ∧ w1.heap.size = p1 ∧ w2.heap.size = p2 ∧ p1 = p + 1 ∧ p2 = p1 + 1) := ⟨hp, hp1, hp2, by omega, by omega⟩
  rw [hp] at B1' 
  rw [hp1] at B2
  have HB1 : Hid (Blk (w2.alloc (.cells #[] 38)) p (evC x (.slice av x.a.length cv) (.slice ar x.r.length cr)) 47) := B1'.alloc _
  have HB2 : Hid (Blk (w2.alloc (.cells #[] 38)) p1 (evC noEv nilS nilS) 47) := B2.alloc _
  have Hb2 : Hid (Below w.heap.size w (w2.alloc (.cells #[] 38))) := below_more b2 _
  have HE3 : Hid (OwnV (w2.alloc (.cells #[] 38)) w.heap.size (.slice (some ⟨p2, 0, none⟩) 0 0) []) := by show OwnV _ _ _ _; rw [← hp2]; exact own_emptyV w2 w.heap.size b2.size
  have H1 : Hid (VSl w (.slice av x.a.length cv) x.a) := h1
  have H2 : Hid (VSl w (.slice ar x.r.length cr) x.r) := h2
  have HPl : Hid (w.heap.size ≤ p) := Nat.le_of_eq hp
  have HN1 : Hid (p1 ≠ p) := by show _ ≠ _; omega
  have a10 := HB1.out.cell 10 _ rfl
  clear hw1 hw2 B1 B2 b1 b2 h1 h2 hs hs2 B1'
  simp only [evC]
  go_enter Tryd.func25, Tryd.ntmps25
  go_wp2_with (first
    | (at_builtin; refine wpList_appendV rfl (.tmp 3) (.tmp 5) rfl w.heap.size (.slice (some ⟨p2, 0, none⟩) 0 0) [] rfl HE3.out (.slice av x.a.length cv) x.a rfl (H1.out.later Hb2.out) (by simpa using ha) Hb2.out.size ?_; intro v' w4 o1 g1 _; rw [List.nil_append] at o1; obtain ⟨au, cau, rfl⟩ := o1.form; have HOw4 : Hid (OwnV w4 w.heap.size (.slice au x.a.length cau) x.a) := o1; have HGw4 : Hid ((w2.alloc (.cells #[] 38)).grownBy w4 (some p2)) := g1; clear o1 g1)
    | ((with_reducible refine wp_storeC 39 (.tmp 7) (.tmp 6) p 10 (.slice au x.a.length cau) (evC x (.slice av x.a.length cv) (.slice ar x.r.length cr)) 47 infoSV4 ?_ ?_ ?_ ?_ ?_ ?_ (HB1.out.kept HGw4.out (fun e => by injection e with e; have := HP.out; omega)) ?_); (exact (show 10 < 14 by decide)); (exact rfl); (exact rfl); (exact ⟨rfl, rfl⟩); (exact rfl); (exact rfl); (intro w5 D o6); (have HDw5 : Hid (Blk w5 p ((evC x (.slice av x.a.length cv) (.slice ar x.r.length cr)).set 10 (.slice au x.a.length cau)) 47) := D); (have HO6w5 : Hid (Oth p p _ w5) := o6); (have Hb5 : Hid (Below w.heap.size w w5) := below_oth (Below.grown Hb2.out HGw4.out Hb2.out.size (fun q h => by injection h with h; have := HP.out; omega)) HO6w5.out HPl.out HPl.out (Nat.le_trans Hb2.out.size HGw4.out.size); have HU5 : Hid (OwnV w5 w.heap.size (.slice au x.a.length cau) x.a) := HOw4.out.oth HO6w5.out (HB1.out.kept HGw4.out (fun e => by injection e with e; have := HP.out; omega)) (by decide); have HB25 : Hid (Blk w5 p1 (evC noEv nilS nilS) 47) := (HB2.out.kept HGw4.out (fun e => by injection e with e; have := HP.out; omega)).oth HO6w5.out HN1.out HN1.out; have HE6 : Hid (OwnV (w5.alloc (.cells #[] 38)) w.heap.size (.slice (some ⟨w5.heap.size, 0, none⟩) 0 0) []) := own_emptyV w5 w.heap.size Hb5.out.size; have Hb6 : Hid (Below w.heap.size w (w5.alloc (.cells #[] 38))) := below_more Hb5.out _; have HB16 : Hid (Blk (w5.alloc (.cells #[] 38)) p (evC x (.slice au x.a.length cau) (.slice ar x.r.length cr)) 47) := HDw5.out.alloc _; have a11 := HB16.out.cell 11 _ rfl; have HU6 : Hid (OwnV (w5.alloc (.cells #[] 38)) w.heap.size (.slice au x.a.length cau) x.a) := HU5.out.later (below_more (Below.refl _ _) _); have HB26 : Hid (Blk (w5.alloc (.cells #[] 38)) p1 (evC noEv nilS nilS) 47) := HB25.out.alloc _; have HL5 : Hid (p < w5.heap.size ∧ p1 < w5.heap.size ∧ ∀ g, (Value.slice au x.a.length cau).ownBlock = some g → g < w5.heap.size) := ⟨HDw5.out.lt, HB25.out.lt, fun g h => (HU5.out.lt g h).2⟩); (clear D o6))
    | (at_builtin; refine wpList_appendV rfl (.tmp 8) (.tmp 10) rfl w.heap.size (.slice (some ⟨w5.heap.size, 0, none⟩) 0 0) [] rfl HE6.out (.slice ar x.r.length cr) x.r rfl (H2.out.later Hb6.out) (by simpa using hr) Hb6.out.size ?_; intro v' w7 o1 g1 _; rw [List.nil_append] at o1; obtain ⟨ub, cub, rfl⟩ := o1.form; have HOw7 : Hid (OwnV w7 w.heap.size (.slice ub x.r.length cub) x.r) := o1; have HGw7 : Hid ((w5.alloc (.cells #[] 38)).grownBy w7 (some w5.heap.size)) := g1; clear o1 g1)
    | ((with_reducible refine wp_storeC 39 (.tmp 12) (.tmp 11) p 11 (.slice ub x.r.length cub) (evC x (.slice au x.a.length cau) (.slice ar x.r.length cr)) 47 infoSV4 ?_ ?_ ?_ ?_ ?_ ?_ (HB16.out.kept HGw7.out (fun e => by injection e with e; have := HL5.out.1; omega)) ?_); (exact (show 11 < 14 by decide)); (exact rfl); (exact rfl); (exact ⟨rfl, rfl⟩); (exact rfl); (exact rfl); (intro w8 D o6); (have HDw8 : Hid (Blk w8 p ((evC x (.slice au x.a.length cau) (.slice ar x.r.length cr)).set 11 (.slice ub x.r.length cub)) 47) := D); (have HO6w8 : Hid (Oth p p _ w8) := o6); (have Hb8 : Hid (Below w.heap.size w w8) := below_oth (Below.grown Hb6.out HGw7.out Hb6.out.size (fun q h => by injection h with h; have := Hb5.out.size; omega)) HO6w8.out HPl.out HPl.out (Nat.le_trans Hb6.out.size HGw7.out.size); have HU8 : Hid (OwnV w8 w.heap.size (.slice au x.a.length cau) x.a) := OwnV.oth (World.ownsRow.kept HU6.out HGw7.out (.inr fun e => by have := HL5.out.2.2 _ e; omega)) HO6w8.out (HB16.out.kept HGw7.out (fun e => by injection e with e; have := HL5.out.1; omega)) (by decide); have HR8 : Hid (OwnV w8 w.heap.size (.slice ub x.r.length cub) x.r) := HOw7.out.oth HO6w8.out (HB16.out.kept HGw7.out (fun e => by injection e with e; have := HL5.out.1; omega)) (by decide); have HB28 : Hid (Blk w8 p1 (evC noEv nilS nilS) 47) := (HB26.out.kept HGw7.out (fun e => by injection e with e; have := HL5.out.2.1; omega)).oth HO6w8.out HN1.out HN1.out; have HB18 : Hid (Blk w8 p (evC x (.slice au x.a.length cau) (.slice ub x.r.length cub)) 47) := HDw8.out); (clear D o6))
    | ((with_reducible refine wpList_load_mid ?_ 47 (.tmp 1) ?_ p 0 ?_ (evC x (.slice au x.a.length cau) (.slice ub x.r.length cub)) _ (Blk.all HB18.out) Tryd.underlying47 ?_ ?_ ?_); (exact rfl); (exact rfl); (exact rfl); (exact rfl); (exact sizeE))
    | ((with_reducible refine wp_storeB 47 (.tmp 2) (.tmp 13) p1 0 (evC x (.slice au x.a.length cau) (.slice ub x.r.length cub)) (evC noEv nilS nilS) 47 ?_ ?_ (evC_one _ rfl rfl) ?_ ?_ ?_ HB28.out ?_); (exact sizeE); (exact (show 0 + 14 ≤ 14 by decide)); (exact ⟨rfl, rfl⟩); (exact rfl); (exact rfl); (intro wx Rx ox); (replace Rx : Blk wx p1 (evC x (.slice au x.a.length cau) (.slice ub x.r.length cub)) 47 := Rx)))

  refine ret_blk rfl p1 (evC x (.slice au x.a.length cau) (.slice ub x.r.length cub)) 47 _ Tryd.underlying47 rfl sizeE rfl Rx rfl ?_
  exact ⟨_, _, rfl, HU8.out.oth ox HB28.out (by decide), HR8.out.oth ox HB28.out (by decide), below_oth Hb8.out ox (by have := HP.out; omega) (by have := HP.out; omega) Hb8.out.size⟩
/-- how the copy of a history ends -/
def RCopH (w : World) (xs : List Ev) (e : Ending) (w' : World) : Prop := ∃ v zs, e = .returned v ∧ zs.map (·.1) = xs ∧ OwnY w' w.heap.size v zs ∧ OwnL w' w.heap.size zs ∧ Below w.heap.size w w'
set_option maxRecDepth 100000 in
set_option maxHeartbeats 8000000 in
theorem rcopy_h (v : Value) (ys : List YE) (w : World) (hv : YSl w v ys) (hi : InL w ys) (hz : ∀ i, i < ys.length → (ye ys i).1.a.length ≤ 1000000 ∧ (ye ys i).1.r.length ≤ 1000000) (hl : ys.length ≤ 900000) :
    Calls Tryd.prog 16 #[v] w fun e w' => RCopH w (ys.map (·.1)) e w' := by
  obtain ⟨a, c, rfl, hc1, hc2, _⟩ := hv.form
  have HV : Hid (YSl w (.slice a ys.length c) ys) := hv
  have HI : Hid (InL w ys) := hi
  have HZ : Hid (∀ i, i < ys.length → (ye ys i).1.a.length ≤ 1000000 ∧ (ye ys i).1.r.length ≤ 1000000) := hz
  have HX : Hid (∀ k, k < ys.length → (ys.map (·.1))[k]? = some (ye ys k).1) := fun k h => map_ye ys k h
  have HLx : Hid ((ys.map (·.1)).length = ys.length) := List.length_map ..
  clear hv hi hz
  generalize ys.map (·.1) = xs at *
  obtain ⟨q, hq⟩ : ∃ q, ys.length = q := ⟨_, rfl⟩
  have HQ : Hid (ys.length = q) := hq
  rw [hq] at HV HZ HX HLx hl hc1 ⊢
  clear hq
  go_enter Tryd.func16, Tryd.ntmps16
  go_wp2
  go_loopw [3, 4] (fun l i wr => ∃ (k : Nat) (zs : List YE), k ≤ q ∧ i = .int .i64 (k : Int) ∧ zs.map (·.1) = xs.take k ∧ OwnY wr w.heap.size l zs ∧ OwnL wr w.heap.size zs ∧ Below w.heap.size w wr) (fun l i wr => q - (intOf i).toNat)
  case atStart => exact ⟨0, [], Nat.zero_le _, rfl, rfl, OwnY.nil _ _, OwnL.nil _ _, Below.refl _ _⟩
  case round =>
    obtain ⟨k, zs, hk, rfl, hm, ho, hol, hb⟩ := hrel
    have HM : Hid (zs.map (·.1) = xs.take k) := hm
    have HOw : Hid (OwnY wr w.heap.size u3 zs) := ho
    have HOl : Hid (OwnL wr w.heap.size zs) := hol
    have HB : Hid (Below w.heap.size w wr) := hb
    obtain ⟨al, cl, rfl⟩ := ho.form
    have hzl : zs.length = k := by have := congrArg List.length hm; rw [List.length_map, List.length_take, HLx.out] at this; omega
    have HYl : Hid (zs.length = k) := hzl
    rw [hzl] at HOw ⊢
    clear hm ho hol hb hzl
    by_cases hlt : k < q
    case neg =>
      obtain rfl : k = q := by omega
      go_wp2
      go_ret
      exact ⟨_, zs, rfl, by rw [HM.out, ← HLx.out, List.take_length], HOw.out, HOl.out, HB.out⟩
    have hlt' : (k : Int) < (q : Int) := by omega
    have hk0 : (0 : Int) ≤ (k : Int) := by omega
    obtain ⟨b, o, rfl, hbl⟩ := HV.out.block (by rw [HQ.out]; omega)
    have hr := (HV.out.later HB.out).at (i := k) (by rw [HQ.out]; exact hlt)
    have hin := HI.out.later HB.out k (by rw [HQ.out]; exact hlt)
    have hzk := HZ.out k hlt
    have hxk := HX.out k hlt
    rcases hyk : ye ys k with ⟨X, va, vr⟩
    rw [hyk] at hr hin hzk hxk
    have HR : Hid (wr.rangeAt b (o + k * 14) (evC X va vr)) := hr
    have HXk : Hid (xs[k]? = some X) := hxk
    have HC : Hid (Calls Tryd.prog 25 #[.agg (evC X va vr).toArray] wr fun e w' => RCopE wr X e w') := rcopy_ev X va vr wr hin.1 hin.2 hzk.1 hzk.2
    clear hbl hr hin hzk hxk hyk
    go_wp2_with ((with_reducible refine wpList_load_mid ?_ 47 (.tmp 14) ?_ b (o + k * 14) ?_ (evC X va vr) _ HR.out Tryd.underlying47 ?_ ?_ ?_); (exact rfl); (exact rfl); (exact rfl); (exact rfl); (exact sizeE))
    refine HC.out.mono ?_
    rintro e w5 ⟨ua, ur, rfl, hua, hur, hb5⟩
    have HU1 : Hid (ua.oneCell' = true ∧ ur.oneCell' = true) := ⟨by obtain ⟨a1, c1, e1⟩ := hua.form; rw [e1]; rfl, by obtain ⟨a1, c1, e1⟩ := hur.form; rw [e1]; rfl⟩
    have Hb5 : Hid (Below wr.heap.size wr w5) := hb5
    have HU : Hid (OwnV w5 w.heap.size ua X.a ∧ OwnV w5 w.heap.size ur X.r) := ⟨hua.base HB.out.size, hur.base HB.out.size⟩
    clear hua hur hb5
    go_wp2_with (first
      | ((with_reducible refine wpList_buildE ?_ (.tmp 16) ?_ (X, ua, ur) ?_ w5.heap.size ?_ ?_); (exact rfl); (exact rfl); (exact rfl); (exact rfl))
      | (at_builtin; refine wpList_appendE1 rfl (.tmp 11) (.tmp 17) rfl w.heap.size (.slice al k cl) zs rfl (HOw.out.later (below_more Hb5.out _)) w5.heap.size (X, ua, ur) rfl (Blk.all (Blk.new w5 (encE (X, ua, ur)) 47)) HU1.out (by have := HYl.out; omega) (Nat.le_trans HB.out.size (below_more Hb5.out _).size) ?_; intro g6 cap6 w6 o6 gr6; have HO6 : Hid (OwnY w6 w.heap.size (.slice (some ⟨g6, 0, none⟩) (zs.length + 1) cap6) (zs ++ [(X, ua, ur)])) := o6; have HB6 : Hid (Below w.heap.size w w6) := Below.grown (below_next HB.out (below_more Hb5.out _)) gr6 (Nat.le_trans HB.out.size (below_more Hb5.out _).size) (fun q h => (HOw.out.lt q h).1); have HL6 : Hid (OwnL w6 w.heap.size (zs ++ [(X, ua, ur)])) := OwnL.snoc ((HOl.out.later (below_more Hb5.out _)).grown (HOw.out.later (below_more Hb5.out _)) gr6) ((HU.out.1.later (below_more (Below.refl _ _) _)).grownY (HOw.out.later (below_more Hb5.out _)) gr6) ((HU.out.2.later (below_more (Below.refl _ _) _)).grownY (HOw.out.later (below_more Hb5.out _)) gr6); clear o6 gr6))
    go_roundw
    case rel => exact ⟨k + 1, zs ++ [(X, ua, ur)], by omega, by go_num, by rw [List.map_append, HM.out, List.take_add_one, HXk.out]; rfl, HO6.out, HL6.out, HB6.out⟩
    case measure => simp [intOf] <;> omega
end Go.Proofs.YtgdegbmakbfaaaaDoor
