/- The contracts of the document's copies of an event and of a history. Conditions: the events lie in memory; sizes as the contracts take. Rows of values that are written over, kind by kind. No conditions. The walk of PairKeeps. Conditions: the table and the history lie in memory; numbers of 64 bits. -/
import Derived.Test.YtgdegbmakbfaaaaDoorBH
import Derived.Test.YtgdegbmakbfaaaaDoorBA
import Derived.Test.YtgdegbmakbfaaaaDoorQB
namespace Go.Proofs.YtgdegbmakbfaaaaDoor
open Go.RowKit Go.PlainAid Ln
set_option linter.unusedVariables false
set_option linter.unusedSimpArgs false

theorem infoSV4 : (Tryd.prog.info? 39).map (·.size) = some 1 := by kernel_rfl
/-- how the copy of an event ends -/
def RCopE (w : World) (x : Ev) (e : Ending) (w' : World) : Prop := ∃ ua ur, e = .returned (.agg (evC x ua ur).toArray) ∧ OwnV w' w.heap.size ua x.a ∧ OwnV w' w.heap.size ur x.r ∧ Below w.heap.size w w'
theorem own_emptyV (w : World) (B : Nat) (hB : B ≤ w.heap.size) : OwnV (w.alloc (.cells #[] 38)) B (.slice (some ⟨w.heap.size, 0, none⟩) 0 0) [] :=
  ⟨rfl, .inr ⟨w.heap.size, 0, #[], rfl, hB, World.alloc_heap_new w _, Nat.le_refl _, Nat.zero_le _, rfl, rfl⟩⟩
set_option maxRecDepth 100000 in
set_option maxHeartbeats 8000000 in
theorem rcopy_ev (x : Ev) (va vr : Value) (w : World) (h1 : VSl w va x.a) (h2 : VSl w vr x.r) (ha : x.a.length ≤ 1000000) (hr : x.r.length ≤ 1000000) :
    Calls Tryd.prog 25 #[.agg (evC x va vr).toArray] w fun e w' => RCopE w x e w' := by
  obtain ⟨av, cv, rfl⟩ : ∃ a c, va = .slice a x.a.length c := by obtain ⟨a, c, h, _⟩ := h1; exact ⟨a, c, h⟩
  obtain ⟨ar, cr, rfl⟩ : ∃ a c, vr = .slice a x.r.length c := by obtain ⟨a, c, h, _⟩ := h2; exact ⟨a, c, h⟩
  obtain ⟨w1, hw1⟩ : ∃ w1, w.alloc (.cells (evC x (.slice av x.a.length cv) (.slice ar x.r.length cr)).toArray 47) = w1 := ⟨_, rfl⟩
  obtain ⟨w2, hw2⟩ : ∃ w2, w1.alloc (.cells (evC noEv nilS nilS).toArray 47) = w2 := ⟨_, rfl⟩
  have B1 := Blk.new w (evC x (.slice av x.a.length cv) (.slice ar x.r.length cr)) 47
  have B2 := Blk.new w1 (evC noEv nilS nilS) 47
  have hs : w1.heap.size = w.heap.size + 1 := by rw [← hw1]; unfold World.alloc; exact Array.size_push ..
  have hs2 : w2.heap.size = w1.heap.size + 1 := by rw [← hw2]; unfold World.alloc; exact Array.size_push ..
  rw [hw1] at B1
  have B1' : Blk w2 w.heap.size (evC x (.slice av x.a.length cv) (.slice ar x.r.length cr)) 47 := by rw [← hw2]; exact B1.alloc _
  rw [hw2] at B2
  have b1 : Below w.heap.size w w1 := by rw [← hw1]; exact below_more (Below.refl _ _) _
  have b2 : Below w.heap.size w w2 := by rw [← hw2]; exact below_more b1 _
  have ea := hw1
  simp only [evC] at ea
  have eb := hw2
  simp only [evC, noEv, noB] at eb
  obtain ⟨p, hp⟩ : ∃ p, w.heap.size = p := ⟨_, rfl⟩
  obtain ⟨p1, hp1⟩ : ∃ p, w1.heap.size = p := ⟨_, rfl⟩
  obtain ⟨p2, hp2⟩ : ∃ p, w2.heap.size = p := ⟨_, rfl⟩
  have HP : Hid (w.heap.size = p ∧ w1.heap.size = p1 ∧ w2.heap.size = p2 ∧ p1 = p + 1 ∧ p2 = p1 + 1) := ⟨hp, hp1, hp2, by omega, by omega⟩
  rw [hp] at B1' 
  rw [hp1] at B2
  have HB1 : Hid (Blk (w2.alloc (.cells #[] 38)) p (evC x (.slice av x.a.length cv) (.slice ar x.r.length cr)) 47) := B1'.alloc _
  have HB2 : Hid (Blk (w2.alloc (.cells #[] 38)) p1 (evC noEv nilS nilS) 47) := B2.alloc _
  have Hb2 : Hid (Below w.heap.size w (w2.alloc (.cells #[] 38))) := below_more b2 _
  have HE3 : Hid (OwnV (w2.alloc (.cells #[] 38)) w.heap.size (.slice (some ⟨p2, 0, none⟩) 0 0) []) := by show OwnV _ _ _ _; rw [← hp2]; exact own_emptyV w2 w.heap.size b2.size
  have H1 : Hid (VSl w (.slice av x.a.length cv) x.a) := h1
  have H2 : Hid (VSl w (.slice ar x.r.length cr) x.r) := h2
  have HPl : Hid (w.heap.size ≤ p) := Nat.le_of_eq hp
  have HN1 : Hid (p1 ≠ p) := by show _ ≠ _; omega
  have a10 := HB1.out.cell 10 _ rfl
  clear hw1 hw2 B1 B2 b1 b2 h1 h2 hs hs2 B1'
  simp only [evC]
  go_enter Tryd.func25, Tryd.ntmps25
  go_wp2_with (first
    | (at_builtin; refine wpList_appendV rfl (.tmp 3) (.tmp 5) rfl w.heap.size (.slice (some ⟨p2, 0, none⟩) 0 0) [] rfl HE3.out (.slice av x.a.length cv) x.a rfl (H1.out.later Hb2.out) (by simpa using ha) Hb2.out.size ?_; intro v' w4 o1 g1 _; rw [List.nil_append] at o1; obtain ⟨au, cau, rfl⟩ := o1.form; have HOw4 : Hid (OwnV w4 w.heap.size (.slice au x.a.length cau) x.a) := o1; have HGw4 : Hid ((w2.alloc (.cells #[] 38)).grownBy w4 (some p2)) := g1; clear o1 g1)
    | ((with_reducible refine wp_storeC 39 (.tmp 7) (.tmp 6) p 10 (.slice au x.a.length cau) (evC x (.slice av x.a.length cv) (.slice ar x.r.length cr)) 47 infoSV4 ?_ ?_ ?_ ?_ ?_ ?_ (HB1.out.kept HGw4.out (fun e => by injection e with e; have := HP.out; omega)) ?_); (exact (show 10 < 14 by decide)); (exact rfl); (exact rfl); (exact ⟨rfl, rfl⟩); (exact rfl); (exact rfl); (intro w5 D o6); (have HDw5 : Hid (Blk w5 p ((evC x (.slice av x.a.length cv) (.slice ar x.r.length cr)).set 10 (.slice au x.a.length cau)) 47) := D); (have HO6w5 : Hid (Oth p p _ w5) := o6); (have Hb5 : Hid (Below w.heap.size w w5) := below_oth (Below.grown Hb2.out HGw4.out Hb2.out.size (fun q h => by injection h with h; have := HP.out; omega)) HO6w5.out HPl.out HPl.out (Nat.le_trans Hb2.out.size HGw4.out.size); have HU5 : Hid (OwnV w5 w.heap.size (.slice au x.a.length cau) x.a) := HOw4.out.oth HO6w5.out (HB1.out.kept HGw4.out (fun e => by injection e with e; have := HP.out; omega)) (by decide); have HB25 : Hid (Blk w5 p1 (evC noEv nilS nilS) 47) := (HB2.out.kept HGw4.out (fun e => by injection e with e; have := HP.out; omega)).oth HO6w5.out HN1.out HN1.out; have HE6 : Hid (OwnV (w5.alloc (.cells #[] 38)) w.heap.size (.slice (some ⟨w5.heap.size, 0, none⟩) 0 0) []) := own_emptyV w5 w.heap.size Hb5.out.size; have Hb6 : Hid (Below w.heap.size w (w5.alloc (.cells #[] 38))) := below_more Hb5.out _; have HB16 : Hid (Blk (w5.alloc (.cells #[] 38)) p (evC x (.slice au x.a.length cau) (.slice ar x.r.length cr)) 47) := HDw5.out.alloc _; have a11 := HB16.out.cell 11 _ rfl; have HU6 : Hid (OwnV (w5.alloc (.cells #[] 38)) w.heap.size (.slice au x.a.length cau) x.a) := HU5.out.later (below_more (Below.refl _ _) _); have HB26 : Hid (Blk (w5.alloc (.cells #[] 38)) p1 (evC noEv nilS nilS) 47) := HB25.out.alloc _; have HL5 : Hid (p < w5.heap.size ∧ p1 < w5.heap.size ∧ ∀ g, (Value.slice au x.a.length cau).ownBlock = some g → g < w5.heap.size) := ⟨HDw5.out.lt, HB25.out.lt, fun g h => (HU5.out.lt g h).2⟩); (clear D o6))
    | (at_builtin; refine wpList_appendV rfl (.tmp 8) (.tmp 10) rfl w.heap.size (.slice (some ⟨w5.heap.size, 0, none⟩) 0 0) [] rfl HE6.out (.slice ar x.r.length cr) x.r rfl (H2.out.later Hb6.out) (by simpa using hr) Hb6.out.size ?_; intro v' w7 o1 g1 _; rw [List.nil_append] at o1; obtain ⟨ub, cub, rfl⟩ := o1.form; have HOw7 : Hid (OwnV w7 w.heap.size (.slice ub x.r.length cub) x.r) := o1; have HGw7 : Hid ((w5.alloc (.cells #[] 38)).grownBy w7 (some w5.heap.size)) := g1; clear o1 g1)
    | ((with_reducible refine wp_storeC 39 (.tmp 12) (.tmp 11) p 11 (.slice ub x.r.length cub) (evC x (.slice au x.a.length cau) (.slice ar x.r.length cr)) 47 infoSV4 ?_ ?_ ?_ ?_ ?_ ?_ (HB16.out.kept HGw7.out (fun e => by injection e with e; have := HL5.out.1; omega)) ?_); (exact (show 11 < 14 by decide)); (exact rfl); (exact rfl); (exact ⟨rfl, rfl⟩); (exact rfl); (exact rfl); (intro w8 D o6); (have HDw8 : Hid (Blk w8 p ((evC x (.slice au x.a.length cau) (.slice ar x.r.length cr)).set 11 (.slice ub x.r.length cub)) 47) := D); (have HO6w8 : Hid (Oth p p _ w8) := o6); (have Hb8 : Hid (Below w.heap.size w w8) := below_oth (Below.grown Hb6.out HGw7.out Hb6.out.size (fun q h => by injection h with h; have := Hb5.out.size; omega)) HO6w8.out HPl.out HPl.out (Nat.le_trans Hb6.out.size HGw7.out.size); have HU8 : Hid (OwnV w8 w.heap.size (.slice au x.a.length cau) x.a) := OwnV.oth (World.ownsRow.kept HU6.out HGw7.out (.inr fun e => by have := HL5.out.2.2 _ e; omega)) HO6w8.out (HB16.out.kept HGw7.out (fun e => by injection e with e; have := HL5.out.1; omega)) (by decide); have HR8 : Hid (OwnV w8 w.heap.size (.slice ub x.r.length cub) x.r) := HOw7.out.oth HO6w8.out (HB16.out.kept HGw7.out (fun e => by injection e with e; have := HL5.out.1; omega)) (by decide); have HB28 : Hid (Blk w8 p1 (evC noEv nilS nilS) 47) := (HB26.out.kept HGw7.out (fun e => by injection e with e; have := HL5.out.2.1; omega)).oth HO6w8.out HN1.out HN1.out; have HB18 : Hid (Blk w8 p (evC x (.slice au x.a.length cau) (.slice ub x.r.length cub)) 47) := HDw8.out); (clear D o6))
    | ((with_reducible refine wpList_load_mid ?_ 47 (.tmp 1) ?_ p 0 ?_ (evC x (.slice au x.a.length cau) (.slice ub x.r.length cub)) _ (Blk.all HB18.out) Tryd.underlying47 ?_ ?_ ?_); (exact rfl); (exact rfl); (exact rfl); (exact rfl); (exact sizeE))
    | ((with_reducible refine wp_storeB 47 (.tmp 2) (.tmp 13) p1 0 (evC x (.slice au x.a.length cau) (.slice ub x.r.length cub)) (evC noEv nilS nilS) 47 ?_ ?_ (evC_one _ rfl rfl) ?_ ?_ ?_ HB28.out ?_); (exact sizeE); (exact (show 0 + 14 ≤ 14 by decide)); (exact ⟨rfl, rfl⟩); (exact rfl); (exact rfl); (intro wx Rx ox); (replace Rx : Blk wx p1 (evC x (.slice au x.a.length cau) (.slice ub x.r.length cub)) 47 := Rx)))

  refine ret_blk rfl p1 (evC x (.slice au x.a.length cau) (.slice ub x.r.length cub)) 47 _ Tryd.underlying47 rfl sizeE rfl Rx rfl ?_
  exact ⟨_, _, rfl, HU8.out.oth ox HB28.out (by decide), HR8.out.oth ox HB28.out (by decide), below_oth Hb8.out ox (by have := HP.out; omega) (by have := HP.out; omega) Hb8.out.size⟩
/-- how the copy of a history ends -/
def RCopH (w : World) (xs : List Ev) (e : Ending) (w' : World) : Prop := ∃ v zs, e = .returned v ∧ zs.map (·.1) = xs ∧ OwnY w' w.heap.size v zs ∧ OwnL w' w.heap.size zs ∧ Below w.heap.size w w'
set_option maxRecDepth 100000 in
set_option maxHeartbeats 8000000 in
theorem rcopy_h (v : Value) (ys : List YE) (w : World) (hv : YSl w v ys) (hi : InL w ys) (hz : ∀ i, i < ys.length → (ye ys i).1.a.length ≤ 1000000 ∧ (ye ys i).1.r.length ≤ 1000000) (hl : ys.length ≤ 900000) :
    Calls Tryd.prog 16 #[v] w fun e w' => RCopH w (ys.map (·.1)) e w' := by
  obtain ⟨a, c, rfl, hc1, hc2, _⟩ := hv.form
  have HV : Hid (YSl w (.slice a ys.length c) ys) := hv
  have HI : Hid (InL w ys) := hi
  have HZ : Hid (∀ i, i < ys.length → (ye ys i).1.a.length ≤ 1000000 ∧ (ye ys i).1.r.length ≤ 1000000) := hz
  have HX : Hid (∀ k, k < ys.length → (ys.map (·.1))[k]? = some (ye ys k).1) := fun k h => map_ye ys k h
  have HLx : Hid ((ys.map (·.1)).length = ys.length) := List.length_map ..
  clear hv hi hz
  generalize ys.map (·.1) = xs at *
  obtain ⟨q, hq⟩ : ∃ q, ys.length = q := ⟨_, rfl⟩
  have HQ : Hid (ys.length = q) := hq
  rw [hq] at HV HZ HX HLx hl hc1 ⊢
  clear hq
  go_enter Tryd.func16, Tryd.ntmps16
  go_wp2
  go_loopw [3, 4] (fun l i wr => ∃ (k : Nat) (zs : List YE), k ≤ q ∧ i = .int .i64 (k : Int) ∧ zs.map (·.1) = xs.take k ∧ OwnY wr w.heap.size l zs ∧ OwnL wr w.heap.size zs ∧ Below w.heap.size w wr) (fun l i wr => q - (intOf i).toNat)
  case atStart => exact ⟨0, [], Nat.zero_le _, rfl, rfl, OwnY.nil _ _, OwnL.nil _ _, Below.refl _ _⟩
  case round =>
    obtain ⟨k, zs, hk, rfl, hm, ho, hol, hb⟩ := hrel
    have HM : Hid (zs.map (·.1) = xs.take k) := hm
    have HOw : Hid (OwnY wr w.heap.size u3 zs) := ho
    have HOl : Hid (OwnL wr w.heap.size zs) := hol
    have HB : Hid (Below w.heap.size w wr) := hb
    obtain ⟨al, cl, rfl⟩ := ho.form
    have hzl : zs.length = k := by have := congrArg List.length hm; rw [List.length_map, List.length_take, HLx.out] at this; omega
    have HYl : Hid (zs.length = k) := hzl
    rw [hzl] at HOw ⊢
    clear hm ho hol hb hzl
    by_cases hlt : k < q
    case neg =>
      obtain rfl : k = q := by omega
      go_wp2
      go_ret
      exact ⟨_, zs, rfl, by rw [HM.out, ← HLx.out, List.take_length], HOw.out, HOl.out, HB.out⟩
    have hlt' : (k : Int) < (q : Int) := by omega
    have hk0 : (0 : Int) ≤ (k : Int) := by omega
    obtain ⟨b, o, rfl, hbl⟩ := HV.out.block (by rw [HQ.out]; omega)
    have hr := (HV.out.later HB.out).at (i := k) (by rw [HQ.out]; exact hlt)
    have hin := HI.out.later HB.out k (by rw [HQ.out]; exact hlt)
    have hzk := HZ.out k hlt
    have hxk := HX.out k hlt
    rcases hyk : ye ys k with ⟨X, va, vr⟩
    rw [hyk] at hr hin hzk hxk
    have HR : Hid (wr.rangeAt b (o + k * 14) (evC X va vr)) := hr
    have HXk : Hid (xs[k]? = some X) := hxk
    have HC : Hid (Calls Tryd.prog 25 #[.agg (evC X va vr).toArray] wr fun e w' => RCopE wr X e w') := rcopy_ev X va vr wr hin.1 hin.2 hzk.1 hzk.2
    clear hbl hr hin hzk hxk hyk
    go_wp2_with ((with_reducible refine wpList_load_mid ?_ 47 (.tmp 14) ?_ b (o + k * 14) ?_ (evC X va vr) _ HR.out Tryd.underlying47 ?_ ?_ ?_); (exact rfl); (exact rfl); (exact rfl); (exact rfl); (exact sizeE))
    refine HC.out.mono ?_
    rintro e w5 ⟨ua, ur, rfl, hua, hur, hb5⟩
    have HU1 : Hid (ua.oneCell' = true ∧ ur.oneCell' = true) := ⟨by obtain ⟨a1, c1, e1⟩ := hua.form; rw [e1]; rfl, by obtain ⟨a1, c1, e1⟩ := hur.form; rw [e1]; rfl⟩
    have Hb5 : Hid (Below wr.heap.size wr w5) := hb5
    have HU : Hid (OwnV w5 w.heap.size ua X.a ∧ OwnV w5 w.heap.size ur X.r) := ⟨hua.base HB.out.size, hur.base HB.out.size⟩
    clear hua hur hb5
    go_wp2_with (first
      | ((with_reducible refine wpList_buildE ?_ (.tmp 16) ?_ (X, ua, ur) ?_ w5.heap.size ?_ ?_); (exact rfl); (exact rfl); (exact rfl); (exact rfl))
      | (at_builtin; refine wpList_appendE1 rfl (.tmp 11) (.tmp 17) rfl w.heap.size (.slice al k cl) zs rfl (HOw.out.later (below_more Hb5.out _)) w5.heap.size (X, ua, ur) rfl (Blk.all (Blk.new w5 (encE (X, ua, ur)) 47)) HU1.out (by have := HYl.out; omega) (Nat.le_trans HB.out.size (below_more Hb5.out _).size) ?_; intro g6 cap6 w6 o6 gr6; have HO6 : Hid (OwnY w6 w.heap.size (.slice (some ⟨g6, 0, none⟩) (zs.length + 1) cap6) (zs ++ [(X, ua, ur)])) := o6; have HB6 : Hid (Below w.heap.size w w6) := Below.grown (below_next HB.out (below_more Hb5.out _)) gr6 (Nat.le_trans HB.out.size (below_more Hb5.out _).size) (fun q h => (HOw.out.lt q h).1); have HL6 : Hid (OwnL w6 w.heap.size (zs ++ [(X, ua, ur)])) := OwnL.snoc ((HOl.out.later (below_more Hb5.out _)).grown (HOw.out.later (below_more Hb5.out _)) gr6) ((HU.out.1.later (below_more (Below.refl _ _) _)).grownY (HOw.out.later (below_more Hb5.out _)) gr6) ((HU.out.2.later (below_more (Below.refl _ _) _)).grownY (HOw.out.later (below_more Hb5.out _)) gr6); clear o6 gr6))
    go_roundw
    case rel => exact ⟨k + 1, zs ++ [(X, ua, ur)], by omega, by go_num, by rw [List.map_append, HM.out, List.take_add_one, HXk.out]; rfl, HO6.out, HL6.out, HB6.out⟩
    case measure => simp [intOf] <;> omega
end Go.Proofs.YtgdegbmakbfaaaaDoor
namespace Go.Proofs.YtgdegbmakbfaaaaDoor
open Go.RowKit Go.PlainAid Ln
set_option linter.unusedVariables false
set_option linter.unusedSimpArgs false

theorem infoI5 : (Tryd.prog.info? 3).map (·.size) = some 1 := by kernel_rfl
theorem cellsV_kind : ∀ (xs : List Val) (j : Nat) (c : Int), (cellsV xs).set (j * 3) (.int .i64 c) = cellsV (xs.set j (c, (nv xs j).2.1, (nv xs j).2.2))
  | [], j, c => by simp [cellsV]
  | x :: xs, 0, c => by rfl
  | x :: xs, j + 1, c => by
    have ih := cellsV_kind xs j c
    have e1 : cellsV (x :: xs) = encV x ++ cellsV xs := rfl
    have e2 : (nv (x :: xs) (j + 1)) = nv xs j := by unfold nv; simp
    have e3 : (x :: xs).set (j + 1) (c, (nv xs j).2.1, (nv xs j).2.2) = x :: xs.set j (c, (nv xs j).2.1, (nv xs j).2.2) := rfl
    have e4 : cellsV (x :: xs.set j (c, (nv xs j).2.1, (nv xs j).2.2)) = encV x ++ cellsV (xs.set j (c, (nv xs j).2.1, (nv xs j).2.2)) := rfl
    have hl : (encV x).length = 3 := rfl
    rw [e2, e3, e4, e1, List.set_append_right _ _ (by rw [hl]; omega), hl, show (j + 1) * 3 - 3 = j * 3 by omega, ih]
/-- the kind of a row's j-th value is written over -/
def KSet (w w' : World) (g j : Nat) : Prop := ∃ cur : Array Value, w.heap[g]? = some (.cells cur 38 (0, 0)) ∧ w'.heap[g]? = some (.cells (cur.setIfInBounds (j * 3) (.int .i64 9)) 38 (0, 0)) ∧ Oth g g w w'
theorem wp_storeK {ops : Array Oper} {rest : List Oper} {o : Oper} {a : Act} {w : World} {Q : Exit → Act → World → Prop} (x y : Operand) (hop : o.guard = none ∧ o.op = .store 3 x y) (B g n cap : Nat) (xs : List Val) (hown : OwnV w B (.slice (some ⟨g, 0, none⟩) n cap) xs)
    (j : Nat) (hj : j < xs.length) (hx : a.eval x = .pointer (some ⟨g, j * 3, none⟩)) (hy : a.eval y = .int .i64 9) (hK : ∀ w', KSet w w' g j → wpList Tryd.prog ops Q rest (a.put o.dst undef) w') : wpList Tryd.prog ops Q (o :: rest) a w := by
  obtain ⟨h1, h2⟩ := hown
  rcases h2 with ⟨e, _⟩ | ⟨g', cap', cur, e, hb, hg, hn, hc, hs, ht⟩
  · cases e
  injection e with e1 e2 e3
  injection e1 with e1
  injection e1 with e1
  subst e1 e2 e3
  have hl : j * 3 < cur.toList.length := by simp [hs]; omega
  refine wp_storeC 3 x y g (j * 3) (.int .i64 9) cur.toList 38 infoI5 hl rfl rfl hop hx hy (by show w.heap[g]? = some (.cells cur.toList.toArray _ _); simpa using hg) ?_
  intro w' hB ho
  refine hK w' ⟨cur, hg, ?_, ho⟩
  have hB' : w'.heap[g]? = some (.cells (cur.toList.set (j * 3) (.int .i64 9)).toArray 38 (0, 0)) := hB
  rw [hB']
  congr 2
  apply Array.toList_inj.1
  simp
/-- a row of so many values -/
def ExV (w : World) (B : Nat) (u : Value) (n : Nat) : Prop := ∃ xs, xs.length = n ∧ OwnV w B u xs
theorem ExV.later {w w' : World} {B n : Nat} {u : Value} (h : ExV w B u n) (hb : Below w.heap.size w w') : ExV w' B u n := by obtain ⟨xs, h1, h2⟩ := h; exact ⟨xs, h1, h2.later hb⟩
theorem ExV.kset {w w' : World} {B n g j : Nat} {u : Value} (h : ExV w B u n) (hk : KSet w w' g j) : ExV w' B u n := by
  obtain ⟨xs, hl, ho⟩ := h
  obtain ⟨cur, hg, hg', hoth⟩ := hk
  by_cases e : u.ownBlock = some g
  · obtain ⟨h1, h2⟩ := ho
    rcases h2 with ⟨rfl, _⟩ | ⟨g2, cap, cur2, rfl, hb, hg2, hn, hc, hs, ht⟩
    · simp [Value.ownBlock] at e
    · obtain rfl : g2 = g := by simpa [Value.ownBlock] using e
      obtain rfl : cur2 = cur := by
        have := hg2.symm.trans hg
        simp at this
        exact this
      refine ⟨xs.set j (9, (nv xs j).2.1, (nv xs j).2.2), by rw [List.length_set]; exact hl, by rw [← cellsV_kind, List.length_set, List.length_set]; exact h1, .inr ⟨g2, cap, cur2.setIfInBounds (j * 3) (.int .i64 9), by rw [List.length_set], hb, hg', by rw [List.length_set]; exact hn, hc, by simpa using hs, ?_⟩⟩
      rw [← cellsV_kind, ← ht, List.length_set]
      simp [List.take_set]
  · exact ⟨xs, hl, World.ownsRow.kept ho hoth.grown (.inr e)⟩
/-- what stays as it is while the lists of operations are written over -/
structure KS (w0 w : World) (B fb : Nat) (l : Value) (zs : List YO) (fc : List Value) : Prop where
  own : OwnO w B l zs
  exa : ∀ i, i < zs.length → ExV w B (yo zs i).2.1 (yo zs i).1.a.length ∧ ExV w B (yo zs i).2.2 (yo zs i).1.r.length
  fbx : Blk w fb fc 27
  bel : Below B w0 w
  lo : B ≤ w.heap.size
theorem KS.kset {w0 w w' : World} {B fb g j : Nat} {l : Value} {zs : List YO} {fc : List Value} (h : KS w0 w B fb l zs fc) (hk : KSet w w' g j) (hB : B ≤ g) : KS w0 w' B fb l zs fc := by
  have hk' := hk
  obtain ⟨cur, hg, hg', ho⟩ := hk
  have hblk : Blk w g cur.toList 38 := by show w.heap[g]? = some (.cells cur.toList.toArray _ _); simpa using hg
  have hfb : fb ≠ g := by
    rintro rfl
    have := (show w.heap[fb]? = _ from h.fbx).symm.trans hg
    simp at this
  exact ⟨World.ownsRow.kept h.own ho.grown (.inr (hblk.not_row (by decide) h.own).symm), fun i hi => ⟨(h.exa i hi).1.kset hk', (h.exa i hi).2.kset hk'⟩, h.fbx.oth ho hfb hfb, below_oth h.bel ho hB hB h.lo, Nat.le_trans h.lo ho.size⟩
theorem KS.start {w : World} {B fb : Nat} {l : Value} {zs : List YO} {fc : List Value} (h : OwnO w B l zs) (hl : OwnLO w B zs) (hf : Blk w fb fc 27) (hB : B ≤ w.heap.size) : KS w w B fb l zs fc :=
  ⟨h, fun i hi => ⟨⟨_, rfl, (hl i hi).1⟩, ⟨_, rfl, (hl i hi).2⟩⟩, hf, Below.refl _ _, hB⟩
end Go.Proofs.YtgdegbmakbfaaaaDoor
namespace Go.Proofs.YtgdegbmakbfaaaaDoor
open Go.RowKit Go.PlainAid Ln
set_option linter.unusedVariables false
set_option linter.unusedSimpArgs false

set_option maxRecDepth 100000 in
set_option maxHeartbeats 16000000 in
theorem law_keeps (v : Value) (ys : List YE) (w : World) (ht : Tb w) (hy : YSl w v ys) (hi : InL w ys) (hb : InE ys) : Calls Tryd.prog 7 #[v] w fun e w' => e = .returned (.bool true) ∧ Below w.heap.size w w' := by
  have mixed : Tryd.prog.follows .mixedOrders = true := by kernel_rfl
  have HT : Hid (Tb w) := ht
  have HY : Hid (YSl w v ys) := hy
  have HI : Hid (InL w ys) := hi
  have HK : Hid (∀ i, i < ys.length → KV (ye ys i).1.c) := ine_kv hb
  have HG : Hid (∀ i, i < ys.length → LgE (ye ys i).1) := fun i h => (hb i h).2.1
  clear ht hi hb
  obtain ⟨ah, hc, rfl, hc1, hc2, _⟩ := hy.form
  clear hy
  obtain ⟨q, hq⟩ : ∃ q, ys.length = q := ⟨_, rfl⟩
  have HQ : Hid (ys.length = q) := hq
  rw [hq] at HK HG HY hc1 ⊢
  clear hq
  go_enter Tryd.func7, Tryd.ntmps7
  go_wp2_with fail
  refine (wakes_p _ HT.out).mono ?_
  rintro e w1 ⟨rfl, b1⟩
  have Hb1 : Hid (Below w.heap.size w w1) := b1
  clear b1
  go_wp2_with fail
  refine (rgreat_h _ ys 60 w1 (HY.out.later Hb1.out) (HI.out.later Hb1.out) (by rw [HQ.out]; exact HG.out)).mono ?_
  rintro e w2 ⟨g, rfl, hsm, b2⟩
  have Hb2 : Hid (Below w.heap.size w w2) := below_next Hb1.out b2
  clear b2
  cases g
  case true =>
    go_wp2
    go_ret
    exact ⟨rfl, Hb2.out⟩
  obtain ⟨hl, hse⟩ := hsm rfl
  have HL : Hid (q ≤ 60) := by rw [HQ.out] at hl; exact hl
  have HZ : Hid (∀ i, i < q → SzE (ye ys i).1) := fun i h => (hse i (by rw [HQ.out]; exact h)).sz
  clear hsm hl hse
  go_wp2_with fail
  refine (rcopy_h _ ys w2 (HY.out.later Hb2.out) (HI.out.later Hb2.out) (by rw [HQ.out]; exact fun i h => ⟨(HZ.out i h).2.2.2.2.1, (HZ.out i h).2.2.2.2.2⟩) (by rw [HQ.out]; have := HL.out; omega)).mono ?_
  rintro e w3 ⟨vi, is, rfl, him, hio, hil, b3⟩
  have Hb3 : Hid (Below w.heap.size w w3) := below_next Hb2.out b3
  have hisl : is.length = q := by have := congrArg List.length him; rw [List.length_map, List.length_map, HQ.out] at this; exact this
  have h1y : ∀ k, k < q → (ye is k).1 = (ye ys k).1 := fun k hk => by
    have e1 := map_ye is k (by omega)
    have e2 := map_ye ys k (by rw [HQ.out]; exact hk)
    rw [him] at e1
    exact Option.some.inj (e1.symm.trans e2)
  have H1Y : Hid (∀ k, k < q → (ye is k).1 = (ye ys k).1) := h1y
  obtain ⟨ai, ci, rfl, hci1, hci2, _⟩ := hio.ysl.form
  have HIs : Hid (YSl w3 (.slice ai is.length ci) is) := hio.ysl
  have HIl : Hid (InL w3 is) := hil.inL
  have HIm : Hid (is.map (·.1) = ys.map (·.1)) := him
  have HIq : Hid (is.length = q) := hisl
  rw [hisl] at HIs hci1 ⊢
  clear b3 him hio hil hisl h1y
  have hZi : ∀ i, i < is.length → SzE (ye is i).1 := fun i h => by rw [HIq.out] at h; rw [H1Y.out i h]; exact HZ.out i h
  have hKi : ∀ i, i < is.length → KV (ye is i).1.c := fun i h => by rw [HIq.out] at h; rw [H1Y.out i h]; exact HK.out i h
  have HCk : Hid (∀ w', Below w3.heap.size w3 w' → Calls Tryd.prog 10 #[.slice ai q ci] w' fun e w'' => e = .returned (.agg #[.int .i64 (checkE (is.map (·.1))).1, .int .i64 (checkE (is.map (·.1))).2]) ∧ Below w'.heap.size w' w'') := fun w' h => check_any _ is w' (HIs.out.later h) (HIl.out.later h) hZi hKi (by rw [HIq.out]; have := HL.out; omega) (HT.out.later (below_next Hb3.out h))
  have hO := opers_any _ is w3 HIs.out HIl.out hZi hKi (by rw [HIq.out]; have := HL.out; omega) (HT.out.later Hb3.out)
  clear hZi hKi
  go_wp2_with fail
  refine hO.mono ?_
  clear hO
  rintro e w4 ⟨vl, zs0, rfl, hok, hbad, b4⟩
  have h34 : Below w3.heap.size w3 w4 := b4
  generalize checkE (is.map (·.1)) = ck at *
  have hall : ∃ zs, OwnO w4 w3.heap.size vl zs ∧ OwnLO w4 w3.heap.size zs := by
    by_cases h0 : ck.1 = 0
    · exact ⟨zs0, (hok h0).2⟩
    · rw [hbad h0]; exact ⟨[], OwnO.nil _ _, OwnLO.nil _ _⟩
  obtain ⟨zs, hzo, hzl⟩ := hall
  clear hok hbad b4
  have hK5 : KS (w4.alloc (.cells #[.int .i64 ck.1, .int .i64 ck.2] 27)) (w4.alloc (.cells #[.int .i64 ck.1, .int .i64 ck.2] 27)) w3.heap.size w4.heap.size vl zs [.int .i64 ck.1, .int .i64 ck.2] := KS.start (w := (w4.alloc (.cells #[.int .i64 ck.1, .int .i64 ck.2] 27))) (hzo.later (below_more (Below.refl _ _) _)) (hzl.later (below_more (Below.refl _ _) _)) (Blk.new w4 [.int .i64 ck.1, .int .i64 ck.2] 27) (Nat.le_trans h34.size (below_more (Below.refl w4.heap.size w4) _).size)
  have h35 : Below w3.heap.size w3 (w4.alloc (.cells #[.int .i64 ck.1, .int .i64 ck.2] 27)) := below_more h34 _
  have hbl0 : zs.length ≤ 9223372036854775807 := by obtain ⟨_, _, _, h1, h2, _⟩ := hzo.osl.form; omega
  obtain ⟨al, cl, rfl⟩ := hzo.form
  obtain ⟨l, hzn⟩ : ∃ l, zs.length = l := ⟨_, rfl⟩
  have HZl : Hid (zs.length = l) := hzn
  rw [hzn] at hK5 hbl0 ⊢
  obtain ⟨B, hB⟩ : ∃ B, w3.heap.size = B := ⟨_, rfl⟩
  have HBe : Hid (w3.heap.size = B) := hB
  rw [hB] at hK5
  clear hzo hzl hzn hB
  go_wp2_with fail
  obtain ⟨fb, hfb⟩ : ∃ fb, w4.heap.size = fb := ⟨_, rfl⟩
  rw [hfb] at hK5 ⊢
  clear hfb
  generalize (w4.alloc (.cells #[.int .i64 ck.1, .int .i64 ck.2] 27)) = w5 at hK5 h35 ⊢
  have HK5 : Hid (KS w5 w5 B fb (.slice al l cl) zs [.int .i64 ck.1, .int .i64 ck.2]) := hK5
  have H35 : Hid (Below w3.heap.size w3 w5) := h35
  clear hK5 h35 h34
  go_loopw [23] (fun i wr => ∃ k : Nat, k ≤ l ∧ i = .int .i64 (k : Int) ∧ KS w5 wr B fb (.slice al l cl) zs [.int .i64 ck.1, .int .i64 ck.2]) (fun i wr => l - (intOf i).toNat)
  case atStart => exact ⟨0, Nat.zero_le _, rfl, HK5.out⟩
  case round =>
    obtain ⟨k, hk, rfl, hks⟩ := hrel
    have HKr : Hid (KS w5 wr B fb (.slice al l cl) zs [.int .i64 ck.1, .int .i64 ck.2]) := hks
    clear hks
    by_cases hlt : k < l
    case pos =>
      have hlt' : (k : Int) < (l : Int) := by omega
      have hk0 : (0 : Int) ≤ (k : Int) := by omega
      obtain ⟨b, o, rfl, hbl⟩ := HKr.out.own.osl.block (by rw [HZl.out]; omega)
      obtain ⟨xA, hxA, hwA⟩ := (HKr.out.exa k (by rw [HZl.out]; exact hlt)).1
      obtain ⟨xR, hxR, hwR⟩ := (HKr.out.exa k (by rw [HZl.out]; exact hlt)).2
      have hbA : xA.length ≤ 9223372036854775807 := by obtain ⟨_, _, _, h1, h2, _⟩ := hwA.vsl.form; omega
      have hbR : xR.length ≤ 9223372036854775807 := by obtain ⟨_, _, _, h1, h2, _⟩ := hwR.vsl.form; omega
      obtain ⟨aA, cA, eA⟩ := hwA.form
      obtain ⟨aR, cR, eR⟩ := hwR.form
      rw [hxA] at eA hbA
      rw [hxR] at eR hbR
      obtain ⟨nA, hnA⟩ : ∃ n, (yo zs k).1.a.length = n := ⟨_, rfl⟩
      obtain ⟨nR, hnR⟩ : ∃ n, (yo zs k).1.r.length = n := ⟨_, rfl⟩
      rw [hnA] at eA hbA
      rw [hnR] at eR hbR
      have HA : Hid ((yo zs k).2.1 = .slice aA nA cA ∧ (yo zs k).1.a.length = nA) := ⟨eA, hnA⟩
      have HR : Hid ((yo zs k).2.2 = .slice aR nR cR ∧ (yo zs k).1.r.length = nR) := ⟨eR, hnR⟩
      have HC8 : Hid (∀ wx, KS w5 wx B fb (.slice (some ⟨b, o, none⟩) l cl) zs [.int .i64 ck.1, .int .i64 ck.2] → wx.cell? ⟨b, o + k * 12 + 8, none⟩ = some (.slice aA nA cA)) := fun wx h => by
        have := h.own.osl.at (i := k) (by rw [HZl.out]; exact hlt) 8 (yo zs k).2.1 rfl
        rw [this, HA.out.1]
      have HC9 : Hid (∀ wx, KS w5 wx B fb (.slice (some ⟨b, o, none⟩) l cl) zs [.int .i64 ck.1, .int .i64 ck.2] → wx.cell? ⟨b, o + k * 12 + 9, none⟩ = some (.slice aR nR cR)) := fun wx h => by
        have := h.own.osl.at (i := k) (by rw [HZl.out]; exact hlt) 9 (yo zs k).2.2 rfl
        rw [this, HR.out.1]
      clear hbl hwA hwR eA eR hnA hnR hxA hxR
      have c8 := HC8.out wr HKr.out
      go_wp2_with fail
      go_loopw [32] (fun i wr => ∃ j : Nat, j ≤ nA ∧ i = .int .i64 (j : Int) ∧ KS w5 wr B fb (.slice (some ⟨b, o, none⟩) l cl) zs [.int .i64 ck.1, .int .i64 ck.2]) (fun i wr => nA - (intOf i).toNat)
      case atStart => exact ⟨0, Nat.zero_le _, rfl, HKr.out⟩
      case round =>
        obtain ⟨j, hj, rfl, hks⟩ := hrel
        have HKj : Hid (KS w5 wr B fb (.slice (some ⟨b, o, none⟩) l cl) zs [.int .i64 ck.1, .int .i64 ck.2]) := hks
        clear hks
        by_cases hjt : j < nA
        case pos =>
          have hjt' : (j : Int) < (nA : Int) := by omega
          have hj0 : (0 : Int) ≤ (j : Int) := by omega
          obtain ⟨x2, hx2, hw2⟩ := (HKj.out.exa k (by rw [HZl.out]; exact hlt)).1
          rw [HA.out.1] at hw2
          rw [HA.out.2] at hx2
          obtain ⟨g, rfl⟩ : ∃ g, aA = some ⟨g, 0, none⟩ := by
            rcases hw2.2 with ⟨e, h0⟩ | ⟨g, cap, cur, e, _⟩
            · omega
            · injection e with e; exact ⟨g, e⟩
          have HWn : Hid (OwnV wr B (.slice (some ⟨g, 0, none⟩) nA cA) x2) := hw2
          have HXn : Hid (x2.length = nA) := hx2
          have HGB : Hid (B ≤ g) := (hw2.lt g rfl).1
          have c8 := HC8.out wr HKj.out
          clear hw2 hx2
          go_wp2_with ((with_reducible refine wp_storeK (.tmp 42) (.const (.int .i64 9)) ?_ B g nA cA x2 HWn.out j ?_ ?_ ?_ ?_); (exact ⟨rfl, rfl⟩); (exact (by rw [HXn.out]; exact hjt)); (exact rfl); (exact rfl); (intro wk hks); (have HKk : Hid (KS w5 wk B fb (.slice (some ⟨b, o, none⟩) l cl) zs [.int .i64 ck.1, .int .i64 ck.2]) := HKj.out.kset hks HGB.out); (clear hks))
          go_roundw
          case rel => exact ⟨j + 1, by omega, by go_num, HKk.out⟩
          case measure => simp [intOf] <;> omega
        case neg =>
          obtain rfl : j = nA := by omega
          have c9 := HC9.out wr HKj.out
          go_wp2_with fail
          go_loopw [50] (fun i wr => ∃ j : Nat, j ≤ nR ∧ i = .int .i64 (j : Int) ∧ KS w5 wr B fb (.slice (some ⟨b, o, none⟩) l cl) zs [.int .i64 ck.1, .int .i64 ck.2]) (fun i wr => nR - (intOf i).toNat)
          case atStart => exact ⟨0, Nat.zero_le _, rfl, HKj.out⟩
          case round =>
            obtain ⟨i, hi, rfl, hks⟩ := hrel
            have HKi : Hid (KS w5 wr B fb (.slice (some ⟨b, o, none⟩) l cl) zs [.int .i64 ck.1, .int .i64 ck.2]) := hks
            clear hks
            by_cases hit : i < nR
            case pos =>
              have hit' : (i : Int) < (nR : Int) := by omega
              have hi0 : (0 : Int) ≤ (i : Int) := by omega
              obtain ⟨x2, hx2, hw2⟩ := (HKi.out.exa k (by rw [HZl.out]; exact hlt)).2
              rw [HR.out.1] at hw2
              rw [HR.out.2] at hx2
              obtain ⟨g, rfl⟩ : ∃ g, aR = some ⟨g, 0, none⟩ := by
                rcases hw2.2 with ⟨e, h0⟩ | ⟨g, cap, cur, e, _⟩
                · omega
                · injection e with e; exact ⟨g, e⟩
              have HWn : Hid (OwnV wr B (.slice (some ⟨g, 0, none⟩) nR cR) x2) := hw2
              have HXn : Hid (x2.length = nR) := hx2
              have HGB : Hid (B ≤ g) := (hw2.lt g rfl).1
              have c9 := HC9.out wr HKi.out
              clear hw2 hx2
              go_wp2_with ((with_reducible refine wp_storeK (.tmp 60) (.const (.int .i64 9)) ?_ B g nR cR x2 HWn.out i ?_ ?_ ?_ ?_); (exact ⟨rfl, rfl⟩); (exact (by rw [HXn.out]; exact hit)); (exact rfl); (exact rfl); (intro wk hks); (have HKk : Hid (KS w5 wk B fb (.slice (some ⟨b, o, none⟩) l cl) zs [.int .i64 ck.1, .int .i64 ck.2]) := HKi.out.kset hks HGB.out); (clear hks))
              go_roundw
              case rel => exact ⟨i + 1, by omega, by go_num, HKk.out⟩
              case measure => simp [intOf] <;> omega
            case neg =>
              obtain rfl : i = nR := by omega
              go_wp2
              go_roundw
              case rel => exact ⟨k + 1, by omega, by go_num, HKi.out⟩
              case measure => simp [intOf] <;> omega
    case neg =>
      obtain rfl : k = l := by omega
      have HWe : Hid (Below w.heap.size w wr) := below_next Hb3.out (H35.out.trans (by rw [HBe.out]; exact HKr.out.bel))
      have HW3 : Hid (Below w3.heap.size w3 wr) := H35.out.trans (by rw [HBe.out]; exact HKr.out.bel)
      have HFb : Hid (Blk wr fb [.int .i64 ck.1, .int .i64 ck.2] 27) := HKr.out.fbx
      go_wp2_with fail
      clear hlt hk hbl0
      generalize wr = wd at *
      go_loopw [70] (fun i wr => ∃ k : Nat, k ≤ q ∧ i = .int .i64 (k : Int) ∧ Below wd.heap.size wd wr) (fun i wr => q - (intOf i).toNat)
      case atStart => exact ⟨0, Nat.zero_le _, rfl, Below.refl _ _⟩
      case round =>
        obtain ⟨k, hk, rfl, hbr⟩ := hrel
        have HBr : Hid (Below wd.heap.size wd wr) := hbr
        have HBw : Hid (Below w.heap.size w wr) := below_next HWe.out hbr
        have HB3 : Hid (Below w3.heap.size w3 wr) := below_next HW3.out hbr
        clear hbr
        have HW0 : Below wr.heap.size wr { wr with drawn := wr.drawn + 1 } := ⟨rfl, rfl, rfl, Nat.le_refl _, fun _ _ => rfl⟩
        by_cases hlt : k < q
        · have hlt' : (k : Int) < (q : Int) := by omega
          have hk0 : (0 : Int) ≤ (k : Int) := by omega
          obtain ⟨bi, oi, rfl, hb1⟩ := HIs.out.block (by rw [HIq.out]; omega)
          obtain ⟨bh, oh, rfl, hb2⟩ := HY.out.block (by rw [HQ.out]; omega)
          have ry := (HIs.out.later HB3.out).at (i := k) (by rw [HIq.out]; exact hlt)
          have rz := (HY.out.later HBw.out).at (i := k) (by rw [HQ.out]; exact hlt)
          have qy := HIl.out.later HB3.out k (by rw [HIq.out]; exact hlt)
          have qz := HI.out.later HBw.out k (by rw [HQ.out]; exact hlt)
          have ey := H1Y.out k hlt
          have qm := HZ.out k hlt
          rcases hye : ye is k with ⟨X, va, vr⟩
          rcases hze : ye ys k with ⟨X', ua, ur⟩
          rw [hye, hze] at ey
          obtain rfl : X = X' := ey
          rw [hye] at ry qy
          rw [hze] at rz qz qm
          have RY : Hid (wr.rangeAt bi (oi + k * 14) (evC X va vr)) := ry
          have RZ : Hid (wr.rangeAt bh (oh + k * 14) (evC X ua ur)) := rz
          have HS : Hid (∀ w', Below wr.heap.size wr w' → Calls Tryd.prog 17 #[.agg (evC X va vr).toArray, .agg (evC X ua ur).toArray] w' fun e w'' => e = .returned (.bool true) ∧ Below w'.heap.size w' w'') := fun w' hb => same_ev X va vr ua ur w' (qy.1.later hb) (qy.2.later hb) (qz.1.later hb) (qz.2.later hb) qm.2.2.2.2.1 qm.2.2.2.2.2
          have HBk : Hid (bi < wr.heap.size ∧ bh < wr.heap.size) := ⟨Nat.lt_of_lt_of_le hb1 HB3.out.size, Nat.lt_of_lt_of_le hb2 HBw.out.size⟩
          clear ry rz qy qz qm hye hze hb1 hb2 HW0
          go_wp2_with fail
          rename_i K hKK
          have HW0 : Below wr.heap.size wr { wr with drawn := wr.drawn + 1 } := ⟨rfl, rfl, rfl, Nat.le_refl _, fun _ _ => rfl⟩
          refine wp_region_held (S := fun wx => Below wr.heap.size wr wx) mixed ?_
          generalize ({ wr with drawn := wr.drawn + 1 } : World) = n0 at HW0 ⊢
          have HW := HW0
          clear HW0
          refine takeH 0 73 (.slice (some ⟨bi, oi, none⟩) q ci) rfl rfl (by kernel_rfl) (by kernel_rfl) (by kernel_rfl) (fun c a w h => h) (.inl ⟨rfl, fun w _ => rfl⟩) HW ?_
          simp only [List.setIfInBounds_toArray, List.set_cons_zero, List.set_cons_succ]
          refine takeH 1 74 (.int .i64 (k : Int)) rfl rfl (by kernel_rfl) (by kernel_rfl) (by kernel_rfl) (fun c a w h => h) (.inl ⟨rfl, fun w _ => rfl⟩) HW ?_
          simp only [List.setIfInBounds_toArray, List.set_cons_zero, List.set_cons_succ]
          refine takeH 2 75 (.pointer (some ⟨bi, oi + k * 14, none⟩)) rfl rfl (by kernel_rfl) (by kernel_rfl) (by kernel_rfl) (fun c a w h => h) (.inl ⟨rfl, fun w _ => by go_simp⟩) HW ?_
          simp only [List.setIfInBounds_toArray, List.set_cons_zero, List.set_cons_succ]
          refine takeH 3 76 (.agg (evC X va vr).toArray) rfl rfl (by kernel_rfl) (by kernel_rfl) (by kernel_rfl) (fun c a w h => h) (yieldsIf_load_mid rfl 47 (.tmp 75) rfl bi (oi + k * 14) rfl (evC X va vr) _ (fun wx hx => fun j u hj => (hx.cell (p := ⟨bi, oi + k * 14 + j, none⟩) HBk.out.1).trans (RY.out j u hj)) Tryd.underlying47 rfl sizeE) HW ?_
          simp only [List.setIfInBounds_toArray, List.set_cons_zero, List.set_cons_succ]
          refine takeH 4 77 (.slice (some ⟨bh, oh, none⟩) q hc) rfl rfl (by kernel_rfl) (by kernel_rfl) (by kernel_rfl) (fun c a w h => h) (.inl ⟨rfl, fun w _ => rfl⟩) HW ?_
          simp only [List.setIfInBounds_toArray, List.set_cons_zero, List.set_cons_succ]
          refine takeH 5 78 (.int .i64 (k : Int)) rfl rfl (by kernel_rfl) (by kernel_rfl) (by kernel_rfl) (fun c a w h => h) (.inl ⟨rfl, fun w _ => rfl⟩) HW ?_
          simp only [List.setIfInBounds_toArray, List.set_cons_zero, List.set_cons_succ]
          refine takeH 6 79 (.pointer (some ⟨bh, oh + k * 14, none⟩)) rfl rfl (by kernel_rfl) (by kernel_rfl) (by kernel_rfl) (fun c a w h => h) (.inl ⟨rfl, fun w _ => by go_simp⟩) HW ?_
          simp only [List.setIfInBounds_toArray, List.set_cons_zero, List.set_cons_succ]
          refine takeH 7 80 (.agg (evC X ua ur).toArray) rfl rfl (by kernel_rfl) (by kernel_rfl) (by kernel_rfl) (fun c a w h => h) (yieldsIf_load_mid rfl 47 (.tmp 79) rfl bh (oh + k * 14) rfl (evC X ua ur) _ (fun wx hx => fun j u hj => (hx.cell (p := ⟨bh, oh + k * 14 + j, none⟩) HBk.out.2).trans (RZ.out j u hj)) Tryd.underlying47 rfl sizeE) HW ?_
          simp only [List.setIfInBounds_toArray, List.set_cons_zero, List.set_cons_succ]
          refine wpAnyH_all (rs := [8]) (by kernel_rfl) (by simp) (fun i hi => ?_)
          obtain rfl : i = 8 := by simpa using hi
          refine wpOp_doG 8 (by rfl) (by rfl) ?_
          go_wp2_with fail
          refine (HS.out n0 HW).mono ?_
          rintro e q1 ⟨rfl, hb⟩
          refine ⟨below_next HW hb, ?_⟩
          replace HW := below_next HW hb
          clear hb
          refine takeH 9 82 (.bool false) rfl rfl (by kernel_rfl) (by kernel_rfl) (by kernel_rfl) (fun c a w h => h) (.inl ⟨rfl, fun w _ => rfl⟩) HW ?_
          simp only [List.setIfInBounds_toArray, List.set_cons_zero, List.set_cons_succ]
          refine wpAnyH_done (by kernel_rfl) ?_ _
          show K _ _
          refine hKK _ _ ?_
          have HN : Hid (Below wr.heap.size wr _) := HW
          clear HW
          go_wp2
          go_roundw
          case rel => exact ⟨k + 1, by omega, by go_num, below_next HBr.out HN.out⟩
          case measure => simp [intOf] <;> omega
        · obtain rfl : k = q := by omega
          clear HW0
          have HCh : Hid (∀ w', Below wr.heap.size wr w' → Calls Tryd.prog 10 #[.slice ai k ci] w' fun e w'' => e = .returned (.agg #[.int .i64 ck.1, .int .i64 ck.2]) ∧ Below w'.heap.size w' w'') := fun w' h => HCk.out w' (below_next HB3.out h)
          have HFr : Hid (Blk wr fb [.int .i64 ck.1, .int .i64 ck.2] 27) := HFb.out.later HBr.out
          have hq2 := eqF
          have hg2 := eqgF
          have hs2 := eqfB_self
          go_wp2_with fail
          rename_i K hKK
          have HW0 : Below wr.heap.size wr { wr with drawn := wr.drawn + 1 } := ⟨rfl, rfl, rfl, Nat.le_refl _, fun _ _ => rfl⟩
          refine wp_region_held (S := fun wx => Below wr.heap.size wr wx) mixed ?_
          generalize ({ wr with drawn := wr.drawn + 1 } : World) = n0 at HW0 ⊢
          have HW := HW0
          clear HW0
          refine takeH 0 84 (.slice ai k ci) rfl rfl (by kernel_rfl) (by kernel_rfl) (by kernel_rfl) (fun c a w h => h) (.inl ⟨rfl, fun w _ => rfl⟩) HW ?_
          simp only [List.setIfInBounds_toArray, List.set_cons_zero, List.set_cons_succ]
          refine takeH 2 86 (.agg #[.int .i64 ck.1, .int .i64 ck.2]) rfl rfl (by kernel_rfl) (by kernel_rfl) (by kernel_rfl) (fun c a w h => h) (yieldsIf_load_mid rfl 27 (.tmp 5) rfl fb 0 rfl [.int .i64 ck.1, .int .i64 ck.2] _ (fun wx hx => Blk.all (HFr.out.later hx)) Tryd.underlying27 rfl sizeF) HW ?_
          simp only [List.setIfInBounds_toArray, List.set_cons_zero, List.set_cons_succ]
          refine wpAnyH_all (rs := [1]) (by kernel_rfl) (by simp) (fun i hi => ?_)
          obtain rfl : i = 1 := by simpa using hi
          refine wpOp_doG 1 (by rfl) (by rfl) ?_
          go_wp2_with fail
          refine (HCh.out n0 HW).mono ?_
          rintro e q1 ⟨rfl, hb⟩
          refine ⟨below_next HW hb, ?_⟩
          replace HW := below_next HW hb
          clear hb
          refine takeH 3 87 (.bool true) rfl rfl (by kernel_rfl) (by kernel_rfl) (by kernel_rfl) (fun c a w h => h) (.inl ⟨rfl, fun w _ => by go_simp⟩) HW ?_
          simp only [List.setIfInBounds_toArray, List.set_cons_zero, List.set_cons_succ]
          refine takeH 4 2 (.bool true) rfl rfl (by kernel_rfl) (by kernel_rfl) (by kernel_rfl) (fun c a w h => h) (.inl ⟨rfl, fun w _ => rfl⟩) HW ?_
          simp only [List.setIfInBounds_toArray, List.set_cons_zero, List.set_cons_succ]
          refine wpAnyH_done (by kernel_rfl) ?_ _
          show K _ _
          refine hKK _ _ ?_
          have HN : Hid (Below wr.heap.size wr _) := HW
          clear HW
          go_wp2
          go_ret
          exact ⟨rfl, below_next (below_next HWe.out HBr.out) HN.out⟩
end Go.Proofs.YtgdegbmakbfaaaaDoor
