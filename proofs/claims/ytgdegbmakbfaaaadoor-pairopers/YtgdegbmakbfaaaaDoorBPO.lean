/- The contract of the document's Opers. Conditions: the events and their lists lie in memory; sizes as the contracts take. The contracts of the document's One and Same at operations that are one. Conditions: their lists lie in memory, at most a million values each. -/
import Derived.Test.YtgdegbmakbfaaaaDoorPL
import Derived.Test.YtgdegbmakbfaaaaDoorPR
import Derived.Test.YtgdegbmakbfaaaaDoorEK
namespace Go.Proofs.YtgdegbmakbfaaaaDoor
open Go.RowKit Go.PlainAid Ln
set_option linter.unusedVariables false
set_option linter.unusedSimpArgs false

theorem sizeO : (Tryd.prog.info? 41).map (·.size) = some 12 := by kernel_rfl
theorem infoI3 : (Tryd.prog.info? 3).map (·.size) = some 1 := by kernel_rfl
theorem infoSV3 : (Tryd.prog.info? 39).map (·.size) = some 1 := by kernel_rfl
theorem InO.snoc {w : World} {ys : List YO} {y : YO} (h : InO w ys) (h1 : VSl w y.2.1 y.1.a) (h2 : VSl w y.2.2 y.1.r) : InO w (ys ++ [y]) := h.app fun i hi => by
  have e : i = 0 := by simp at hi; exact hi
  subst e
  rw [yo_zero]; exact ⟨h1, h2⟩
/-- how the document's Opers ends -/
def RROps (w : World) (xs : List Ev) (e : Ending) (w' : World) : Prop := ∃ v yo, e = .returned v ∧ yo.map (·.1) = opsE xs ∧ OwnO w' w.heap.size v yo ∧ InO w yo ∧ Below w.heap.size w w'
set_option maxRecDepth 100000 in
set_option maxHeartbeats 16000000 in
theorem ropers_any (v : Value) (ys : List YE) (w : World) (hv : YSl w v ys) (hi : InL w ys) (hl : ys.length ≤ 900000) :
    Calls Tryd.prog 14 #[v] w fun e w' => RROps w (ys.map (·.1)) e w' := by
  obtain ⟨a, c, rfl, hc1, hc2, _⟩ := hv.form
  have HV : Hid (YSl w (.slice a ys.length c) ys) := hv
  have HI : Hid (InL w ys) := hi
  have HL : Hid ((ys.map (·.1)).length = ys.length) := List.length_map ..
  have HNx : Hid (∀ w' k, Below w.heap.size w w' → k < ys.length → Calls Tryd.prog 23 #[.slice a ys.length c, .int .i64 (k : Int)] w' fun e w'' => e = .returned (.int .i64 (nxt (ys.map (·.1)) k)) ∧ Below w'.heap.size w' w'') := fun w' k h hk => rnext_any _ ys k w' (hv.later h) hk (by omega)
  have HE : Hid (∀ k, ev (ys.map (·.1)) k = (ye ys k).1) := fun k => ev_ye ys k
  clear hv hi
  generalize ys.map (·.1) = xs at *
  obtain ⟨q, hq⟩ : ∃ q, ys.length = q := ⟨_, rfl⟩
  have HQ : Hid (ys.length = q) := hq
  rw [hq] at HV HL HNx hl hc1 ⊢
  clear hq
  go_enter Tryd.func14, Tryd.ntmps14
  go_wp2
  go_loopw [3, 4] (fun l i wr => ∃ (k : Nat) (yo : List YO), k ≤ q ∧ i = .int .i64 (k : Int) ∧ yo.map (·.1) = opsTo xs k ∧ OwnO wr w.heap.size l yo ∧ InO w yo ∧ Below w.heap.size w wr) (fun l i wr => q - (intOf i).toNat)
  case atStart => exact ⟨0, [], Nat.zero_le _, rfl, rfl, OwnO.nil _ _, fun i hi => absurd hi (Nat.not_lt_zero i), Below.refl _ _⟩
  case round =>
    obtain ⟨k, yo, hk, rfl, hmap, hown, hin, hb⟩ := hrel
    have HM : Hid (yo.map (·.1) = opsTo xs k) := hmap
    have HLy : Hid (yo.length ≤ 900000) := by
      show _ ≤ _
      have h1 : yo.length = (opsTo xs k).length := by rw [← hmap, List.length_map]
      have h2 := opsTo_len xs k
      omega
    have HOw : Hid (OwnO wr w.heap.size u3 yo) := hown
    have HIn : Hid (InO w yo) := hin
    have HB : Hid (Below w.heap.size w wr) := hb
    obtain ⟨al, cl, rfl⟩ := hown.form
    obtain ⟨l, hlen⟩ : ∃ l, yo.length = l := ⟨_, rfl⟩
    have HYl : Hid (yo.length = l) := hlen
    rw [hlen] at HOw ⊢
    clear hmap hown hin hb hlen
    by_cases hlt : k < q
    case neg =>
      obtain rfl : k = q := by omega
      go_wp2
      go_ret
      exact ⟨_, yo, rfl, by rw [HM.out]; unfold opsE; rw [HL.out], HOw.out, HIn.out, HB.out⟩
    have hlt' : (k : Int) < (q : Int) := by omega
    have hk0 : (0 : Int) ≤ (k : Int) := by omega
    obtain ⟨b, o, rfl, hbl⟩ := HV.out.block (by rw [HQ.out]; omega)
    have hrk := HV.out.at (i := k) (by rw [HQ.out]; exact hlt)
    have hik := HI.out k (by rw [HQ.out]; exact hlt)
    have hek := HE.out k
    have HRj : Hid (∀ j, j < q → wr.rangeAt b (o + j * 14) (encE (ye ys j))) := fun j hj i u hu => (HB.out.cell (p := ⟨b, o + j * 14 + i, none⟩) hbl).trans (HV.out.at (i := j) (by rw [HQ.out]; exact hj) i u hu)
    have HBb : Hid (b < wr.heap.size) := Nat.lt_of_lt_of_le hbl HB.out.size
    rcases hyk : ye ys k with ⟨X, va, vr⟩
    rw [hyk] at hrk hik hek
    obtain ⟨av, cv, rfl⟩ : ∃ a c, va = .slice a X.a.length c := by obtain ⟨a, c, h, _⟩ := hik.1; exact ⟨a, c, h⟩
    obtain ⟨ar, cr, rfl⟩ : ∃ a c, vr = .slice a X.r.length c := by obtain ⟨a, c, h, _⟩ := hik.2; exact ⟨a, c, h⟩
    have HXk : Hid (ev xs k = X) := hek
    have HVa : Hid (VSl w (.slice av X.a.length cv) X.a) := hik.1
    have HRk : Hid (wr.rangeAt b (o + k * 14) (evC X (.slice av X.a.length cv) (.slice ar X.r.length cr))) := fun j u hj => (HB.out.cell (p := ⟨b, o + k * 14 + j, none⟩) hbl).trans (hrk j u hj)
    have Hb5 : Hid (Below wr.heap.size wr (wr.alloc (.cells #[.int .i64 X.t, .int .i64 X.c.1, .int .i64 X.c.2.1, .string X.c.2.2, .int .i64 X.y, .int .i64 X.m, .int .i64 X.k.1, .int .i64 X.k.2.1, .string X.k.2.2, .int .i64 X.o, .slice av X.a.length cv, .slice ar X.r.length cr, .bool X.nd, .string X.n] 47))) := below_more (Below.refl _ _) _
    clear hbl hrk hik hek hyk
    by_cases y1 : X.y = 1
    case neg =>
      have e1 : (X.y != 1) = true := by simp [y1]
      have HOpn : Hid (opsTo xs (k + 1) = opsTo xs k) := opsTo_no (by unfold isOp; rw [HXk.out, decide_eq_false y1]; rfl)
      clear y1
      go_wp2_with ((with_reducible refine wpList_load_mid ?_ 47 (.tmp 16) ?_ b (o + k * 14) ?_ (evC X (.slice av X.a.length cv) (.slice ar X.r.length cr)) _ HRk.out Tryd.underlying47 ?_ ?_ ?_); (exact rfl); (exact rfl); (exact rfl); (exact rfl); (exact sizeE); (simp only [evC]))
      go_roundw
      case rel => exact ⟨k + 1, yo, by omega, by go_num, by rw [HOpn.out]; exact HM.out, HOw.out.later Hb5.out, HIn.out, below_next HB.out Hb5.out⟩
      case measure => simp [intOf] <;> omega
    have e1 : (X.y != 1) = false := by simp [y1]
    have HIs : Hid (isOp xs k = !decide (nty xs k = 3)) := by show _ = _; unfold isOp; rw [HXk.out, decide_eq_true y1]; rfl
    clear y1
    obtain ⟨z, hz⟩ : ∃ z, wr.heap.size = z := ⟨_, rfl⟩
    have HZ : Hid (wr.heap.size = z) := hz
    have Hb6 : Hid (Below wr.heap.size wr ((wr.alloc (.cells #[.int .i64 X.t, .int .i64 X.c.1, .int .i64 X.c.2.1, .string X.c.2.2, .int .i64 X.y, .int .i64 X.m, .int .i64 X.k.1, .int .i64 X.k.2.1, .string X.k.2.2, .int .i64 X.o, .slice av X.a.length cv, .slice ar X.r.length cr, .bool X.nd, .string X.n] 47)).alloc (.cells #[.int .i64 X.c.1, .int .i64 X.c.2.1, .string X.c.2.2, .int .i64 X.m, .int .i64 X.k.1, .int .i64 X.k.2.1, .string X.k.2.2, .int .i64 X.o, .slice av X.a.length cv, .slice none 0 0, .int .i64 (k : Int), .int .i64 (-1)] 41))) := below_more Hb5.out _
    have B6 : Blk ((wr.alloc (.cells #[.int .i64 X.t, .int .i64 X.c.1, .int .i64 X.c.2.1, .string X.c.2.2, .int .i64 X.y, .int .i64 X.m, .int .i64 X.k.1, .int .i64 X.k.2.1, .string X.k.2.2, .int .i64 X.o, .slice av X.a.length cv, .slice ar X.r.length cr, .bool X.nd, .string X.n] 47)).alloc (.cells #[.int .i64 X.c.1, .int .i64 X.c.2.1, .string X.c.2.2, .int .i64 X.m, .int .i64 X.k.1, .int .i64 X.k.2.1, .string X.k.2.2, .int .i64 X.o, .slice av X.a.length cv, .slice none 0 0, .int .i64 (k : Int), .int .i64 (-1)] 41)) (z + 1) (opC ⟨X.c, X.m, X.k, X.o, X.a, [], (k : Int), -1⟩ (.slice av X.a.length cv) nilS) 41 := by
      have h := Blk.new (wr.alloc (.cells #[.int .i64 X.t, .int .i64 X.c.1, .int .i64 X.c.2.1, .string X.c.2.2, .int .i64 X.y, .int .i64 X.m, .int .i64 X.k.1, .int .i64 X.k.2.1, .string X.k.2.2, .int .i64 X.o, .slice av X.a.length cv, .slice ar X.r.length cr, .bool X.nd, .string X.n] 47)) (opC ⟨X.c, X.m, X.k, X.o, X.a, [], (k : Int), -1⟩ (.slice av X.a.length cv) nilS) 41
      have hs : (wr.alloc (.cells #[.int .i64 X.t, .int .i64 X.c.1, .int .i64 X.c.2.1, .string X.c.2.2, .int .i64 X.y, .int .i64 X.m, .int .i64 X.k.1, .int .i64 X.k.2.1, .string X.k.2.2, .int .i64 X.o, .slice av X.a.length cv, .slice ar X.r.length cr, .bool X.nd, .string X.n] 47)).heap.size = z + 1 := by rw [← hz]; unfold World.alloc; exact Array.size_push ..
      rw [hs] at h; exact h
    have HB6o : Hid (Blk ((wr.alloc (.cells #[.int .i64 X.t, .int .i64 X.c.1, .int .i64 X.c.2.1, .string X.c.2.2, .int .i64 X.y, .int .i64 X.m, .int .i64 X.k.1, .int .i64 X.k.2.1, .string X.k.2.2, .int .i64 X.o, .slice av X.a.length cv, .slice ar X.r.length cr, .bool X.nd, .string X.n] 47)).alloc (.cells #[.int .i64 X.c.1, .int .i64 X.c.2.1, .string X.c.2.2, .int .i64 X.m, .int .i64 X.k.1, .int .i64 X.k.2.1, .string X.k.2.2, .int .i64 X.o, .slice av X.a.length cv, .slice none 0 0, .int .i64 (k : Int), .int .i64 (-1)] 41)) (z + 1) (opC ⟨X.c, X.m, X.k, X.o, X.a, [], (k : Int), -1⟩ (.slice av X.a.length cv) nilS) 41) := B6
    have HPo : Hid (w.heap.size ≤ z + 1) := by have := HB.out.size; show _ ≤ _; omega
    have HNr : Hid ((Value.slice al l cl).ownBlock ≠ some (z + 1)) := fun h => by have := (HOw.out.lt _ h).2; omega
    clear B6
    go_wp2_with ((with_reducible refine wpList_load_mid ?_ 47 (.tmp 16) ?_ b (o + k * 14) ?_ (evC X (.slice av X.a.length cv) (.slice ar X.r.length cr)) _ HRk.out Tryd.underlying47 ?_ ?_ ?_); (exact rfl); (exact rfl); (exact rfl); (exact rfl); (exact sizeE); (simp only [evC]))
    refine (HNx.out _ k (below_next HB.out Hb6.out) hlt).mono ?_
    rintro e w7 ⟨rfl, b7⟩
    have HB7o : Hid (Blk w7 (z + 1) (opC ⟨X.c, X.m, X.k, X.o, X.a, [], (k : Int), -1⟩ (.slice av X.a.length cv) nilS) 41) := HB6o.out.later b7
    have Hr7 : Hid (Below wr.heap.size wr w7) := below_next Hb6.out b7
    have HB7 : Hid (Below w.heap.size w w7) := below_next HB.out Hr7.out
    have HO7 : Hid (OwnO w7 w.heap.size (.slice al l cl) yo) := HOw.out.later Hr7.out
    clear b7 hz
    have hlo := nxt_lo xs k (by rw [HL.out]; exact hlt)
    obtain ⟨E, hE⟩ : ∃ E, nxt xs k = E := ⟨_, rfl⟩
    rw [hE] at hlo ⊢
    have HEE : Hid (nxt xs k = E) := hE
    clear hE
    rcases hlo with ⟨rfl, _⟩ | ⟨j, rfl, hj1, hj2, _⟩
    · have hty : nty xs k = 0 := by unfold nty; rw [HEE.out]; rfl
      have HOpn : Hid (opsTo xs (k + 1) = opsTo xs k ++ [opOf xs k]) := opsTo_yes (by rw [HIs.out, hty]; rfl)
      have HOp : Hid (opOf xs k = ⟨X.c, X.m, X.k, X.o, X.a, [], (k : Int), -1⟩) := by show _ = _; rw [opOf_n (by rw [hty]; decide), HXk.out]
      clear hty
      go_wp2_with (first
        | ((with_reducible refine wpList_load_mid ?_ 41 (.tmp 6) ?_ (z + 1) 0 ?_ (opC ⟨X.c, X.m, X.k, X.o, X.a, [], (k : Int), -1⟩ (.slice av X.a.length cv) nilS) _ (Blk.all HB7o.out) Tryd.underlying41 ?_ ?_ ?_); (exact rfl); (exact rfl); (exact rfl); (exact rfl); (exact sizeO))
        | ((with_reducible refine wpList_buildO ?_ (.tmp 65) ?_ (⟨X.c, X.m, X.k, X.o, X.a, [], (k : Int), -1⟩, (.slice av X.a.length cv), nilS) ?_ w7.heap.size ?_ ?_); (exact rfl); (exact rfl); (exact rfl); (exact rfl))
        | (at_builtin; refine wpList_appendO1 rfl (.tmp 64) (.tmp 66) rfl w.heap.size (.slice al l cl) yo rfl (OwnO.later HO7.out (below_more (Below.refl _ _) _)) w7.heap.size (⟨X.c, X.m, X.k, X.o, X.a, [], (k : Int), -1⟩, (.slice av X.a.length cv), nilS) rfl (Blk.all (Blk.new w7 (encO (⟨X.c, X.m, X.k, X.o, X.a, [], (k : Int), -1⟩, (.slice av X.a.length cv), nilS)) 41)) ⟨rfl, rfl⟩ (by have := HLy.out; omega) (Nat.le_trans HB7.out.size (below_more (Below.refl w7.heap.size w7) _).size) ?_; intro g9 cap9 w9 o9 gr9; have HO9 : Hid (OwnO w9 w.heap.size (.slice (some ⟨g9, 0, none⟩) (yo.length + 1) cap9) (yo ++ [(⟨X.c, X.m, X.k, X.o, X.a, [], (k : Int), -1⟩, (.slice av X.a.length cv), nilS)])) := o9; have HB9 : Hid (Below w.heap.size w w9) := Below.grown (below_more HB7.out _) gr9 (Nat.le_trans HB7.out.size (below_more (Below.refl w7.heap.size w7) _).size) (fun q h => ((HO7.out).lt q h).1); clear o9 gr9))
      go_roundw
      case rel => exact ⟨k + 1, yo ++ [(⟨X.c, X.m, X.k, X.o, X.a, [], (k : Int), -1⟩, (.slice av X.a.length cv), nilS)], by omega, by go_num, by rw [List.map_append, HM.out, HOpn.out, HOp.out]; rfl, HO9.out, HIn.out.snoc HVa.out (OwnV.nil w 0).vsl, HB9.out⟩
      case measure => simp [intOf] <;> omega
    · have hjq : j < q := by rw [HL.out] at hj2; exact hj2
      have hjq' : (j : Int) < (q : Int) := by omega
      have hj0 : (0 : Int) ≤ (j : Int) := by omega
      have hrj := HRj.out j hjq
      have hij := HI.out j (by rw [HQ.out]; exact hjq)
      have hej := HE.out j
      rcases hyj : ye ys j with ⟨Y, ya, yr⟩
      rw [hyj] at hrj hij hej
      obtain ⟨az, cz, rfl⟩ : ∃ a c, yr = .slice a Y.r.length c := by obtain ⟨a, c, h, _⟩ := hij.2; exact ⟨a, c, h⟩
      have hty : nty xs k = Y.y := by unfold nty; rw [HEE.out, if_pos (by omega), Int.toNat_natCast, hej]
      have HTy : Hid (nty xs k = Y.y) := hty
      have HEj : Hid (ev xs j = Y) := hej
      have HVy : Hid (VSl w (.slice az Y.r.length cz) Y.r) := hij.2
      have HRy : Hid (wr.rangeAt b (o + j * 14) (evC Y ya (.slice az Y.r.length cz))) := hrj
      have c4 := (Hr7.out.cell (p := ⟨b, o + j * 14 + 4, none⟩) HBb.out).trans (hrj 4 _ rfl)
      clear hrj hij hej hyj hty hj1 hj2 hjq
      by_cases y3 : Y.y = 3
      · have e3 : (Y.y == 3) = true := by simp [y3]
        have HOpn : Hid (opsTo xs (k + 1) = opsTo xs k) := opsTo_no (by rw [HIs.out, HTy.out, y3]; rfl)
        clear y3
        go_wp2
        go_roundw
        case rel => exact ⟨k + 1, yo, by omega, by go_num, by rw [HOpn.out]; exact HM.out, HO7.out, HIn.out, HB7.out⟩
        case measure => simp [intOf] <;> omega
      have e3 : (Y.y == 3) = false := by simp [y3]
      have HOpn : Hid (opsTo xs (k + 1) = opsTo xs k ++ [opOf xs k]) := opsTo_yes (by rw [HIs.out, HTy.out, decide_eq_false y3]; rfl)
      clear y3
      by_cases y2 : Y.y = 2
      · have e2 : (Y.y == 2) = true := by simp [y2]
        have HOp : Hid (opOf xs k = ⟨X.c, X.m, X.k, X.o, X.a, Y.r, (k : Int), (j : Int)⟩) := by show _ = _; rw [opOf_2 (by rw [HTy.out]; exact y2), HXk.out, HEE.out, Int.toNat_natCast, HEj.out]
        clear y2
        go_wp2_with (first
          | ((with_reducible refine wp_storeC 3 (.tmp 57) (.tmp 56) (z + 1) 11 (.int .i64 (j : Int)) (opC ⟨X.c, X.m, X.k, X.o, X.a, [], (k : Int), -1⟩ (.slice av X.a.length cv) nilS) 41 infoI3 ?_ ?_ ?_ ?_ ?_ ?_ HB7o.out ?_); (exact (show 11 < 12 by decide)); (exact rfl); (exact rfl); (exact ⟨rfl, rfl⟩); (exact rfl); (exact rfl); (intro w8 D o6); (have HB8o : Hid (Blk w8 (z + 1) (opC ⟨X.c, X.m, X.k, X.o, X.a, [], (k : Int), (j : Int)⟩ (.slice av X.a.length cv) nilS) 41) := D); (have HB8 : Hid (Below w.heap.size w w8) := below_oth HB7.out o6 HPo.out HPo.out HB7.out.size); (have HO8 : Hid (OwnO w8 w.heap.size (.slice al l cl) yo) := World.ownsRow.kept HO7.out o6.grown (.inr HNr.out)); (have c11 : w8.cell? ⟨b, o + j * 14 + 11, none⟩ = some (.slice az Y.r.length cz) := (o6.grown.cell ((Hr7.out.cell (p := ⟨b, o + j * 14 + 11, none⟩) HBb.out).trans (HRy.out 11 _ rfl)) (fun e => by injection e with e; change b = z + 1 at e; have := HBb.out; have := HZ.out; omega))); (clear D o6))
          | ((with_reducible refine wp_storeC 39 (.tmp 63) (.tmp 62) (z + 1) 9 (.slice az Y.r.length cz) (opC ⟨X.c, X.m, X.k, X.o, X.a, [], (k : Int), (j : Int)⟩ (.slice av X.a.length cv) nilS) 41 infoSV3 ?_ ?_ ?_ ?_ ?_ ?_ HB8o.out ?_); (exact (show 9 < 12 by decide)); (exact rfl); (exact rfl); (exact ⟨rfl, rfl⟩); (exact rfl); (exact rfl); (intro w10 D o6); (have HB10o : Hid (Blk w10 (z + 1) (opC ⟨X.c, X.m, X.k, X.o, X.a, Y.r, (k : Int), (j : Int)⟩ (.slice av X.a.length cv) (.slice az Y.r.length cz)) 41) := D); (have HB10 : Hid (Below w.heap.size w w10) := below_oth HB8.out o6 HPo.out HPo.out HB8.out.size); (have HO10 : Hid (OwnO w10 w.heap.size (.slice al l cl) yo) := World.ownsRow.kept HO8.out o6.grown (.inr HNr.out)); (clear D o6))
          | ((with_reducible refine wpList_load_mid ?_ 41 (.tmp 6) ?_ (z + 1) 0 ?_ (opC ⟨X.c, X.m, X.k, X.o, X.a, Y.r, (k : Int), (j : Int)⟩ (.slice av X.a.length cv) (.slice az Y.r.length cz)) _ (Blk.all HB10o.out) Tryd.underlying41 ?_ ?_ ?_); (exact rfl); (exact rfl); (exact rfl); (exact rfl); (exact sizeO))
          | ((with_reducible refine wpList_buildO ?_ (.tmp 65) ?_ (⟨X.c, X.m, X.k, X.o, X.a, Y.r, (k : Int), (j : Int)⟩, (.slice av X.a.length cv), (.slice az Y.r.length cz)) ?_ w10.heap.size ?_ ?_); (exact rfl); (exact rfl); (exact rfl); (exact rfl))
          | (at_builtin; refine wpList_appendO1 rfl (.tmp 64) (.tmp 66) rfl w.heap.size (.slice al l cl) yo rfl (OwnO.later HO10.out (below_more (Below.refl _ _) _)) w10.heap.size (⟨X.c, X.m, X.k, X.o, X.a, Y.r, (k : Int), (j : Int)⟩, (.slice av X.a.length cv), (.slice az Y.r.length cz)) rfl (Blk.all (Blk.new w10 (encO (⟨X.c, X.m, X.k, X.o, X.a, Y.r, (k : Int), (j : Int)⟩, (.slice av X.a.length cv), (.slice az Y.r.length cz))) 41)) ⟨rfl, rfl⟩ (by have := HLy.out; omega) (Nat.le_trans HB10.out.size (below_more (Below.refl w10.heap.size w10) _).size) ?_; intro g9 cap9 w9 o9 gr9; have HO9 : Hid (OwnO w9 w.heap.size (.slice (some ⟨g9, 0, none⟩) (yo.length + 1) cap9) (yo ++ [(⟨X.c, X.m, X.k, X.o, X.a, Y.r, (k : Int), (j : Int)⟩, (.slice av X.a.length cv), (.slice az Y.r.length cz))])) := o9; have HB9 : Hid (Below w.heap.size w w9) := Below.grown (below_more HB10.out _) gr9 (Nat.le_trans HB10.out.size (below_more (Below.refl w10.heap.size w10) _).size) (fun q h => ((HO10.out).lt q h).1); clear o9 gr9))
        go_roundw
        case rel => exact ⟨k + 1, yo ++ [(⟨X.c, X.m, X.k, X.o, X.a, Y.r, (k : Int), (j : Int)⟩, (.slice av X.a.length cv), (.slice az Y.r.length cz))], by omega, by go_num, by rw [List.map_append, HM.out, HOpn.out, HOp.out]; rfl, HO9.out, HIn.out.snoc HVa.out HVy.out, HB9.out⟩
        case measure => simp [intOf] <;> omega
      · have e2 : (Y.y == 2) = false := by simp [y2]
        have HOp : Hid (opOf xs k = ⟨X.c, X.m, X.k, X.o, X.a, [], (k : Int), -1⟩) := by show _ = _; rw [opOf_n (by rw [HTy.out]; exact y2), HXk.out]
        clear y2
        go_wp2_with (first
          | ((with_reducible refine wpList_load_mid ?_ 41 (.tmp 6) ?_ (z + 1) 0 ?_ (opC ⟨X.c, X.m, X.k, X.o, X.a, [], (k : Int), -1⟩ (.slice av X.a.length cv) nilS) _ (Blk.all HB7o.out) Tryd.underlying41 ?_ ?_ ?_); (exact rfl); (exact rfl); (exact rfl); (exact rfl); (exact sizeO))
          | ((with_reducible refine wpList_buildO ?_ (.tmp 65) ?_ (⟨X.c, X.m, X.k, X.o, X.a, [], (k : Int), -1⟩, (.slice av X.a.length cv), nilS) ?_ w7.heap.size ?_ ?_); (exact rfl); (exact rfl); (exact rfl); (exact rfl))
          | (at_builtin; refine wpList_appendO1 rfl (.tmp 64) (.tmp 66) rfl w.heap.size (.slice al l cl) yo rfl (OwnO.later HO7.out (below_more (Below.refl _ _) _)) w7.heap.size (⟨X.c, X.m, X.k, X.o, X.a, [], (k : Int), -1⟩, (.slice av X.a.length cv), nilS) rfl (Blk.all (Blk.new w7 (encO (⟨X.c, X.m, X.k, X.o, X.a, [], (k : Int), -1⟩, (.slice av X.a.length cv), nilS)) 41)) ⟨rfl, rfl⟩ (by have := HLy.out; omega) (Nat.le_trans HB7.out.size (below_more (Below.refl w7.heap.size w7) _).size) ?_; intro g9 cap9 w9 o9 gr9; have HO9 : Hid (OwnO w9 w.heap.size (.slice (some ⟨g9, 0, none⟩) (yo.length + 1) cap9) (yo ++ [(⟨X.c, X.m, X.k, X.o, X.a, [], (k : Int), -1⟩, (.slice av X.a.length cv), nilS)])) := o9; have HB9 : Hid (Below w.heap.size w w9) := Below.grown (below_more HB7.out _) gr9 (Nat.le_trans HB7.out.size (below_more (Below.refl w7.heap.size w7) _).size) (fun q h => ((HO7.out).lt q h).1); clear o9 gr9))
        go_roundw
        case rel => exact ⟨k + 1, yo ++ [(⟨X.c, X.m, X.k, X.o, X.a, [], (k : Int), -1⟩, (.slice av X.a.length cv), nilS)], by omega, by go_num, by rw [List.map_append, HM.out, HOpn.out, HOp.out]; rfl, HO9.out, HIn.out.snoc HVa.out (OwnV.nil w 0).vsl, HB9.out⟩
        case measure => simp [intOf] <;> omega
end Go.Proofs.YtgdegbmakbfaaaaDoor
namespace Go.Proofs.YtgdegbmakbfaaaaDoor
open Go.RowKit Go.PlainAid Ln
set_option linter.unusedVariables false
set_option linter.unusedSimpArgs false

theorem op_cells {wz : World} {q : Nat} {x : Opn} {fa fr : Value} (h : Blk wz q (opC x fa fr) 41) : wz.cell? ⟨q, 0, none⟩ = some (.int .i64 x.c.1) ∧ wz.cell? ⟨q, 1, none⟩ = some (.int .i64 x.c.2.1) ∧ wz.cell? ⟨q, 2, none⟩ = some (.string x.c.2.2) ∧ wz.cell? ⟨q, 3, none⟩ = some (.int .i64 x.m) ∧ wz.cell? ⟨q, 4, none⟩ = some (.int .i64 x.k.1) ∧ wz.cell? ⟨q, 5, none⟩ = some (.int .i64 x.k.2.1) ∧ wz.cell? ⟨q, 6, none⟩ = some (.string x.k.2.2) ∧ wz.cell? ⟨q, 7, none⟩ = some (.int .i64 x.o) ∧ wz.cell? ⟨q, 8, none⟩ = some fa ∧ wz.cell? ⟨q, 9, none⟩ = some fr ∧ wz.cell? ⟨q, 10, none⟩ = some (.int .i64 x.call) ∧ wz.cell? ⟨q, 11, none⟩ = some (.int .i64 x.ret) :=
  ⟨h.cell 0 _ rfl, h.cell 1 _ rfl, h.cell 2 _ rfl, h.cell 3 _ rfl, h.cell 4 _ rfl, h.cell 5 _ rfl, h.cell 6 _ rfl, h.cell 7 _ rfl, h.cell 8 _ rfl, h.cell 9 _ rfl, h.cell 10 _ rfl, h.cell 11 _ rfl⟩
set_option maxRecDepth 100000 in
set_option maxHeartbeats 8000000 in
theorem rone_any (x : Opn) (va vr ua ur : Value) (w : World) (h1 : VSl w va x.a) (h2 : VSl w vr x.r) (h3 : VSl w ua x.a) (h4 : VSl w ur x.r) (ha : x.a.length ≤ 1000000) (hr : x.r.length ≤ 1000000) :
    Calls Tryd.prog 15 #[.agg (opC x va vr).toArray, .agg (opC x ua ur).toArray] w fun e w' => e = .returned (.bool true) ∧ Below w.heap.size w w' := by
  obtain ⟨⟨c1, c2, c3⟩, m, ⟨k1, k2, k3⟩, o, la, lr, ca, re⟩ := x
  simp only at h1 h2 h3 h4 ha hr
  obtain ⟨w1, hw1⟩ : ∃ w1, w.alloc (.cells (opC ⟨(c1, c2, c3), m, (k1, k2, k3), o, la, lr, ca, re⟩ va vr).toArray 41) = w1 := ⟨_, rfl⟩
  obtain ⟨w2, hw2⟩ : ∃ w2, w1.alloc (.cells (opC ⟨(c1, c2, c3), m, (k1, k2, k3), o, la, lr, ca, re⟩ ua ur).toArray 41) = w2 := ⟨_, rfl⟩
  have B1 := Blk.new w (opC ⟨(c1, c2, c3), m, (k1, k2, k3), o, la, lr, ca, re⟩ va vr) 41
  have B2 := Blk.new w1 (opC ⟨(c1, c2, c3), m, (k1, k2, k3), o, la, lr, ca, re⟩ ua ur) 41
  rw [hw1] at B1
  have B3 : Blk w2 w.heap.size (opC ⟨(c1, c2, c3), m, (k1, k2, k3), o, la, lr, ca, re⟩ va vr) 41 := by rw [← hw2]; exact B1.alloc _
  rw [hw2] at B2
  have b1 : Below w.heap.size w w1 := by rw [← hw1]; exact below_more (Below.refl _ _) _
  have b2 : Below w.heap.size w w2 := by rw [← hw2]; exact below_more b1 _
  obtain ⟨p, hp⟩ : ∃ p, w.heap.size = p := ⟨_, rfl⟩
  have HP : Hid (w.heap.size = p) := hp
  have H1 : Hid (VSl w va la) := h1
  have H2 : Hid (VSl w vr lr) := h2
  have H3 : Hid (VSl w ua la) := h3
  have H4 : Hid (VSl w ur lr) := h4
  have HB2 : Hid (Below w.heap.size w w2) := b2
  rw [hp] at B3
  have he1 : ∀ w, (binOp .eql 38 (.agg #[.int .i64 c1, .int .i64 c2, .string c3]) (.agg #[.int .i64 c1, .int .i64 c2, .string c3])).run Tryd.prog w = .ok (.bool true) w := fun w => by rw [eqV, eqvB_self]
  have he2 : ∀ w, (binOp .eql 38 (.agg #[.int .i64 k1, .int .i64 k2, .string k3]) (.agg #[.int .i64 k1, .int .i64 k2, .string k3])).run Tryd.prog w = .ok (.bool true) w := fun w => by rw [eqV, eqvB_self]
  have hg := eqgV
  have ea : w.alloc (.cells #[.int .i64 c1, .int .i64 c2, .string c3, .int .i64 m, .int .i64 k1, .int .i64 k2, .string k3, .int .i64 o, va, vr, .int .i64 ca, .int .i64 re] 41) = w1 := hw1
  have eb : w1.alloc (.cells #[.int .i64 c1, .int .i64 c2, .string c3, .int .i64 m, .int .i64 k1, .int .i64 k2, .string k3, .int .i64 o, ua, ur, .int .i64 ca, .int .i64 re] 41) = w2 := hw2
  obtain ⟨a0, a1, a2, a3, a4, a5, a6, a7, a8, a9, a10, a11⟩ := op_cells B3
  obtain ⟨d0, d1, d2, d3, d4, d5, d6, d7, d8, d9, d10, d11⟩ := op_cells B2
  dsimp only at a0 a1 a2 a3 a4 a5 a6 a7 a8 a9 a10 a11 d0 d1 d2 d3 d4 d5 d6 d7 d8 d9 d10 d11
  clear h1 h2 h3 h4 B1 hw1 hw2 b1 b2
  simp only [opC]
  go_enter Tryd.func15, Tryd.ntmps15
  go_wp2_with fail
  refine (same_any _ _ la la _ (H1.out.later HB2.out) (H3.out.later HB2.out) ha).mono ?_
  rintro e w3 ⟨rfl, b3⟩
  rw [sameL_self]
  obtain ⟨a0, a1, a2, a3, a4, a5, a6, a7, a8, a9, a10, a11⟩ := op_cells (B3.later b3)
  obtain ⟨d0, d1, d2, d3, d4, d5, d6, d7, d8, d9, d10, d11⟩ := op_cells (B2.later b3)
  dsimp only at a0 a1 a2 a3 a4 a5 a6 a7 a8 a9 a10 a11 d0 d1 d2 d3 d4 d5 d6 d7 d8 d9 d10 d11
  have b4 := below_next HB2.out b3
  go_wp2_with fail
  refine (same_any _ _ lr lr _ (H2.out.later b4) (H4.out.later b4) hr).mono ?_
  rintro e w4 ⟨rfl, b5⟩
  rw [sameL_self]
  obtain ⟨a0, a1, a2, a3, a4, a5, a6, a7, a8, a9, a10, a11⟩ := op_cells ((B3.later b3).later b5)
  obtain ⟨d0, d1, d2, d3, d4, d5, d6, d7, d8, d9, d10, d11⟩ := op_cells ((B2.later b3).later b5)
  dsimp only at a0 a1 a2 a3 a4 a5 a6 a7 a8 a9 a10 a11 d0 d1 d2 d3 d4 d5 d6 d7 d8 d9 d10 d11
  have b6 := below_next b4 b5
  have HB6 : Hid (Below w.heap.size w w4) := b6
  clear b3 b4 b5 b6 B2 B3
  go_wp2_with fail
  go_ret
  exact ⟨rfl, HB6.out⟩
theorem sizeOs : (Tryd.prog.info? 41).map (·.size) = some 12 := by kernel_rfl
theorem fst_yo {ys : List YO} {xs : List Opn} (h : ys.map (·.1) = xs) {k : Nat} (hk : k < ys.length) : xs[k]? = some (yo ys k).1 := by rw [← h]; exact map_yo ys k hk
theorem fst_twoO {ys zs : List YO} {xs : List Opn} (h : ys.map (·.1) = xs) (h2 : zs.map (·.1) = xs) {k : Nat} (hk : k < ys.length) (hk2 : k < zs.length) : (yo ys k).1 = (yo zs k).1 :=
  Option.some.inj ((fst_yo h hk).symm.trans (fst_yo h2 hk2))
/-- lists of at most a million values -/
def MlO (x : Opn) : Prop := x.a.length ≤ 1000000 ∧ x.r.length ≤ 1000000
set_option maxRecDepth 100000 in
set_option maxHeartbeats 8000000 in
theorem rsame_o (v u : Value) (xs : List Opn) (w : World) (hv : OpSl w v xs) (hu : OpSl w u xs) (hm : ∀ x ∈ xs, MlO x) (hn : xs.length ≤ 1000000000000) :
    Calls Tryd.prog 13 #[v, u] w fun e w' => e = .returned (.bool true) ∧ Below w.heap.size w w' := by
  have mixed : Tryd.prog.follows .mixedOrders = true := by kernel_rfl
  obtain ⟨ys, y1, y2, y3⟩ := hv
  obtain ⟨zs, z1, z2, z3⟩ := hu
  have ly : ys.length = xs.length := by rw [← y1, List.length_map]
  have lz : zs.length = xs.length := by rw [← z1, List.length_map]
  obtain ⟨a, c, rfl, _, _, _⟩ := y2.form
  obtain ⟨a', c', rfl, _, _, _⟩ := z2.form
  have HY2 : Hid (OSl w (.slice a ys.length c) ys) := y2
  have HZ2 : Hid (OSl w (.slice a' zs.length c') zs) := z2
  rw [ly] at HY2 ⊢
  rw [lz] at HZ2 ⊢
  have HY3 : Hid (InO w ys) := y3
  have HZ3 : Hid (InO w zs) := z3
  have HLy : Hid (ys.length = xs.length) := ly
  have HLz : Hid (zs.length = xs.length) := lz
  have H2 : Hid (∀ k, k < ys.length → k < zs.length → (yo ys k).1 = (yo zs k).1) := fun k h1 h2 => fst_twoO y1 z1 h1 h2
  have HM : Hid (∀ k, k < ys.length → MlO (yo ys k).1) := fun k hk => hm _ (List.mem_of_getElem? (fst_yo y1 hk))
  clear y2 z2 y3 z3 ly lz y1 z1 hm
  generalize xs.length = n at *
  go_enter Tryd.func13, Tryd.ntmps13
  go_wp2
  go_loopw [5] (fun i wr => ∃ k : Nat, k ≤ n ∧ i = .int .i64 (k : Int) ∧ Below w.heap.size w wr) (fun i wr => n - (intOf i).toNat)
  case atStart => exact ⟨0, Nat.zero_le _, rfl, Below.refl _ _⟩
  case round =>
    obtain ⟨k, hk, rfl, hb⟩ := hrel
    have HB : Hid (Below w.heap.size w wr) := hb
    clear hb
    by_cases hlt : k < n
    · have hlt' : (k : Int) < (n : Int) := by omega
      have hly : k < ys.length := by rw [HLy.out]; exact hlt
      have hlz : k < zs.length := by rw [HLz.out]; exact hlt
      obtain ⟨b, o, rfl, hb1⟩ := HY2.out.block (by omega)
      obtain ⟨b', o', rfl, hb2⟩ := HZ2.out.block (by omega)
      have ry := HY2.out.at hly
      have rz := HZ2.out.at hlz
      have ey := H2.out k hly hlz
      have qy := HY3.out k hly
      have qz := HZ3.out k hlz
      have qm := HM.out k hly
      rw [← ey] at qz
      rcases hyo : yo ys k with ⟨X, va, vr⟩
      rcases hze : yo zs k with ⟨X', ua, ur⟩
      rw [hyo, hze] at ey
      obtain rfl : X = X' := ey
      rw [hyo] at ry qy qm qz
      rw [hze] at rz qz
      have RY : Hid (w.rangeAt b (o + k * 12) (opC X va vr)) := ry
      have RZ : Hid (w.rangeAt b' (o' + k * 12) (opC X ua ur)) := rz
      have hS := fun w' (hb : Below w.heap.size w w') => rone_any X va vr ua ur w' (qy.1.later hb) (qy.2.later hb) (qz.1.later hb) (qz.2.later hb) qm.1 qm.2
      have HS : Hid (∀ w', Below w.heap.size w w' → _) := hS
      have HBk : Hid (b < w.heap.size ∧ b' < w.heap.size) := ⟨hb1, hb2⟩
      clear ry rz qy qz qm hyo hze hS hb1 hb2
      go_wp2_with fail
      rename_i K hKK
      have HW0 : Below w.heap.size w { wr with drawn := wr.drawn + 1 } := ⟨HB.out.os, HB.out.tape, HB.out.output, HB.out.size, HB.out.block⟩
      refine wp_region_held (S := fun wx => Below w.heap.size w wx) mixed ?_
      generalize ({ wr with drawn := wr.drawn + 1 } : World) = n0 at HW0 ⊢
      have HW := HW0
      clear HW0
      refine takeH 0 17 (.slice (some ⟨b, o, none⟩) n c) rfl rfl (by kernel_rfl) (by kernel_rfl) (by kernel_rfl) (fun c a w h => h) (.inl ⟨rfl, fun w _ => rfl⟩) HW ?_
      simp only [List.setIfInBounds_toArray, List.set_cons_zero, List.set_cons_succ]
      refine takeH 1 18 (.int .i64 (k : Int)) rfl rfl (by kernel_rfl) (by kernel_rfl) (by kernel_rfl) (fun c a w h => h) (.inl ⟨rfl, fun w _ => rfl⟩) HW ?_
      simp only [List.setIfInBounds_toArray, List.set_cons_zero, List.set_cons_succ]
      refine takeH 2 19 (.pointer (some ⟨b, o + k * 12, none⟩)) rfl rfl (by kernel_rfl) (by kernel_rfl) (by kernel_rfl) (fun c a w h => h) (.inl ⟨rfl, fun wx _ => by go_simp⟩) HW ?_
      simp only [List.setIfInBounds_toArray, List.set_cons_zero, List.set_cons_succ]
      refine takeH 3 20 (.agg (opC X va vr).toArray) rfl rfl (by kernel_rfl) (by kernel_rfl) (by kernel_rfl) (fun c a w h => h) (yieldsIf_load_mid rfl 41 (.tmp 19) rfl b (o + k * 12) rfl (opC X va vr) _ (fun wx hx => fun j u hj => (hx.cell (p := ⟨b, o + k * 12 + j, none⟩) HBk.out.1).trans (RY.out j u hj)) Tryd.underlying41 rfl sizeOs) HW ?_
      simp only [List.setIfInBounds_toArray, List.set_cons_zero, List.set_cons_succ]
      refine takeH 4 21 (.slice (some ⟨b', o', none⟩) n c') rfl rfl (by kernel_rfl) (by kernel_rfl) (by kernel_rfl) (fun c a w h => h) (.inl ⟨rfl, fun w _ => rfl⟩) HW ?_
      simp only [List.setIfInBounds_toArray, List.set_cons_zero, List.set_cons_succ]
      refine takeH 5 22 (.int .i64 (k : Int)) rfl rfl (by kernel_rfl) (by kernel_rfl) (by kernel_rfl) (fun c a w h => h) (.inl ⟨rfl, fun w _ => rfl⟩) HW ?_
      simp only [List.setIfInBounds_toArray, List.set_cons_zero, List.set_cons_succ]
      refine takeH 6 23 (.pointer (some ⟨b', o' + k * 12, none⟩)) rfl rfl (by kernel_rfl) (by kernel_rfl) (by kernel_rfl) (fun c a w h => h) (.inl ⟨rfl, fun wx _ => by go_simp⟩) HW ?_
      simp only [List.setIfInBounds_toArray, List.set_cons_zero, List.set_cons_succ]
      refine takeH 7 24 (.agg (opC X ua ur).toArray) rfl rfl (by kernel_rfl) (by kernel_rfl) (by kernel_rfl) (fun c a w h => h) (yieldsIf_load_mid rfl 41 (.tmp 23) rfl b' (o' + k * 12) rfl (opC X ua ur) _ (fun wx hx => fun j u hj => (hx.cell (p := ⟨b', o' + k * 12 + j, none⟩) HBk.out.2).trans (RZ.out j u hj)) Tryd.underlying41 rfl sizeOs) HW ?_
      simp only [List.setIfInBounds_toArray, List.set_cons_zero, List.set_cons_succ]
      refine wpAnyH_all (rs := [8]) (by kernel_rfl) (by simp) (fun i hi => ?_)
      obtain rfl : i = 8 := by simpa using hi
      refine wpOp_doG 8 (by rfl) (by rfl) ?_
      go_wp2_with fail
      refine (HS.out n0 HW).mono ?_
      rintro e q1 ⟨rfl, hb⟩
      refine ⟨below_next HW hb, ?_⟩
      replace HW := below_next HW hb
      clear hb
      refine takeH 9 26 (.bool false) rfl rfl (by kernel_rfl) (by kernel_rfl) (by kernel_rfl) (fun c a w h => h) (.inl ⟨rfl, fun w _ => rfl⟩) HW ?_
      simp only [List.setIfInBounds_toArray, List.set_cons_zero, List.set_cons_succ]
      refine wpAnyH_done (by kernel_rfl) ?_ _
      show K _ _
      refine hKK _ _ ?_
      have HN : Hid (Below w.heap.size w q1) := HW
      clear HW
      go_wp2
      go_roundw
      case rel => exact ⟨k + 1, by omega, by go_num, HN.out⟩
      case measure => simp [intOf]; omega
    · have e : k = n := by omega
      subst e
      go_wp2
      go_ret
      exact ⟨rfl, HB.out⟩
end Go.Proofs.YtgdegbmakbfaaaaDoor
