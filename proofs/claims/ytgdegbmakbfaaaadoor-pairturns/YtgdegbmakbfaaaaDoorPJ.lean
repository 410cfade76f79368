/- The contract of Opers. Conditions: the table and the history lie in memory; a client is a key; sizes as the contracts take. -/
import Derived.Test.YtgdegbmakbfaaaaDoorPH
import Derived.Test.YtgdegbmakbfaaaaDoorPI
namespace Go.Proofs.YtgdegbmakbfaaaaDoor
open Go.RowKit Go.PlainAid Ln
set_option linter.unusedVariables false
set_option linter.unusedSimpArgs false

theorem OwnO.base {w : World} {B B' : Nat} {v : Value} {ys : List YO} (h : OwnO w B v ys) (hB : B' ≤ B) : OwnO w B' v ys := by
  obtain ⟨h1, h2⟩ := h
  refine ⟨h1, h2.imp id ?_⟩
  rintro ⟨g, cap, cur, e, hb, r⟩
  exact ⟨g, cap, cur, e, Nat.le_trans hB hb, r⟩
theorem OwnLO.base {w : World} {B B' : Nat} {ys : List YO} (h : OwnLO w B ys) (hB : B' ≤ B) : OwnLO w B' ys := fun i hi => ⟨(h i hi).1.base hB, (h i hi).2.base hB⟩
theorem OwnO.oth {w w' : World} {B p : Nat} {v : Value} {ys : List YO} {c : List Value} {t : TypeId} (h : OwnO w B v ys) (ho : Oth p p w w') (hb : Blk w p c t) (ht : t ≠ 41) : OwnO w' B v ys :=
  World.ownsRow.kept h ho.grown (.inr (Ne.symm (hb.not_row ht h)))
theorem OwnLO.oth {w w' : World} {B p : Nat} {ys : List YO} {c : List Value} {t : TypeId} (h : OwnLO w B ys) (ho : Oth p p w w') (hb : Blk w p c t) (ht : t ≠ 38) : OwnLO w' B ys := fun i hi => ⟨(h i hi).1.oth ho hb ht, (h i hi).2.oth ho hb ht⟩
/-- how Opers ends -/
def ROps (w : World) (xs : List Ev) (e : Ending) (w' : World) : Prop :=
  ∃ v yo, e = .returned (.tuple #[v, .agg #[.int .i64 (checkE xs).1, .int .i64 (checkE xs).2]]) ∧ ((checkE xs).1 = 0 → yo.map (·.1) = opsE xs ∧ OwnO w' w.heap.size v yo ∧ OwnLO w' w.heap.size yo) ∧ ((checkE xs).1 ≠ 0 → v = nilS) ∧ Below w.heap.size w w'
set_option maxRecDepth 100000 in
set_option maxHeartbeats 16000000 in
theorem opers_any (v : Value) (ys : List YE) (w : World) (hv : YSl w v ys) (hi : InL w ys) (hz : ∀ i, i < ys.length → SzE (ye ys i).1) (hk : ∀ i, i < ys.length → KV (ye ys i).1.c) (hl : ys.length ≤ 900000) (ht : Tb w) :
    Calls Tryd.prog 12 #[v] w fun e w' => ROps w (ys.map (·.1)) e w' := by
  have mixed : Tryd.prog.follows .mixedOrders = true := by kernel_rfl
  have HF : Hid (∀ w', Below w.heap.size w w' → Calls Tryd.prog 20 #[v] w' fun e w'' => RFol w' (ys.map (·.1)) e w'') := fun w' h => follow_any v ys w' (hv.later h) (hi.later h) hz hk hl (ht.later h)
  obtain ⟨a, c, rfl, hc1, hc2, _⟩ := hv.form
  have HV : Hid (YSl w (.slice a ys.length c) ys) := hv
  have HI : Hid (InL w ys) := hi
  have HZs : Hid (∀ i, i < ys.length → SzE (ye ys i).1) := hz
  have HK : Hid (∀ i, i < ys.length → KV (ye ys i).1.c) := hk
  have HL : Hid ((ys.map (·.1)).length = ys.length) := List.length_map ..
  clear hv hi hz hk ht
  obtain ⟨xs, hxs⟩ : ∃ xs, ys.map (·.1) = xs := ⟨_, rfl⟩
  have HX : Hid (ys.map (·.1) = xs) := hxs
  rw [hxs] at HL HF ⊢
  clear hxs
  obtain ⟨q, hq⟩ : ∃ q, ys.length = q := ⟨_, rfl⟩
  have HQ : Hid (ys.length = q) := hq
  rw [hq] at HF HV HZs HK HL hl hc1 ⊢
  clear hq
  obtain ⟨z, hz⟩ : ∃ z, w.heap.size = z := ⟨_, rfl⟩
  have HZ : Hid (w.heap.size = z) := hz
  go_enter Tryd.func12, Tryd.ntmps12
  go_wp2_with fail
  have R1 : Blk (w.alloc (.cells #[.int .i64 0, .int .i64 0] 27)) w.heap.size [.int .i64 0, .int .i64 0] 27 := Blk.new w [.int .i64 0, .int .i64 0] 27
  have hb1 : Below w.heap.size w (w.alloc (.cells #[.int .i64 0, .int .i64 0] 27)) := below_more (Below.refl _ _) _
  have hs1 := alloc_size w (.cells #[.int .i64 0, .int .i64 0] 27)
  rw [hz] at R1 hs1
  generalize w.alloc (.cells #[.int .i64 0, .int .i64 0] 27) = w1 at R1 hb1 hs1 ⊢
  clear hz
  refine (HF.out w1 hb1).mono ?_
  rintro e w2 ⟨ve, rfl, hends, b2⟩
  have R2 : Blk w2 z [.int .i64 0, .int .i64 0] 27 := R1.later b2
  have HB2 : Hid (Below w.heap.size w w2) := below_next hb1 b2
  have hzl : z < w2.heap.size := R2.lt
  clear R1 hb1 b2
  obtain ⟨ck, hck⟩ : ∃ ck, checkE xs = ck := ⟨_, rfl⟩
  have HCk : Hid (checkE xs = ck) := hck
  have HEnds : Hid (ck.1 = 0 → OwnI w2 w1.heap.size ve (endsB xs xs.length)) := by rw [← hck]; exact hends
  have R3 : Blk (w2.alloc (.cells #[.int .i64 ck.1, .int .i64 ck.2] 27)) z [.int .i64 0, .int .i64 0] 27 := R2.alloc _
  have Q3 : Blk (w2.alloc (.cells #[.int .i64 ck.1, .int .i64 ck.2] 27)) w2.heap.size [.int .i64 ck.1, .int .i64 ck.2] 27 := Blk.new w2 [.int .i64 ck.1, .int .i64 ck.2] 27
  have hb3 : Below w2.heap.size w2 (w2.alloc (.cells #[.int .i64 ck.1, .int .i64 ck.2] 27)) := below_more (Below.refl _ _) _
  rw [hck]
  clear hck hends R2
  obtain ⟨z2, hz2'⟩ : ∃ z2, w2.heap.size = z2 := ⟨_, rfl⟩
  have hz2 : z2 ≠ z := by omega
  rw [hz2'] at Q3 hzl
  have HS2 : Hid (w2.heap.size = z2) := hz2'
  by_cases hc0 : ck.1 = 0
  case neg =>
    have hne : (ck.1 != 0) = true := by simp [hc0]
    go_wp2_with fail
    rename_i K hKK
    generalize w2.alloc (.cells #[.int .i64 ck.1, .int .i64 ck.2] 27) = w3 at R3 Q3 hb3 ⊢
    have HW : Below w.heap.size w { w3 with drawn := w3.drawn + 1 } := by have h := below_next HB2.out hb3; exact ⟨h.os, h.tape, h.output, h.size, h.block⟩
    have HS : Blk { w3 with drawn := w3.drawn + 1 } z2 [.int .i64 ck.1, .int .i64 ck.2] 27 := Q3
    have R4 : Blk { w3 with drawn := w3.drawn + 1 } z [.int .i64 0, .int .i64 0] 27 := R3
    refine wp_region_held (S := fun wx => Blk wx z2 [.int .i64 ck.1, .int .i64 ck.2] 27) mixed ?_
    generalize ({ w3 with drawn := w3.drawn + 1 } : World) = n0 at HW HS R4 ⊢
    clear R3 Q3 hb3
    refine takeH 0 19 (.agg #[.int .i64 ck.1, .int .i64 ck.2]) rfl rfl (by kernel_rfl) (by kernel_rfl) (by kernel_rfl) (fun c a w h => h) (yieldsIf_load_mid rfl 27 (.tmp 5) rfl z2 0 rfl [.int .i64 ck.1, .int .i64 ck.2] _ (fun wx hx => Blk.all hx) Tryd.underlying27 rfl sizeF) HS ?_
    simp only [List.setIfInBounds_toArray, List.set_cons_zero, List.set_cons_succ]
    refine takeH 1 2 (.slice none 0 0) rfl rfl (by kernel_rfl) (by kernel_rfl) (by kernel_rfl) (fun c a w h => h) (.inl ⟨rfl, fun w _ => rfl⟩) HS ?_
    simp only [List.setIfInBounds_toArray, List.set_cons_zero, List.set_cons_succ]
    refine wpAnyH_all (rs := [2]) (by kernel_rfl) (by simp) (fun i hi => ?_)
    obtain rfl : i = 2 := by simpa using hi
    refine wpOp_doG 2 (by rfl) (by rfl) ?_
    refine wpo_storeB 27 (.tmp 3) (.tmp 19) z 0 [.int .i64 ck.1, .int .i64 ck.2] [.int .i64 0, .int .i64 0] 27 sizeF (show 0 + 2 ≤ 2 by decide) (by simp [Value.oneCell']) rfl rfl rfl R4 ?_
    intro q1 Rx ox
    replace Rx : Blk q1 z [.int .i64 ck.1, .int .i64 ck.2] 27 := Rx
    have hb : Blk q1 z2 [.int .i64 ck.1, .int .i64 ck.2] 27 := HS.oth ox hz2 hz2
    replace HW := below_oth HW ox (Nat.le_of_eq HZ.out) (Nat.le_of_eq HZ.out) HW.size
    clear R4 ox
    refine ⟨hb, ?_⟩
    replace HS := hb
    clear hb
    refine wpAnyH_done (by kernel_rfl) ?_ _
    show K _ _
    refine hKK _ _ ?_
    clear HS hKK
    go_wp2_with fail
    refine ret_tblk rfl z [.int .i64 ck.1, .int .i64 ck.2] 27 _ nilS Tryd.underlying27 rfl sizeF rfl Rx rfl rfl ?_
    exact ⟨nilS, [], by rw [HCk.out], fun h => absurd (by rw [HCk.out] at h; exact h) hc0, fun _ => rfl, HW⟩

  case pos =>
    have hne : (ck.1 != 0) = false := by simp [hc0]
    have HC00 : Hid (ck = (0, 0)) := by
      show _ = _
      rw [← HCk.out]
      rcases okE_cases xs with ⟨k, h1, h2, h3⟩ | h
      · have := checkE_bad h1 h2 h3
        rw [HCk.out] at this
        rw [this] at hc0
        exact absurd hc0 h3
      · exact checkE_ok h
    have hends := HEnds.out hc0
    have HC0 : Hid (ck.1 = 0) := hc0
    clear HEnds hc0
    go_wp2_with fail
    have HO3 : Hid (OwnI (w2.alloc (.cells #[.int .i64 ck.1, .int .i64 ck.2] 27)) w1.heap.size ve (endsB xs xs.length)) := hends.later hb3
    have Hb3 : Hid (Below w.heap.size w (w2.alloc (.cells #[.int .i64 ck.1, .int .i64 ck.2] 27))) := below_next HB2.out hb3
    have HR3 : Hid (Blk (w2.alloc (.cells #[.int .i64 ck.1, .int .i64 ck.2] 27)) z [.int .i64 0, .int .i64 0] 27) := R3
    clear R3 Q3 hb3 hends hne
    generalize w2.alloc (.cells #[.int .i64 ck.1, .int .i64 ck.2] 27) = w3 at HO3 Hb3 HR3 ⊢
    have hisl := HO3.out.isl
    obtain ⟨ae, ce, rfl, hce1, hce2, _⟩ := hisl
    have HEn : Hid (ISl w3 (.slice ae (endsB xs xs.length).length ce) (endsB xs xs.length)) := HO3.out.isl
    rw [endsB_len, HL.out] at HEn hce1 ⊢
    clear HO3
    go_loopw [6, 22] (fun l i wr => ∃ (k : Nat) (yo : List YO), k ≤ q ∧ i = .int .i64 (k : Int) ∧ yo.map (·.1) = opsTo xs k ∧ OwnO wr w3.heap.size l yo ∧ OwnLO wr w3.heap.size yo ∧ Below w3.heap.size w3 wr) (fun l i wr => q - (intOf i).toNat)
    case atStart => exact ⟨0, [], Nat.zero_le _, rfl, rfl, OwnO.nil _ _, OwnLO.nil _ _, Below.refl _ _⟩
    case round =>
      obtain ⟨k, yo, hk, rfl, hmap, hown, hol, hb⟩ := hrel
      have HM : Hid (yo.map (·.1) = opsTo xs k) := hmap
      have HLy : Hid (yo.length ≤ 900000) := by
        show _ ≤ _
        have h1 : yo.length = (opsTo xs k).length := by rw [← hmap, List.length_map]
        have h2 := opsTo_len xs k
        omega
      have HOw : Hid (OwnO wr w3.heap.size u6 yo) := hown
      have HOl : Hid (OwnLO wr w3.heap.size yo) := hol
      have HB : Hid (Below w3.heap.size w3 wr) := hb
      have HW : Hid (Below w.heap.size w wr) := below_next Hb3.out hb
      obtain ⟨al, cl, rfl⟩ := hown.form
      obtain ⟨l, hlen⟩ : ∃ l, yo.length = l := ⟨_, rfl⟩
      have HYl : Hid (yo.length = l) := hlen
      rw [hlen] at HOw ⊢
      clear hmap hown hol hb hlen
      by_cases hlt : k < q
      · have hlt' : (k : Int) < (q : Int) := by omega
        have hk0 : (0 : Int) ≤ (k : Int) := by omega
        obtain ⟨b, o, rfl, hbl⟩ := HV.out.block (by rw [HQ.out]; omega)
        have hh : Hst w b o q c ys := ⟨HQ.out, fun k hk => HV.out.at (by rw [HQ.out]; exact hk), hbl, HI.out, hl, hc1, hc2, HZs.out, HK.out⟩
        have HH : Hid (Hst w b o q c ys) := hh
        obtain ⟨be, oe, rfl, hbe, hce⟩ := isl_at HEn.out (by rw [endsB_len]; omega)
        have hck := hce k (by rw [endsB_len]; exact hlt)
        rw [endsB_nth hlt] at hck
        have HCe : Hid (w3.cell? ⟨be, oe + k, none⟩ = some (.int .i64 (endI xs q k))) := hck
        have HBe : Hid (be < w3.heap.size) := hbe
        have hrk := hh.row k hlt
        have hik := hh.inl k (by rw [hh.len]; exact hlt)
        have hek := ev_ye ys k
        rw [HX.out] at hek
        rcases hyk : ye ys k with ⟨X, va, vr⟩
        rw [hyk] at hrk hik hek
        obtain ⟨av, cv, rfl⟩ : ∃ a c, va = .slice a X.a.length c := by obtain ⟨a, c, h, _⟩ := hik.1; exact ⟨a, c, h⟩
        obtain ⟨ar, cr, rfl⟩ : ∃ a c, vr = .slice a X.r.length c := by obtain ⟨a, c, h, _⟩ := hik.2; exact ⟨a, c, h⟩
        have HXk : Hid (ev xs k = X) := hek
        have HRk : Hid (wr.rangeAt b (o + k * 14) (evC X (.slice av X.a.length cv) (.slice ar X.r.length cr))) := fun j u hj => (HW.out.cell (p := ⟨b, o + k * 14 + j, none⟩) hbl).trans (hrk j u hj)
        have Hb5 : Hid (Below wr.heap.size wr (wr.alloc (.cells #[.int .i64 X.t, .int .i64 X.c.1, .int .i64 X.c.2.1, .string X.c.2.2, .int .i64 X.y, .int .i64 X.m, .int .i64 X.k.1, .int .i64 X.k.2.1, .string X.k.2.2, .int .i64 X.o, .slice av X.a.length cv, .slice ar X.r.length cr, .bool X.nd, .string X.n] 47))) := below_more (Below.refl _ _) _
        clear hh hbl hck hce hbe hrk hik hek hyk
        by_cases y1 : X.y = 1
        · have e1 : (X.y != 1) = false := by simp [y1]
          have HY : Hid ((ev xs k).y = 1) := by show _ = _; rw [HXk.out]; exact y1
          have he : endI xs q k = nxt xs k := by rw [← HL.out]; exact end_all HY.out
          rw [he] at HCe
          have c5 := (Hb5.out.cell (p := ⟨be, oe + k, none⟩) (Nat.lt_of_lt_of_le HBe.out HB.out.size)).trans ((HB.out.cell (p := ⟨be, oe + k, none⟩) HBe.out).trans HCe.out)
          have c4 := (HB.out.cell (p := ⟨be, oe + k, none⟩) HBe.out).trans HCe.out
          have HOp : Hid (∀ w', Below w.heap.size w w' → Calls Tryd.prog 22 #[.slice (some ⟨b, o, none⟩) q c, .int .i64 (k : Int), .int .i64 (nxt xs k)] w' fun e w'' => ROpr w' xs k e w'') := fun w' h => oper_any ys xs w' b o q c k (nxt xs k) HX.out (HH.out.later h) hlt HY.out rfl
          have HW5 : Hid (Below w.heap.size w (wr.alloc (.cells #[.int .i64 X.t, .int .i64 X.c.1, .int .i64 X.c.2.1, .string X.c.2.2, .int .i64 X.y, .int .i64 X.m, .int .i64 X.k.1, .int .i64 X.k.2.1, .string X.k.2.2, .int .i64 X.o, .slice av X.a.length cv, .slice ar X.r.length cr, .bool X.nd, .string X.n] 47))) := below_next HW.out Hb5.out
          have hnx : nxt xs k = nxt xs k := rfl
          generalize nxt xs k = E at HOp c5 c4
          clear y1 he hnx
          go_wp2_with ((with_reducible refine wpList_load_mid ?_ 47 (.tmp 25) ?_ b (o + k * 14) ?_ (evC X (.slice av X.a.length cv) (.slice ar X.r.length cr)) _ HRk.out Tryd.underlying47 ?_ ?_ ?_); (exact rfl); (exact rfl); (exact rfl); (exact rfl); (exact sizeE); (simp only [evC]))
          refine (HOp.out _ HW5.out).mono ?_
          rintro e w6 ⟨O, va, vr, rfl, ⟨aa, na, ca, rfl⟩, ⟨ab, nb, cb, rfl⟩, hop, hb6⟩
          have Hb6 : Hid (Below wr.heap.size wr w6) := below_next Hb5.out hb6
          obtain ⟨is, his⟩ : ∃ is, isOp xs k = is := ⟨_, rfl⟩
          have HIs : Hid (isOp xs k = is) := his
          rw [his] at hop ⊢
          clear his hb6 c5 c4
          simp only [opC]
          cases is
          · have HOpn : Hid (opsTo xs (k + 1) = opsTo xs k) := opsTo_no HIs.out
            have Hb7 : Hid (Below wr.heap.size wr (w6.alloc (.cells #[.int .i64 O.c.1, .int .i64 O.c.2.1, .string O.c.2.2, .int .i64 O.m, .int .i64 O.k.1, .int .i64 O.k.2.1, .string O.k.2.2, .int .i64 O.o, .slice aa na ca, .slice ab nb cb, .int .i64 O.call, .int .i64 O.ret] 41))) := below_more Hb6.out _
            clear hop
            go_wp2_with fail
            go_roundw
            case rel => exact ⟨k + 1, yo, by omega, by go_num, by rw [HOpn.out]; exact HM.out, HOw.out.later Hb7.out, HOl.out.later Hb7.out, below_next HB.out Hb7.out⟩
            case measure => simp [intOf] <;> omega
          · have HOpn : Hid (opsTo xs (k + 1) = opsTo xs k ++ [opOf xs k]) := opsTo_yes HIs.out
            obtain ⟨hoo, hva, hvr⟩ := hop rfl
            have HOo : Hid (O = opOf xs k) := hoo
            have Hb8 : Hid (Below wr.heap.size wr ((w6.alloc (.cells #[.int .i64 O.c.1, .int .i64 O.c.2.1, .string O.c.2.2, .int .i64 O.m, .int .i64 O.k.1, .int .i64 O.k.2.1, .string O.k.2.2, .int .i64 O.o, .slice aa na ca, .slice ab nb cb, .int .i64 O.call, .int .i64 O.ret] 41)).alloc (.cells (encO (O, .slice aa na ca, .slice ab nb cb)).toArray 41))) := below_more (below_more Hb6.out _) _
            have Hb68 : Hid (Below w6.heap.size w6 ((w6.alloc (.cells #[.int .i64 O.c.1, .int .i64 O.c.2.1, .string O.c.2.2, .int .i64 O.m, .int .i64 O.k.1, .int .i64 O.k.2.1, .string O.k.2.2, .int .i64 O.o, .slice aa na ca, .slice ab nb cb, .int .i64 O.call, .int .i64 O.ret] 41)).alloc (.cells (encO (O, .slice aa na ca, .slice ab nb cb)).toArray 41))) := below_more (below_more (Below.refl _ _) _) _
            have HU : Hid (OwnV w6 w3.heap.size (.slice aa na ca) O.a ∧ OwnV w6 w3.heap.size (.slice ab nb cb) O.r) := ⟨hva.base (Nat.le_trans HB.out.size Hb5.out.size), hvr.base (Nat.le_trans HB.out.size Hb5.out.size)⟩
            clear hop hoo hva hvr
            go_wp2_with (first
              | ((with_reducible refine wpList_buildO ?_ (.tmp 42) ?_ (O, .slice aa na ca, .slice ab nb cb) ?_ (w6.alloc (.cells #[.int .i64 O.c.1, .int .i64 O.c.2.1, .string O.c.2.2, .int .i64 O.m, .int .i64 O.k.1, .int .i64 O.k.2.1, .string O.k.2.2, .int .i64 O.o, .slice aa na ca, .slice ab nb cb, .int .i64 O.call, .int .i64 O.ret] 41)).heap.size ?_ ?_); (exact rfl); (exact rfl); (exact rfl); (exact rfl))
              | (at_builtin; refine wpList_appendO1 rfl (.tmp 41) (.tmp 43) rfl w3.heap.size (.slice al l cl) yo rfl (HOw.out.later Hb8.out) (w6.alloc (.cells #[.int .i64 O.c.1, .int .i64 O.c.2.1, .string O.c.2.2, .int .i64 O.m, .int .i64 O.k.1, .int .i64 O.k.2.1, .string O.k.2.2, .int .i64 O.o, .slice aa na ca, .slice ab nb cb, .int .i64 O.call, .int .i64 O.ret] 41)).heap.size (O, .slice aa na ca, .slice ab nb cb) rfl (Blk.all (Blk.new (w6.alloc (.cells #[.int .i64 O.c.1, .int .i64 O.c.2.1, .string O.c.2.2, .int .i64 O.m, .int .i64 O.k.1, .int .i64 O.k.2.1, .string O.k.2.2, .int .i64 O.o, .slice aa na ca, .slice ab nb cb, .int .i64 O.call, .int .i64 O.ret] 41)) (encO (O, .slice aa na ca, .slice ab nb cb)) 41)) ⟨rfl, rfl⟩ (by have := HLy.out; omega) (Nat.le_trans HB.out.size Hb8.out.size) ?_; intro g9 cap9 w9 o9 gr9; have HO9 : Hid (OwnO w9 w3.heap.size (.slice (some ⟨g9, 0, none⟩) (yo.length + 1) cap9) (yo ++ [(O, .slice aa na ca, .slice ab nb cb)])) := o9; have HB9 : Hid (Below w3.heap.size w3 w9) := Below.grown (below_next HB.out Hb8.out) gr9 (Nat.le_trans HB.out.size Hb8.out.size) (fun q h => (HOw.out.lt q h).1); have HL9 : Hid (OwnLO w9 w3.heap.size (yo ++ [(O, .slice aa na ca, .slice ab nb cb)])) := OwnLO.snoc ((HOl.out.later Hb8.out).grown (HOw.out.later Hb8.out) gr9) ((HU.out.1.later Hb68.out).grownO (HOw.out.later Hb8.out) gr9) ((HU.out.2.later Hb68.out).grownO (HOw.out.later Hb8.out) gr9); clear o9 gr9))
            go_roundw
            case rel => exact ⟨k + 1, yo ++ [(O, .slice aa na ca, .slice ab nb cb)], by omega, by go_num, by rw [List.map_append, HM.out, HOpn.out, ← HOo.out]; rfl, HO9.out, HL9.out, HB9.out⟩
            case measure => simp [intOf] <;> omega
        · have e1 : (X.y != 1) = true := by simp [y1]
          have HOpn : Hid (opsTo xs (k + 1) = opsTo xs k) := opsTo_no (by unfold isOp; rw [HXk.out, decide_eq_false y1]; rfl)
          clear y1
          go_wp2_with ((with_reducible refine wpList_load_mid ?_ 47 (.tmp 25) ?_ b (o + k * 14) ?_ (evC X (.slice av X.a.length cv) (.slice ar X.r.length cr)) _ HRk.out Tryd.underlying47 ?_ ?_ ?_); (exact rfl); (exact rfl); (exact rfl); (exact rfl); (exact sizeE); (simp only [evC]))
          go_roundw
          case rel => exact ⟨k + 1, yo, by omega, by go_num, by rw [HOpn.out]; exact HM.out, HOw.out.later Hb5.out, HOl.out.later Hb5.out, below_next HB.out Hb5.out⟩
          case measure => simp [intOf] <;> omega
      · obtain rfl : k = q := by omega
        have R5 := HR3.out.later HB.out
        go_wp2_with ((with_reducible refine wp_storeB 27 (.tmp 3) (.tmp 47) z 0 [.int .i64 0, .int .i64 0] [.int .i64 0, .int .i64 0] 27 ?_ ?_ (by simp [Value.oneCell']) ?_ ?_ ?_ R5 ?_); (exact sizeF); (exact (show 0 + 2 ≤ 2 by decide)); (exact ⟨rfl, rfl⟩); (exact rfl); (exact rfl); (intro wx Rx ox); (replace Rx : Blk wx z [.int .i64 0, .int .i64 0] 27 := Rx))
        refine ret_tblk rfl z [.int .i64 0, .int .i64 0] 27 _ (.slice al l cl) Tryd.underlying27 rfl sizeF rfl Rx rfl rfl ?_
        refine ⟨_, yo, by rw [HCk.out, HC00.out], fun _ => ⟨by rw [HM.out]; unfold opsE; rw [HL.out], ?_, ?_⟩, fun h => absurd (by rw [HCk.out, HC00.out]) h, below_oth HW.out ox (Nat.le_of_eq HZ.out) (Nat.le_of_eq HZ.out) HW.out.size⟩
        · exact (HOw.out.oth ox R5 (by decide)).base Hb3.out.size
        · exact (HOl.out.oth ox R5 (by decide)).base Hb3.out.size
end Go.Proofs.YtgdegbmakbfaaaaDoor
