/- The contracts of follow and of Check. Conditions: the table and the history lie in memory; a client is a key; sizes as the contracts take. -/
import Derived.Test.YtgdegbmakbfaaaaDoorPY
namespace Go.Proofs.YtgdegbmakbfaaaaDoor
open Go.RowKit Go.PlainAid Go.Maps Ln
set_option linter.unusedVariables false
set_option linter.unusedSimpArgs false

theorem ret_tblk {P : Program} {fn : Func} {R : Ending → World → Prop} {a : Act} {w : World} {p u : Tmp} {ty : TypeId} (h : fn.results = #[.tmp u, .cell p ty]) (g : Nat) (c : List Value) (t : TypeId) (d : TypeDesc) (v : Value)
    (hu : P.underlying ty = some d) (hd : d.isRow = true) (hi : (P.info? ty).map (·.size) = some c.length)
    (hp : a.tmps.getD p undef = .pointer (some ⟨g, 0, none⟩)) (hr : Blk w g c t) (hv : a.tmps.getD u undef = v) (hdef : a.defers = []) (hR : R (.returned (.tuple #[v, .agg c.toArray])) w) : bodyPost P fn R .ret a w := by
  refine bodyPost_ret (v := .tuple #[v, .agg c.toArray]) ?_ hdef hR
  have hp' : a.tmps[p]?.getD undef = .pointer (some ⟨g, 0, none⟩) := by simpa using hp
  have hv' : a.tmps[u]?.getD undef = v := by simpa using hv
  have hl : (loadVar ty ⟨g, 0, none⟩).run P w = .ok (.agg c.toArray) w := by
    refine run_loadVar_row w g t ty c.toArray (0, 0) d hr hu ?_ (by simpa using hi)
    cases d <;> simp_all [TypeDesc.isRow]
  simp [results, h, hp', hv', asAddr, hl]
theorem sizeF : (Tryd.prog.info? 27).map (·.size) = some 2 := by kernel_rfl
theorem alloc_size (w : World) (o : Obj) : (w.alloc o).heap.size = w.heap.size + 1 := by unfold World.alloc; exact Array.size_push ..
theorem OwnI.base {w : World} {B B' : Nat} {v : Value} {xs : List Int} (h : OwnI w B v xs) (hB : B' ≤ B) : OwnI w B' v xs := by
  obtain ⟨h1, h2⟩ := h
  refine ⟨h1, h2.imp id ?_⟩
  rintro ⟨g, cap, cur, e, hb, r⟩
  exact ⟨g, cap, cur, e, Nat.le_trans hB hb, r⟩
/-- the walk's state at the beginning, in blocks laid one behind another -/
theorem st_new (w : World) (v : Value) (xs : List Ev) : St (((w.alloc (.map #[] 0)).alloc (.map #[] 0)).alloc (.cells (wkC v w.heap.size (w.heap.size + 1) nilS).toArray 61)) w.heap.size (w.heap.size + 1 + 1) w.heap.size (w.heap.size + 1) v nilS xs 0 := by
  have s1 := alloc_size w (.map #[] 0)
  have s2 := alloc_size (w.alloc (.map #[] 0)) (.map #[] 0)
  rw [s1] at s2
  have k := Blk.new ((w.alloc (.map #[] 0)).alloc (.map #[] 0)) (wkC v w.heap.size (w.heap.size + 1) nilS) 61
  rw [s2] at k
  have m1 : IMap 3 (w.alloc (.map #[] 0)) w.heap.size 0 (openG xs 0) := by rw [openG_0]; exact IMap.made _ w
  have m2 : UMap ((w.alloc (.map #[] 0)).alloc (.map #[] 0)) (w.alloc (.map #[] 0)).heap.size 0 (lostG xs 0) := by rw [lostG_0]; exact UMap.made _
  rw [s1] at m2
  exact ⟨k, by omega, Nat.le_refl _, by omega, by omega, (m1.later (below_more (Below.refl _ _) _)).later (below_more (Below.refl _ _) _), m2.later (below_more (Below.refl _ _) _), World.ownsRow_nil _ _ _ _⟩
/-- how follow ends -/
def RFol (w : World) (xs : List Ev) (e : Ending) (w' : World) : Prop := ∃ v, e = .returned (.tuple #[v, .agg #[.int .i64 (checkE xs).1, .int .i64 (checkE xs).2]]) ∧ ((checkE xs).1 = 0 → OwnI w' w.heap.size v (endsB xs xs.length)) ∧ Below w.heap.size w w'
set_option maxRecDepth 100000 in
set_option maxHeartbeats 16000000 in
theorem follow_any (v : Value) (ys : List YE) (w : World) (hv : YSl w v ys) (hi : InL w ys) (hz : ∀ i, i < ys.length → SzE (ye ys i).1) (hk : ∀ i, i < ys.length → KV (ye ys i).1.c) (hl : ys.length ≤ 900000) (ht : Tb w) :
    Calls Tryd.prog 20 #[v] w fun e w' => RFol w (ys.map (·.1)) e w' := by
  obtain ⟨a, c, rfl, hc1, hc2, _⟩ := hv.form
  have HV : Hid (YSl w (.slice a ys.length c) ys) := hv
  have HI : Hid (InL w ys) := hi
  have HZ : Hid (∀ i, i < ys.length → SzE (ye ys i).1) := hz
  have HK : Hid (∀ i, i < ys.length → KV (ye ys i).1.c) := hk
  have HT : Hid (Tb w) := ht
  have HL : Hid ((ys.map (·.1)).length = ys.length) := List.length_map ..
  clear hv hi hz hk ht
  obtain ⟨xs, hxs⟩ : ∃ xs, ys.map (·.1) = xs := ⟨_, rfl⟩
  have HX : Hid (ys.map (·.1) = xs) := hxs
  rw [hxs] at HL ⊢
  clear hxs
  obtain ⟨q, hq⟩ : ∃ q, ys.length = q := ⟨_, rfl⟩
  have HQ : Hid (ys.length = q) := hq
  rw [hq] at HV HZ HK HL hl hc1 ⊢
  clear hq
  have hm1 := fun w => run_makeMap (P := Tryd.prog) 58 w
  have hm2 := fun w => run_makeMap (P := Tryd.prog) 59 w
  obtain ⟨z, hz⟩ : ∃ z, w.heap.size = z := ⟨_, rfl⟩
  have HZz : Hid (w.heap.size = z) := hz
  go_enter Tryd.func20, Tryd.ntmps20
  go_wp2_with fail
  have hs1 := alloc_size w (.cells #[.int .i64 0, .int .i64 0] 27)
  have R1 : Blk (w.alloc (.cells #[.int .i64 0, .int .i64 0] 27)) w.heap.size [.int .i64 0, .int .i64 0] 27 := Blk.new w [.int .i64 0, .int .i64 0] 27
  have hb1 : Below w.heap.size w (w.alloc (.cells #[.int .i64 0, .int .i64 0] 27)) := below_more (Below.refl _ _) _
  rw [hz] at hs1 R1
  generalize w.alloc (.cells #[.int .i64 0, .int .i64 0] 27) = w1 at hs1 R1 hb1 ⊢
  have hst := st_new w1 (.slice a q c) xs
  have hb4 : Below w1.heap.size w1 (((w1.alloc (.map #[] 0)).alloc (.map #[] 0)).alloc (.cells (wkC (.slice a q c) w1.heap.size (w1.heap.size + 1) nilS).toArray 61)) := below_more (below_more (below_more (Below.refl _ _) _) _) _
  rw [hs1] at hst
  have hb5 := hb4
  rw [hs1] at hb4
  change St (((w1.alloc (.map #[] 0)).alloc (.map #[] 0)).alloc (.cells #[.slice a q c, .map (some (z + 1)), .map (some (z + 1 + 1)), .slice none 0 0] 61)) _ _ _ _ _ _ _ _ at hst
  change Below _ _ (((w1.alloc (.map #[] 0)).alloc (.map #[] 0)).alloc (.cells #[.slice a q c, .map (some (z + 1)), .map (some (z + 1 + 1)), .slice none 0 0] 61)) at hb4
  generalize ((w1.alloc (.map #[] 0)).alloc (.map #[] 0)).alloc (.cells #[.slice a q c, .map (some (z + 1)), .map (some (z + 1 + 1)), .slice none 0 0] 61) = w4 at hst hb4 ⊢
  obtain ⟨mb, hmb⟩ : ∃ mb, z + 1 = mb := ⟨_, rfl⟩
  rw [hmb] at hst hs1 hb4 ⊢
  have HR1 : Hid (Blk w1 z [.int .i64 0, .int .i64 0] 27) := R1
  have Hb1 : Hid (Below w.heap.size w w1) := hb1
  have HS1 : Hid (w1.heap.size = mb) := hs1
  have HMB : Hid (z + 1 = mb) := hmb
  clear hm1 hm2 hz hs1 R1 hb1 hb5 hmb
  obtain ⟨ml, hml⟩ : ∃ ml, mb + 1 = ml := ⟨_, rfl⟩
  rw [hml] at hst ⊢
  obtain ⟨p, hp⟩ : ∃ p, ml + 1 = p := ⟨_, rfl⟩
  rw [hp] at hst ⊢
  clear hml hp
  go_loopw [13] (fun i wr => ∃ (k : Nat) (ve : Value), k ≤ q ∧ i = .int .i64 (k : Int) ∧ okE xs k ∧ St wr mb p mb ml (.slice a q c) ve xs k ∧ Below mb w1 wr) (fun i wr => q - (intOf i).toNat)
  case atStart => exact ⟨0, nilS, Nat.zero_le _, rfl, fun i hi => absurd hi (Nat.not_lt_zero i), hst, hb4⟩
  case round =>
    obtain ⟨k, ve, hk, rfl, hok, hs, hb⟩ := hrel
    have HOk : Hid (okE xs k) := hok
    have HS : Hid (St wr mb p mb ml (.slice a q c) ve xs k) := hs
    have HB : Hid (Below mb w1 wr) := hb
    have HW : Hid (Below w.heap.size w wr) := below_next Hb1.out (by rw [HS1.out]; exact hb)
    clear hok hs hb
    by_cases hlt : k < q
    · have hlt' : (k : Int) < (q : Int) := by omega
      obtain ⟨b, o, rfl, hbl⟩ := HV.out.block (by rw [HQ.out]; omega)
      have hh : Hst w b o q c ys := ⟨HQ.out, fun k hk => HV.out.at (by rw [HQ.out]; exact hk), hbl, HI.out, hl, hc1, hc2, HZ.out, HK.out⟩
      have HH : Hid (Hst w b o q c ys) := hh
      have hF := fault_any p mb ml k b o q c mb ve ys wr (by rw [HX.out]; exact HS.out) (hh.later HW.out) hlt (HT.out.later HW.out)
      rw [HX.out] at hF
      have HBl : Hid (b < mb) := by have := HZz.out; have := HMB.out; show _ < _; omega
      clear hh hbl
      obtain ⟨cd, hcd⟩ : ∃ cd, wrongE xs k = cd := ⟨_, rfl⟩
      rw [hcd] at hF
      go_wp2_with fail
      refine hF.mono ?_
      clear hF
      rintro e w5 ⟨rfl, b5⟩
      have HS5 : Hid (St w5 mb p mb ml (.slice (some ⟨b, o, none⟩) q c) ve xs k) := HS.out.later b5
      have HB5 : Hid (Below mb w1 w5) := HB.out.trans (b5.mono (Nat.le_trans (Nat.le_of_eq HS1.out.symm) HB.out.size))
      have HW5 : Hid (Below w.heap.size w w5) := below_next HW.out b5
      clear b5
      by_cases h0 : cd = 0
      · subst h0
        have HC : Hid (wrongE xs k = 0) := hcd
        clear hcd
        have hP := pass_any p mb ml k b o q c mb ve ys w5 (by rw [HX.out]; exact HS5.out) (HH.out.later HW5.out) hlt (by rw [HX.out]; exact HC.out) HBl.out (Nat.le_trans (Nat.le_of_eq HS1.out.symm) HB5.out.size)
        rw [HX.out] at hP
        go_wp2_with fail
        refine hP.mono ?_
        clear hP
        rintro e w6 ⟨rfl, ⟨ve', hs6⟩, b6⟩
        have HS6 : Hid (St w6 mb p mb ml (.slice (some ⟨b, o, none⟩) q c) ve' xs (k + 1)) := hs6
        have HB6 : Hid (Below mb w1 w6) := HB5.out.trans b6
        clear hs6 b6
        go_wp2
        go_roundw
        case rel => exact ⟨k + 1, ve', by omega, by go_num, okE_succ HOk.out HC.out, HS6.out, HB6.out⟩
        case measure => simp [intOf]; omega
      · have hne : (cd != 0) = true := by simp [h0]
        have HC : Hid (checkE xs = (cd, (k : Int) + 1)) := by show _ = _; rw [checkE_bad (by rw [HL.out]; exact hlt) HOk.out (by rw [hcd]; exact h0), hcd]
        have HC0 : Hid (¬ cd = 0) := h0
        have R5 : Blk w5 z [.int .i64 0, .int .i64 0] 27 := HR1.out.later (by rw [HS1.out]; exact HB5.out)
        clear hcd h0
        go_wp2_with ((with_reducible refine wp_storeB 27 (.tmp 3) (.tmp 23) z 0 [.int .i64 cd, .int .i64 ((k : Int) + 1)] [.int .i64 0, .int .i64 0] 27 ?_ ?_ (by simp [Value.oneCell']) ?_ ?_ ?_ R5 ?_); (exact sizeF); (exact (show 0 + 2 ≤ 2 by decide)); (exact ⟨rfl, rfl⟩); (exact rfl); (exact rfl); (intro wx Rx ox); (replace Rx : Blk wx z [.int .i64 cd, .int .i64 ((k : Int) + 1)] 27 := Rx))
        refine ret_tblk rfl z [.int .i64 cd, .int .i64 ((k : Int) + 1)] 27 _ nilS Tryd.underlying27 rfl sizeF rfl Rx rfl rfl ?_
        refine ⟨nilS, by rw [HC.out], fun h => absurd (by rw [HC.out] at h; exact h) HC0.out, ?_⟩
        exact below_oth HW5.out ox (Nat.le_of_eq HZz.out) (Nat.le_of_eq HZz.out) HW5.out.size
    · obtain rfl : k = q := by omega
      have HC : Hid (checkE xs = (0, 0)) := checkE_ok (by rw [HL.out]; exact HOk.out)
      have k3 := HS.out.blk.cell 3 _ rfl
      have R5 : Blk wr z [.int .i64 0, .int .i64 0] 27 := HR1.out.later (by rw [HS1.out]; exact HB.out)
      go_wp2_with ((with_reducible refine wp_storeB 27 (.tmp 3) (.tmp 29) z 0 [.int .i64 0, .int .i64 0] [.int .i64 0, .int .i64 0] 27 ?_ ?_ (by simp [Value.oneCell']) ?_ ?_ ?_ R5 ?_); (exact sizeF); (exact (show 0 + 2 ≤ 2 by decide)); (exact ⟨rfl, rfl⟩); (exact rfl); (exact rfl); (intro wx Rx ox); (replace Rx : Blk wx z [.int .i64 0, .int .i64 0] 27 := Rx))
      refine ret_tblk rfl z [.int .i64 0, .int .i64 0] 27 _ ve Tryd.underlying27 rfl sizeF rfl Rx rfl rfl ?_
      refine ⟨ve, by rw [HC.out], fun _ => ?_, ?_⟩
      · rw [HL.out]
        exact OwnI.base (World.ownsRow.kept HS.out.ends ox.grown (.inr (R5.not_row (by decide) HS.out.ends).symm)) (by have := HZz.out; have := HMB.out; omega)
      · exact below_oth HW.out ox (Nat.le_of_eq HZz.out) (Nat.le_of_eq HZz.out) HW.out.size
set_option maxRecDepth 100000 in
set_option maxHeartbeats 4000000 in
theorem check_any (v : Value) (ys : List YE) (w : World) (hv : YSl w v ys) (hi : InL w ys) (hz : ∀ i, i < ys.length → SzE (ye ys i).1) (hk : ∀ i, i < ys.length → KV (ye ys i).1.c) (hl : ys.length ≤ 900000) (ht : Tb w) :
    Calls Tryd.prog 10 #[v] w fun e w' => e = .returned (.agg #[.int .i64 (checkE (ys.map (·.1))).1, .int .i64 (checkE (ys.map (·.1))).2]) ∧ Below w.heap.size w w' := by
  have HF : Hid (∀ w', Below w.heap.size w w' → Calls Tryd.prog 20 #[v] w' fun e w'' => RFol w' (ys.map (·.1)) e w'') := fun w' h => follow_any v ys w' (hv.later h) (hi.later h) hz hk hl (ht.later h)
  clear hv hi hz hk hl ht
  obtain ⟨z, hz⟩ : ∃ z, w.heap.size = z := ⟨_, rfl⟩
  have HZz : Hid (w.heap.size = z) := hz
  go_enter Tryd.func10, Tryd.ntmps10
  go_wp2_with fail
  have R1 : Blk (w.alloc (.cells #[.int .i64 0, .int .i64 0] 27)) w.heap.size [.int .i64 0, .int .i64 0] 27 := Blk.new w [.int .i64 0, .int .i64 0] 27
  have hb1 : Below w.heap.size w (w.alloc (.cells #[.int .i64 0, .int .i64 0] 27)) := below_more (Below.refl _ _) _
  rw [hz] at R1
  generalize w.alloc (.cells #[.int .i64 0, .int .i64 0] 27) = w1 at R1 hb1 ⊢
  clear hz
  refine (HF.out w1 hb1).mono ?_
  rintro e w2 ⟨vo, rfl, _, b2⟩
  have R2 : Blk w2 z [.int .i64 0, .int .i64 0] 27 := R1.later b2
  have HB2 : Hid (Below w.heap.size w w2) := below_next hb1 b2
  clear b2 R1 hb1
  obtain ⟨ck, hck⟩ : ∃ ck, checkE (ys.map (·.1)) = ck := ⟨_, rfl⟩
  have HCk : Hid (checkE (ys.map (·.1)) = ck) := hck
  rw [hck]
  clear hck
  have R5 : Blk (w2.alloc (.cells #[.int .i64 ck.1, .int .i64 ck.2] 27)) z [.int .i64 0, .int .i64 0] 27 := R2.alloc _
  have HB5 : Hid (Below w.heap.size w (w2.alloc (.cells #[.int .i64 ck.1, .int .i64 ck.2] 27))) := below_more HB2.out _
  go_wp2_with ((with_reducible refine wp_storeB 27 (.tmp 2) (.tmp 10) z 0 [.int .i64 ck.1, .int .i64 ck.2] [.int .i64 0, .int .i64 0] 27 ?_ ?_ (by simp [Value.oneCell']) ?_ ?_ ?_ R5 ?_); (exact sizeF); (exact (show 0 + 2 ≤ 2 by decide)); (exact ⟨rfl, rfl⟩); (exact rfl); (exact rfl); (intro wx Rx ox); (replace Rx : Blk wx z [.int .i64 ck.1, .int .i64 ck.2] 27 := Rx))
  refine ret_blk rfl z [.int .i64 ck.1, .int .i64 ck.2] 27 _ Tryd.underlying27 rfl sizeF rfl Rx rfl ?_
  exact ⟨by rw [HCk.out], below_oth HB5.out ox (Nat.le_of_eq HZz.out) (Nat.le_of_eq HZz.out) HB5.out.size⟩
end Go.Proofs.YtgdegbmakbfaaaaDoor
