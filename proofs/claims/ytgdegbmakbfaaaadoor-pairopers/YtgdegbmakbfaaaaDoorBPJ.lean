/- The contracts of clone and of an operation. Conditions: the history and the lists lie in memory; sizes as the contracts take. The contract of Opers. Conditions: the table and the history lie in memory; a client is a key; sizes as the contracts take. -/
import Derived.Test.YtgdegbmakbfaaaaDoorPV
import Derived.Test.YtgdegbmakbfaaaaDoorPR
import Derived.Test.YtgdegbmakbfaaaaDoorPH
namespace Go.Proofs.YtgdegbmakbfaaaaDoor
open Go.RowKit Go.PlainAid Ln
set_option linter.unusedVariables false
set_option linter.unusedSimpArgs false

/-- how a copy of a list ends -/
def RClo (w : World) (xs : List Val) (e : Ending) (w' : World) : Prop := ∃ u, e = .returned u ∧ OwnV w' w.heap.size u xs ∧ Below w.heap.size w w'
set_option maxRecDepth 100000 in
set_option maxHeartbeats 4000000 in
theorem clone_any (v : Value) (xs : List Val) (w : World) (hv : VSl w v xs) (hl : xs.length ≤ 1000000) :
    Calls Tryd.prog 31 #[v] w fun e w' => RClo w xs e w' := by
  have HV : Hid (VSl w v xs) := hv
  clear hv
  go_enter Tryd.func31, Tryd.ntmps31
  go_wp2_with (at_builtin; refine wpList_appendV rfl (.const (.slice none 0 0)) (.tmp 3) rfl w.heap.size (.slice none 0 0) [] rfl (OwnV.nil _ _) v xs rfl HV.out (by simpa using hl) (Nat.le_refl _) ?_; intro u w1 o1 g1 _; rw [List.nil_append] at o1; have HO : Hid (OwnV w1 w.heap.size u xs) := o1; have HB : Hid (Below w.heap.size w w1) := ⟨g1.os, g1.tape, g1.output, g1.size, fun k hk => g1.block k hk (by simp [Value.ownBlock])⟩; clear o1 g1)
  go_ret
  exact ⟨u, rfl, HO.out, HB.out⟩
theorem alloc_sizeO (w : World) (o : Obj) : (w.alloc o).heap.size = w.heap.size + 1 := by unfold World.alloc; exact Array.size_push ..
/-- a key's three cells among an event's -/
theorem evC_ky (x : Ev) (va vr : Value) : ∀ (j : Nat) (v : Value), (vls x.k.1 x.k.2.1 x.k.2.2)[j]? = some v → (evC x va vr)[6 + j]? = some v := by
  intro j v h
  rcases j with _ | _ | _ | j
  · exact h
  · exact h
  · exact h
  · exact absurd h (by simp [vls])
theorem sizeO : (Tryd.prog.info? 41).map (·.size) = some 12 := by kernel_rfl
theorem infoI2 : (Tryd.prog.info? 3).map (·.size) = some 1 := by kernel_rfl
theorem infoSV1 : (Tryd.prog.info? 39).map (·.size) = some 1 := by kernel_rfl
theorem noOp_one : ∀ v ∈ (opC noOp nilS nilS), v.oneCell' = true := opC_one noOp rfl rfl
/-- a function whose first result lies in a block, the second in a slot -/
theorem ret_blkt {P : Program} {fn : Func} {R : Ending → World → Prop} {a : Act} {w : World} {p u : Tmp} {ty : TypeId} (h : fn.results = #[.cell p ty, .tmp u]) (g : Nat) (c : List Value) (t : TypeId) (d : TypeDesc) (v : Value)
    (hu : P.underlying ty = some d) (hd : d.isRow = true) (hi : (P.info? ty).map (·.size) = some c.length)
    (hp : a.tmps.getD p undef = .pointer (some ⟨g, 0, none⟩)) (hr : Blk w g c t) (hv : a.tmps.getD u undef = v) (hdef : a.defers = []) (hR : R (.returned (.tuple #[.agg c.toArray, v])) w) : bodyPost P fn R .ret a w := by
  refine bodyPost_ret (v := .tuple #[.agg c.toArray, v]) ?_ hdef hR
  have hp' : a.tmps[p]?.getD undef = .pointer (some ⟨g, 0, none⟩) := by simpa using hp
  have hv' : a.tmps[u]?.getD undef = v := by simpa using hv
  have hl : (loadVar ty ⟨g, 0, none⟩).run P w = .ok (.agg c.toArray) w := by
    refine run_loadVar_row w g t ty c.toArray (0, 0) d hr hu ?_ (by simpa using hi)
    cases d <;> simp_all [TypeDesc.isRow]
  simp [results, h, hp', hv', asAddr, hl]
/-- how oper ends -/
def ROpr (w : World) (xs : List Ev) (n : Nat) (e : Ending) (w' : World) : Prop :=
  ∃ o va vr, e = .returned (.tuple #[.agg (opC o va vr).toArray, .bool (isOp xs n)]) ∧ (∃ a n c, va = .slice a n c) ∧ (∃ a n c, vr = .slice a n c) ∧ (isOp xs n = true → o = opOf xs n ∧ OwnV w' w.heap.size va o.a ∧ OwnV w' w.heap.size vr o.r) ∧ Below w.heap.size w w'
theorem isOp_of {xs : List Ev} {n : Nat} (hy : (ev xs n).y = 1) : isOp xs n = !decide (nty xs n = 3) := by unfold isOp; rw [decide_eq_true hy]; rfl
def sndO : Code → Code
  | .seq _ b => b
  | c => c
set_option maxRecDepth 100000 in
set_option maxHeartbeats 16000000 in
theorem oper_tail (ys : List YE) (xs : List Ev) (X : Ev) (w wz : World) (va : Value) (b o q c n z pe po : Nat) (E : Int) (u3 u4 u5 u10 u11 u12 u13 u14 u15 u16 u17 u18 u19 u20 u21 u22 u23 u24 u25 u26 u27 u28 u29 u30 u31 u32 u33 u34 u35 u36 u37 u38 u39 u40 u41 u42 u43 u44 u45 u46 u47 u48 : Value) (hxs : ys.map (·.1) = xs) (hh : Hst w b o q c ys) (hn : n < q) (hx : ev xs n = X) (hy : X.y = 1) (hE : nxt xs n = E)
    (hz : z = w.heap.size) (hpo : w.heap.size ≤ po) (hne : z ≠ po) (B1 : Blk wz z (opC noOp nilS nilS) 41) (B2 : Blk wz po (opC ⟨X.c, X.m, X.k, X.o, X.a, [], (n : Int), -1⟩ va nilS) 41) (hva : OwnV wz w.heap.size va X.a) (hB : Below w.heap.size w wz) :
    Code.wp Tryd.prog (sndO (sndO (sndO (Tryd.f22.body.getD .skip)))) (bodyPost Tryd.prog Tryd.f22 fun e w' => ROpr w xs n e w') ⟨#[.slice (some ⟨b, o, none⟩) q c, .int .i64 (n : Int), .int .i64 E, u3, u4, u5, .pointer (some ⟨z, 0, none⟩), .bool false, .pointer (some ⟨pe, 0, none⟩), .pointer (some ⟨po, 0, none⟩), u10, u11, u12, u13, u14, u15, u16, u17, u18, u19, u20, u21, u22, u23, u24, u25, u26, u27, u28, u29, u30, u31, u32, u33, u34, u35, u36, u37, u38, u39, u40, u41, u42, u43, u44, u45, u46, u47, u48], []⟩ wz := by
  have hva1 : va.oneCell' = true := by obtain ⟨a, c, h⟩ := hva.form; rw [h]; rfl
  obtain ⟨aa, ca, rfl⟩ := hva.form
  have HB : Hid (Below w.heap.size w wz) := hB
  have HVa : Hid (OwnV wz w.heap.size (.slice aa X.a.length ca) X.a) := hva
  have HX : Hid (ev xs n = X) := hx
  have HY : Hid ((ev xs n).y = 1) := by show _ = _; rw [hx]; exact hy
  have HPo : Hid (w.heap.size ≤ po) := hpo
  have HZ : Hid (z = w.heap.size) := hz
  have HNe : Hid (z ≠ po) := hne
  have HB1 : Hid (Blk wz z (opC noOp nilS nilS) 41) := B1
  have HB2 : Hid (Blk wz po (opC ⟨X.c, X.m, X.k, X.o, X.a, [], (n : Int), -1⟩ (.slice aa X.a.length ca) nilS) 41) := B2
  have hlo := nxt_lo xs n (by rw [← hxs, List.length_map, hh.len]; exact hn)
  rw [hE] at hlo
  have HEE : Hid (nxt xs n = E) := hE
  have HH : Hid (Hst w b o q c ys) := hh
  have HXs : Hid (ys.map (·.1) = xs) := hxs
  have hq := hh.few
  have hqc := hh.le
  have hct := hh.top
  clear hxs hh hx hy hE hz hpo hne B1 B2 hva hB hva1
  rcases hlo with ⟨rfl, _⟩ | ⟨k, rfl, hk1, hk2, _⟩
  · have HTy : Hid (nty xs n = 0) := by show _ = _; unfold nty; rw [HEE.out]; rfl
    unfold Tryd.f22
    dsimp only [sndO, Option.getD]
    go_wp2_with (first
      | ((with_reducible refine wpList_load_mid ?_ 41 (.tmp 9) ?_ po 0 ?_ (opC ⟨X.c, X.m, X.k, X.o, X.a, [], (n : Int), -1⟩ (.slice aa X.a.length ca) nilS) _ (Blk.all HB2.out) Tryd.underlying41 ?_ ?_ ?_); (exact rfl); (exact rfl); (exact rfl); (exact rfl); (exact sizeO))
      | ((with_reducible refine wp_storeB 41 (.tmp 6) (.tmp 30) z 0 (opC ⟨X.c, X.m, X.k, X.o, X.a, [], (n : Int), -1⟩ (.slice aa X.a.length ca) nilS) (opC noOp nilS nilS) 41 ?_ ?_ (opC_one _ rfl rfl) ?_ ?_ ?_ HB1.out ?_); (exact sizeO); (exact (show 0 + 12 ≤ 12 by decide)); (exact ⟨rfl, rfl⟩); (exact rfl); (exact rfl); (intro wx Rx ox); (replace Rx : Blk wx z (opC ⟨X.c, X.m, X.k, X.o, X.a, [], (n : Int), -1⟩ (.slice aa X.a.length ca) nilS) 41 := Rx)))
    refine ret_blkt rfl z (opC ⟨X.c, X.m, X.k, X.o, X.a, [], (n : Int), -1⟩ (.slice aa X.a.length ca) nilS) 41 _ (.bool true) Tryd.underlying41 rfl sizeO rfl Rx rfl rfl ?_
    refine ⟨_, _, _, by rw [isOp_of HY.out, HTy.out]; rfl, ⟨_, _, _, rfl⟩, ⟨_, _, _, rfl⟩, fun _ => ⟨?_, HVa.out.oth ox HB1.out (by decide), OwnV.nil _ _⟩, below_oth HB.out ox (Nat.le_of_eq HZ.out.symm) (Nat.le_of_eq HZ.out.symm) HB.out.size⟩
    rw [opOf_n (by rw [HTy.out]; decide), HX.out]
  · have hkq : k < q := by rw [← HXs.out, List.length_map, HH.out.len] at hk2; exact hk2
    have hkq' : (k : Int) < (q : Int) := by omega
    have hk0 : (0 : Int) ≤ (k : Int) := by omega
    have hkm : ((k : Int) == -1) = false := by simp
    have hrk := HH.out.row k hkq
    have hik := HH.out.inl k (by rw [HH.out.len]; exact hkq)
    have hzk := HH.out.sz k hkq
    have hek := ev_ye ys k
    rw [HXs.out] at hek
    rcases hyk : ye ys k with ⟨Y, ya, yr⟩
    rw [hyk] at hrk hik hzk hek
    obtain ⟨ay, cy, rfl⟩ : ∃ a c, ya = .slice a Y.a.length c := by obtain ⟨a, c, h, _⟩ := hik.1; exact ⟨a, c, h⟩
    obtain ⟨az, cz, rfl⟩ : ∃ a c, yr = .slice a Y.r.length c := by obtain ⟨a, c, h, _⟩ := hik.2; exact ⟨a, c, h⟩
    have HTy : Hid (nty xs n = Y.y) := by show _ = _; unfold nty; rw [HEE.out, if_pos (by omega), Int.toNat_natCast, hek]
    have HEk : Hid (ev xs k = Y) := hek
    have HRk : Hid (wz.rangeAt b (o + k * 14) (evC Y (.slice ay Y.a.length cy) (.slice az Y.r.length cz))) := fun j u hj => (HB.out.cell (p := ⟨b, o + k * 14 + j, none⟩) HH.out.lt).trans (hrk j u hj)
    have HVk : Hid (VSl w (.slice az Y.r.length cz) Y.r) := hik.2
    have HZk : Hid (SzE Y) := hzk
    clear hk1 hk2 hkq hrk hik hzk hek hyk
    have HB9 : Hid (Below w.heap.size w (wz.alloc (.cells #[.int .i64 Y.t, .int .i64 Y.c.1, .int .i64 Y.c.2.1, .string Y.c.2.2, .int .i64 Y.y, .int .i64 Y.m, .int .i64 Y.k.1, .int .i64 Y.k.2.1, .string Y.k.2.2, .int .i64 Y.o, .slice ay Y.a.length cy, .slice az Y.r.length cz, .bool Y.nd, .string Y.n] 47))) := below_more HB.out _
    have HB9z : Hid (Blk (wz.alloc (.cells #[.int .i64 Y.t, .int .i64 Y.c.1, .int .i64 Y.c.2.1, .string Y.c.2.2, .int .i64 Y.y, .int .i64 Y.m, .int .i64 Y.k.1, .int .i64 Y.k.2.1, .string Y.k.2.2, .int .i64 Y.o, .slice ay Y.a.length cy, .slice az Y.r.length cz, .bool Y.nd, .string Y.n] 47)) z (opC noOp nilS nilS) 41) := HB1.out.alloc _
    have HB9o : Hid (Blk (wz.alloc (.cells #[.int .i64 Y.t, .int .i64 Y.c.1, .int .i64 Y.c.2.1, .string Y.c.2.2, .int .i64 Y.y, .int .i64 Y.m, .int .i64 Y.k.1, .int .i64 Y.k.2.1, .string Y.k.2.2, .int .i64 Y.o, .slice ay Y.a.length cy, .slice az Y.r.length cz, .bool Y.nd, .string Y.n] 47)) po (opC ⟨X.c, X.m, X.k, X.o, X.a, [], (n : Int), -1⟩ (.slice aa X.a.length ca) nilS) 41) := HB2.out.alloc _
    have HVa9 : Hid (OwnV (wz.alloc (.cells #[.int .i64 Y.t, .int .i64 Y.c.1, .int .i64 Y.c.2.1, .string Y.c.2.2, .int .i64 Y.y, .int .i64 Y.m, .int .i64 Y.k.1, .int .i64 Y.k.2.1, .string Y.k.2.2, .int .i64 Y.o, .slice ay Y.a.length cy, .slice az Y.r.length cz, .bool Y.nd, .string Y.n] 47)) w.heap.size (.slice aa X.a.length ca) X.a) := HVa.out.later (below_more (Below.refl _ _) _)
    have HVk9 : Hid (VSl (wz.alloc (.cells #[.int .i64 Y.t, .int .i64 Y.c.1, .int .i64 Y.c.2.1, .string Y.c.2.2, .int .i64 Y.y, .int .i64 Y.m, .int .i64 Y.k.1, .int .i64 Y.k.2.1, .string Y.k.2.2, .int .i64 Y.o, .slice ay Y.a.length cy, .slice az Y.r.length cz, .bool Y.nd, .string Y.n] 47)) (.slice az Y.r.length cz) Y.r) := HVk.out.later HB9.out
    by_cases y3 : Y.y = 3
    · have e3 : (Y.y == 3) = true := by simp [y3]
      rw [y3] at HTy
      clear y3
      unfold Tryd.f22
      dsimp only [sndO, Option.getD]
      go_wp2_with (first
        | ((with_reducible refine wpList_load_mid ?_ 47 (.tmp 33) ?_ b (o + k * 14) ?_ (evC Y (.slice ay Y.a.length cy) (.slice az Y.r.length cz)) _ HRk.out Tryd.underlying47 ?_ ?_ ?_); (exact rfl); (exact rfl); (exact rfl); (exact rfl); (exact sizeE); (simp only [evC]))
        | ((with_reducible refine wp_storeB 41 (.tmp 6) (.tmp 39) z 0 (opC noOp nilS nilS) (opC noOp nilS nilS) 41 ?_ ?_ noOp_one ?_ ?_ ?_ HB9z.out ?_); (exact sizeO); (exact (show 0 + 12 ≤ 12 by decide)); (exact ⟨rfl, rfl⟩); (exact rfl); (exact rfl); (intro wx Rx ox); (replace Rx : Blk wx z (opC noOp nilS nilS) 41 := Rx)))
      refine ret_blkt rfl z (opC noOp nilS nilS) 41 _ (.bool false) Tryd.underlying41 rfl sizeO rfl Rx rfl rfl ?_
      refine ⟨_, _, _, by rw [isOp_of HY.out, HTy.out]; rfl, ⟨_, _, _, rfl⟩, ⟨_, _, _, rfl⟩, fun h => ?_, below_oth HB9.out ox (Nat.le_of_eq HZ.out.symm) (Nat.le_of_eq HZ.out.symm) HB9.out.size⟩
      rw [isOp_of HY.out, HTy.out] at h; cases h
    · have e3 : (Y.y == 3) = false := by simp [y3]
      have HOp : Hid (isOp xs n = true) := by show _ = _; rw [isOp_of HY.out, HTy.out, decide_eq_false y3]; rfl
      by_cases y2 : Y.y = 2
      · have e2 : (Y.y == 2) = true := by simp [y2]
        rw [y2] at HTy
        clear y2 y3
        unfold Tryd.f22
        dsimp only [sndO, Option.getD]
        go_wp2_with ((with_reducible refine wpList_load_mid ?_ 47 (.tmp 33) ?_ b (o + k * 14) ?_ (evC Y (.slice ay Y.a.length cy) (.slice az Y.r.length cz)) _ HRk.out Tryd.underlying47 ?_ ?_ ?_); (exact rfl); (exact rfl); (exact rfl); (exact rfl); (exact sizeE); (simp only [evC]))
        refine (clone_any _ Y.r _ HVk9.out HZk.out.2.2.2.2.2).mono ?_
        rintro e w5 ⟨u, rfl, ho, hb⟩
        have hu1 : u.oneCell' = true := by obtain ⟨a, c, h⟩ := ho.form; rw [h]; rfl
        obtain ⟨au, cu, rfl⟩ := ho.form
        have HU5 : Hid (OwnV w5 w.heap.size (.slice au Y.r.length cu) Y.r) := ho.base HB9.out.size
        have HB5 : Hid (Below w.heap.size w w5) := below_next HB9.out hb
        have HB5z : Hid (Blk w5 z (opC noOp nilS nilS) 41) := HB9z.out.later hb
        have HB5o : Hid (Blk w5 po (opC ⟨X.c, X.m, X.k, X.o, X.a, [], (n : Int), -1⟩ (.slice aa X.a.length ca) nilS) 41) := HB9o.out.later hb
        have HVa5 : Hid (OwnV w5 w.heap.size (.slice aa X.a.length ca) X.a) := HVa9.out.later hb
        clear ho hb hu1
        go_wp2_with (first
          | ((with_reducible refine wp_storeC 3 (.tmp 46) (.tmp 42) po 11 (.int .i64 (k : Int)) (opC ⟨X.c, X.m, X.k, X.o, X.a, [], (n : Int), -1⟩ (.slice aa X.a.length ca) nilS) 41 infoI2 ?_ ?_ ?_ ?_ ?_ ?_ HB5o.out ?_); (exact (show 11 < 12 by decide)); (exact rfl); (exact rfl); (exact ⟨rfl, rfl⟩); (exact rfl); (exact rfl); (intro w6 D o6); (have HB6o : Hid (Blk w6 po (opC ⟨X.c, X.m, X.k, X.o, X.a, [], (n : Int), (k : Int)⟩ (.slice aa X.a.length ca) nilS) 41) := D); (have HB6z : Hid (Blk w6 z (opC noOp nilS nilS) 41) := HB5z.out.oth o6 HNe.out HNe.out); (have HB6 : Hid (Below w.heap.size w w6) := below_oth HB5.out o6 HPo.out HPo.out HB5.out.size); (have HVa6 : Hid (OwnV w6 w.heap.size (.slice aa X.a.length ca) X.a) := HVa5.out.oth o6 HB5o.out (by decide)); (have HU6 : Hid (OwnV w6 w.heap.size (.slice au Y.r.length cu) Y.r) := HU5.out.oth o6 HB5o.out (by decide)); (clear D o6))
          | ((with_reducible refine wp_storeC 39 (.tmp 47) (.tmp 45) po 9 (.slice au Y.r.length cu) (opC ⟨X.c, X.m, X.k, X.o, X.a, [], (n : Int), (k : Int)⟩ (.slice aa X.a.length ca) nilS) 41 infoSV1 ?_ ?_ ?_ ?_ ?_ ?_ HB6o.out ?_); (exact (show 9 < 12 by decide)); (exact rfl); (exact rfl); (exact ⟨rfl, rfl⟩); (exact rfl); (exact rfl); (intro w7 D o6); (have HB7o : Hid (Blk w7 po (opC ⟨X.c, X.m, X.k, X.o, X.a, Y.r, (n : Int), (k : Int)⟩ (.slice aa X.a.length ca) (.slice au Y.r.length cu)) 41) := D); (have HB7z : Hid (Blk w7 z (opC noOp nilS nilS) 41) := HB6z.out.oth o6 HNe.out HNe.out); (have HB7 : Hid (Below w.heap.size w w7) := below_oth HB6.out o6 HPo.out HPo.out HB6.out.size); (have HVa7 : Hid (OwnV w7 w.heap.size (.slice aa X.a.length ca) X.a) := HVa6.out.oth o6 HB6o.out (by decide)); (have HU7 : Hid (OwnV w7 w.heap.size (.slice au Y.r.length cu) Y.r) := HU6.out.oth o6 HB6o.out (by decide)); (clear D o6))
          | ((with_reducible refine wpList_load_mid ?_ 41 (.tmp 9) ?_ po 0 ?_ (opC ⟨X.c, X.m, X.k, X.o, X.a, Y.r, (n : Int), (k : Int)⟩ (.slice aa X.a.length ca) (.slice au Y.r.length cu)) _ (Blk.all HB7o.out) Tryd.underlying41 ?_ ?_ ?_); (exact rfl); (exact rfl); (exact rfl); (exact rfl); (exact sizeO))
          | ((with_reducible refine wp_storeB 41 (.tmp 6) (.tmp 48) z 0 (opC ⟨X.c, X.m, X.k, X.o, X.a, Y.r, (n : Int), (k : Int)⟩ (.slice aa X.a.length ca) (.slice au Y.r.length cu)) (opC noOp nilS nilS) 41 ?_ ?_ (opC_one _ rfl rfl) ?_ ?_ ?_ HB7z.out ?_); (exact sizeO); (exact (show 0 + 12 ≤ 12 by decide)); (exact ⟨rfl, rfl⟩); (exact rfl); (exact rfl); (intro wx Rx ox); (replace Rx : Blk wx z (opC ⟨X.c, X.m, X.k, X.o, X.a, Y.r, (n : Int), (k : Int)⟩ (.slice aa X.a.length ca) (.slice au Y.r.length cu)) 41 := Rx)))
        refine ret_blkt rfl z (opC ⟨X.c, X.m, X.k, X.o, X.a, Y.r, (n : Int), (k : Int)⟩ (.slice aa X.a.length ca) (.slice au Y.r.length cu)) 41 _ (.bool true) Tryd.underlying41 rfl sizeO rfl Rx rfl rfl ?_
        refine ⟨_, _, _, by rw [HOp.out], ⟨_, _, _, rfl⟩, ⟨_, _, _, rfl⟩, fun _ => ⟨?_, HVa7.out.oth ox HB7z.out (by decide), HU7.out.oth ox HB7z.out (by decide)⟩, below_oth HB7.out ox (Nat.le_of_eq HZ.out.symm) (Nat.le_of_eq HZ.out.symm) HB7.out.size⟩
        rw [opOf_2 HTy.out, HX.out, HEE.out, Int.toNat_natCast, HEk.out]
      · have e2 : (Y.y == 2) = false := by simp [y2]
        have HT2 : Hid (¬ nty xs n = 2) := by show ¬ _; rw [HTy.out]; exact y2
        clear y2 y3
        unfold Tryd.f22
        dsimp only [sndO, Option.getD]
        go_wp2_with (first
          | ((with_reducible refine wpList_load_mid ?_ 47 (.tmp 33) ?_ b (o + k * 14) ?_ (evC Y (.slice ay Y.a.length cy) (.slice az Y.r.length cz)) _ HRk.out Tryd.underlying47 ?_ ?_ ?_); (exact rfl); (exact rfl); (exact rfl); (exact rfl); (exact sizeE); (simp only [evC]))
          | ((with_reducible refine wpList_load_mid ?_ 41 (.tmp 9) ?_ po 0 ?_ (opC ⟨X.c, X.m, X.k, X.o, X.a, [], (n : Int), -1⟩ (.slice aa X.a.length ca) nilS) _ (Blk.all HB9o.out) Tryd.underlying41 ?_ ?_ ?_); (exact rfl); (exact rfl); (exact rfl); (exact rfl); (exact sizeO))
          | ((with_reducible refine wp_storeB 41 (.tmp 6) (.tmp 48) z 0 (opC ⟨X.c, X.m, X.k, X.o, X.a, [], (n : Int), -1⟩ (.slice aa X.a.length ca) nilS) (opC noOp nilS nilS) 41 ?_ ?_ (opC_one _ rfl rfl) ?_ ?_ ?_ HB9z.out ?_); (exact sizeO); (exact (show 0 + 12 ≤ 12 by decide)); (exact ⟨rfl, rfl⟩); (exact rfl); (exact rfl); (intro wx Rx ox); (replace Rx : Blk wx z (opC ⟨X.c, X.m, X.k, X.o, X.a, [], (n : Int), -1⟩ (.slice aa X.a.length ca) nilS) 41 := Rx)))
        refine ret_blkt rfl z (opC ⟨X.c, X.m, X.k, X.o, X.a, [], (n : Int), -1⟩ (.slice aa X.a.length ca) nilS) 41 _ (.bool true) Tryd.underlying41 rfl sizeO rfl Rx rfl rfl ?_
        refine ⟨_, _, _, by rw [HOp.out], ⟨_, _, _, rfl⟩, ⟨_, _, _, rfl⟩, fun _ => ⟨?_, HVa9.out.oth ox HB9z.out (by decide), OwnV.nil _ _⟩, below_oth HB9.out ox (Nat.le_of_eq HZ.out.symm) (Nat.le_of_eq HZ.out.symm) HB9.out.size⟩
        rw [opOf_n HT2.out, HX.out]
set_option maxRecDepth 100000 in
set_option maxHeartbeats 16000000 in
theorem oper_any (ys : List YE) (xs : List Ev) (w : World) (b o q c n : Nat) (E : Int) (hxs : ys.map (·.1) = xs) (hh : Hst w b o q c ys) (hn : n < q) (hy : (ev xs n).y = 1) (hE : nxt xs n = E) :
    Calls Tryd.prog 22 #[.slice (some ⟨b, o, none⟩) q c, .int .i64 (n : Int), .int .i64 E] w fun e w' => ROpr w xs n e w' := by
  have mixed : Tryd.prog.follows .mixedOrders = true := by kernel_rfl
  have hnq : (n : Int) < (q : Int) := by have := hn; omega
  have hn0 : (0 : Int) ≤ (n : Int) := by omega
  have hq := hh.few
  have hqc := hh.le
  have hct := hh.top
  have hrn := hh.row n hn
  have hin := hh.inl n (by rw [hh.len]; exact hn)
  have hzn := hh.sz n hn
  have hex := ev_ye ys n
  rw [hxs] at hex
  rcases hye : ye ys n with ⟨X, va, vr⟩
  rw [hye] at hrn hin hzn hex
  obtain ⟨av, cv, rfl⟩ : ∃ a c, va = .slice a X.a.length c := by obtain ⟨a, c, h, _⟩ := hin.1; exact ⟨a, c, h⟩
  obtain ⟨ar, cr, rfl⟩ : ∃ a c, vr = .slice a X.r.length c := by obtain ⟨a, c, h, _⟩ := hin.2; exact ⟨a, c, h⟩
  have HH : Hid (Hst w b o q c ys) := hh
  have HXs : Hid (ys.map (·.1) = xs) := hxs
  have HX : Hid (ev xs n = X) := hex
  have HY : Hid (X.y = 1) := by have h := hy; rw [hex] at h; exact h
  have HE : Hid (nxt xs n = E) := hE
  have HVa : Hid (VSl w (.slice av X.a.length cv) X.a) := hin.1
  have HLa : Hid (X.a.length ≤ 1000000) := hzn.2.2.2.2.1
  have HR1 : Hid ((w.alloc (.cells #[.int .i64 0, .int .i64 0, .string ⟨#[]⟩, .int .i64 0, .int .i64 0, .int .i64 0, .string ⟨#[]⟩, .int .i64 0, .slice none 0 0, .slice none 0 0, .int .i64 0, .int .i64 0] 41)).rangeAt b (o + n * 14) (evC X (.slice av X.a.length cv) (.slice ar X.r.length cr))) := fun j u hj => ((below_more (Below.refl w.heap.size w) _).cell (p := ⟨b, o + n * 14 + j, none⟩) hh.lt).trans (hrn j u hj)
  have B1 : Blk (w.alloc (.cells #[.int .i64 0, .int .i64 0, .string ⟨#[]⟩, .int .i64 0, .int .i64 0, .int .i64 0, .string ⟨#[]⟩, .int .i64 0, .slice none 0 0, .slice none 0 0, .int .i64 0, .int .i64 0] 41)) w.heap.size (opC noOp nilS nilS) 41 := Blk.new w (opC noOp nilS nilS) 41
  have hb1 : Below w.heap.size w (w.alloc (.cells #[.int .i64 0, .int .i64 0, .string ⟨#[]⟩, .int .i64 0, .int .i64 0, .int .i64 0, .string ⟨#[]⟩, .int .i64 0, .slice none 0 0, .slice none 0 0, .int .i64 0, .int .i64 0] 41)) := below_more (Below.refl _ _) _
  obtain ⟨z, hz⟩ : ∃ z, w.heap.size = z := ⟨_, rfl⟩
  have HZ : Hid (w.heap.size = z) := hz
  rw [hz] at B1
  have HB1 : Hid (Blk (w.alloc (.cells #[.int .i64 0, .int .i64 0, .string ⟨#[]⟩, .int .i64 0, .int .i64 0, .int .i64 0, .string ⟨#[]⟩, .int .i64 0, .slice none 0 0, .slice none 0 0, .int .i64 0, .int .i64 0] 41)) z (opC noOp nilS nilS) 41) := B1
  have Hb1 : Hid (Below w.heap.size w (w.alloc (.cells #[.int .i64 0, .int .i64 0, .string ⟨#[]⟩, .int .i64 0, .int .i64 0, .int .i64 0, .string ⟨#[]⟩, .int .i64 0, .slice none 0 0, .slice none 0 0, .int .i64 0, .int .i64 0] 41))) := hb1
  clear hh hxs hex hy hE hin hzn hrn hye B1 hb1
  go_enter Tryd.func22, Tryd.ntmps22
  go_wp2_with ((with_reducible refine wpList_load_mid ?_ 47 (.tmp 13) ?_ b (o + n * 14) ?_ (evC X (.slice av X.a.length cv) (.slice ar X.r.length cr)) _ HR1.out Tryd.underlying47 ?_ ?_ ?_); (exact rfl); (exact rfl); (exact rfl); (exact rfl); (exact sizeE); (simp only [evC]))
  rename_i K hKK
  have B3 := Blk.new (w.alloc (.cells #[.int .i64 0, .int .i64 0, .string ⟨#[]⟩, .int .i64 0, .int .i64 0, .int .i64 0, .string ⟨#[]⟩, .int .i64 0, .slice none 0 0, .slice none 0 0, .int .i64 0, .int .i64 0] 41)) (evC X (.slice av X.a.length cv) (.slice ar X.r.length cr)) 47
  rw [alloc_sizeO w, hz] at B3
  change Blk ((w.alloc (.cells #[.int .i64 0, .int .i64 0, .string ⟨#[]⟩, .int .i64 0, .int .i64 0, .int .i64 0, .string ⟨#[]⟩, .int .i64 0, .slice none 0 0, .slice none 0 0, .int .i64 0, .int .i64 0] 41)).alloc (.cells #[.int .i64 X.t, .int .i64 X.c.1, .int .i64 X.c.2.1, .string X.c.2.2, .int .i64 X.y, .int .i64 X.m, .int .i64 X.k.1, .int .i64 X.k.2.1, .string X.k.2.2, .int .i64 X.o, .slice av X.a.length cv, .slice ar X.r.length cr, .bool X.nd, .string X.n] 47)) _ _ _ at B3
  have HBz := HB1.out.alloc (.cells #[.int .i64 X.t, .int .i64 X.c.1, .int .i64 X.c.2.1, .string X.c.2.2, .int .i64 X.y, .int .i64 X.m, .int .i64 X.k.1, .int .i64 X.k.2.1, .string X.k.2.2, .int .i64 X.o, .slice av X.a.length cv, .slice ar X.r.length cr, .bool X.nd, .string X.n] 47)
  have hb3 := below_more Hb1.out (.cells #[.int .i64 X.t, .int .i64 X.c.1, .int .i64 X.c.2.1, .string X.c.2.2, .int .i64 X.y, .int .i64 X.m, .int .i64 X.k.1, .int .i64 X.k.2.1, .string X.k.2.2, .int .i64 X.o, .slice av X.a.length cv, .slice ar X.r.length cr, .bool X.nd, .string X.n] 47)
  clear HR1 HB1 Hb1 hz
  generalize (w.alloc (.cells #[.int .i64 0, .int .i64 0, .string ⟨#[]⟩, .int .i64 0, .int .i64 0, .int .i64 0, .string ⟨#[]⟩, .int .i64 0, .slice none 0 0, .slice none 0 0, .int .i64 0, .int .i64 0] 41)).alloc (.cells #[.int .i64 X.t, .int .i64 X.c.1, .int .i64 X.c.2.1, .string X.c.2.2, .int .i64 X.y, .int .i64 X.m, .int .i64 X.k.1, .int .i64 X.k.2.1, .string X.k.2.2, .int .i64 X.o, .slice av X.a.length cv, .slice ar X.r.length cr, .bool X.nd, .string X.n] 47) = w3 at B3 HBz hb3 ⊢
  have HW : Below w.heap.size w { w3 with drawn := w3.drawn + 1 } := ⟨hb3.os, hb3.tape, hb3.output, hb3.size, hb3.block⟩
  have HS : Blk { w3 with drawn := w3.drawn + 1 } z (opC noOp nilS nilS) 41 ∧ Blk { w3 with drawn := w3.drawn + 1 } (z + 1) (evC X (.slice av X.a.length cv) (.slice ar X.r.length cr)) 47 := ⟨HBz, B3⟩
  have HSE : Hid (∀ wx : World, Blk wx (z + 1) (evC X (.slice av X.a.length cv) (.slice ar X.r.length cr)) 47 → wx.rangeAt (z + 1) 1 (vls X.c.1 X.c.2.1 X.c.2.2) ∧ wx.rangeAt (z + 1) 6 (vls X.k.1 X.k.2.1 X.k.2.2)) := fun wx hx => ⟨hx.range 1 _ (evC_cl X (.slice av X.a.length cv) (.slice ar X.r.length cr)), hx.range 6 _ (evC_ky X (.slice av X.a.length cv) (.slice ar X.r.length cr))⟩
  refine wp_region_held (S := fun wx => Blk wx z (opC noOp nilS nilS) 41 ∧ Blk wx (z + 1) (evC X (.slice av X.a.length cv) (.slice ar X.r.length cr)) 47) mixed ?_
  generalize ({ w3 with drawn := w3.drawn + 1 } : World) = n0 at HW HS ⊢
  clear B3 HBz hb3
  refine takeH 0 15 (.pointer (some ⟨z + 1, 1, none⟩)) rfl rfl (by kernel_rfl) (by kernel_rfl) (by kernel_rfl) (fun c a w h => h) (.inl ⟨rfl, fun w _ => by go_simp⟩) HS ?_
  simp only [List.setIfInBounds_toArray, List.set_cons_zero, List.set_cons_succ]
  refine takeH 1 16 (.agg #[.int .i64 X.c.1, .int .i64 X.c.2.1, .string X.c.2.2]) rfl rfl (by kernel_rfl) (by kernel_rfl) (by kernel_rfl) (fun c a w h => h) (yieldsIf_load_mid rfl 38 (.tmp 15) rfl (z + 1) 1 rfl (vls X.c.1 X.c.2.1 X.c.2.2) _ (fun wx hx => (HSE.out wx hx.2).1) Tryd.underlying38 rfl sizeV) HS ?_
  simp only [List.setIfInBounds_toArray, List.set_cons_zero, List.set_cons_succ]
  refine takeH 2 17 (.pointer (some ⟨z + 1, 5, none⟩)) rfl rfl (by kernel_rfl) (by kernel_rfl) (by kernel_rfl) (fun c a w h => h) (.inl ⟨rfl, fun w _ => by go_simp⟩) HS ?_
  simp only [List.setIfInBounds_toArray, List.set_cons_zero, List.set_cons_succ]
  refine takeH 3 18 (.int .i64 X.m) rfl rfl (by kernel_rfl) (by kernel_rfl) (by kernel_rfl) (fun c a w h => h) (.inl ⟨rfl, fun wx hx => by have c := hx.2.cell 5 _ rfl; go_simp⟩) HS ?_
  simp only [List.setIfInBounds_toArray, List.set_cons_zero, List.set_cons_succ]
  refine takeH 4 19 (.pointer (some ⟨z + 1, 6, none⟩)) rfl rfl (by kernel_rfl) (by kernel_rfl) (by kernel_rfl) (fun c a w h => h) (.inl ⟨rfl, fun w _ => by go_simp⟩) HS ?_
  simp only [List.setIfInBounds_toArray, List.set_cons_zero, List.set_cons_succ]
  refine takeH 5 20 (.agg #[.int .i64 X.k.1, .int .i64 X.k.2.1, .string X.k.2.2]) rfl rfl (by kernel_rfl) (by kernel_rfl) (by kernel_rfl) (fun c a w h => h) (yieldsIf_load_mid rfl 38 (.tmp 19) rfl (z + 1) 6 rfl (vls X.k.1 X.k.2.1 X.k.2.2) _ (fun wx hx => (HSE.out wx hx.2).2) Tryd.underlying38 rfl sizeV) HS ?_
  simp only [List.setIfInBounds_toArray, List.set_cons_zero, List.set_cons_succ]
  refine takeH 6 21 (.pointer (some ⟨z + 1, 9, none⟩)) rfl rfl (by kernel_rfl) (by kernel_rfl) (by kernel_rfl) (fun c a w h => h) (.inl ⟨rfl, fun w _ => by go_simp⟩) HS ?_
  simp only [List.setIfInBounds_toArray, List.set_cons_zero, List.set_cons_succ]
  refine takeH 7 22 (.int .i64 X.o) rfl rfl (by kernel_rfl) (by kernel_rfl) (by kernel_rfl) (fun c a w h => h) (.inl ⟨rfl, fun wx hx => by have c := hx.2.cell 9 _ rfl; go_simp⟩) HS ?_
  simp only [List.setIfInBounds_toArray, List.set_cons_zero, List.set_cons_succ]
  refine takeH 8 23 (.pointer (some ⟨z + 1, 10, none⟩)) rfl rfl (by kernel_rfl) (by kernel_rfl) (by kernel_rfl) (fun c a w h => h) (.inl ⟨rfl, fun w _ => by go_simp⟩) HS ?_
  simp only [List.setIfInBounds_toArray, List.set_cons_zero, List.set_cons_succ]
  refine takeH 9 24 ((.slice av X.a.length cv)) rfl rfl (by kernel_rfl) (by kernel_rfl) (by kernel_rfl) (fun c a w h => h) (.inl ⟨rfl, fun wx hx => by have c := hx.2.cell 10 _ rfl; go_simp⟩) HS ?_
  simp only [List.setIfInBounds_toArray, List.set_cons_zero, List.set_cons_succ]
  refine takeH 11 26 (.int .i64 (n : Int)) rfl rfl (by kernel_rfl) (by kernel_rfl) (by kernel_rfl) (fun c a w h => h) (.inl ⟨rfl, fun w _ => rfl⟩) HS ?_
  simp only [List.setIfInBounds_toArray, List.set_cons_zero, List.set_cons_succ]
  refine wpAnyH_all (rs := [10, 13]) (by kernel_rfl) (by simp) (fun i hi => ?_)
  simp only [List.mem_cons, List.not_mem_nil, or_false] at hi
  rcases hi with rfl | rfl
  · refine wpOp_doG 10 (by rfl) (by rfl) ?_
    go_wp2_with fail
    refine (clone_any (.slice av X.a.length cv) X.a n0 (HVa.out.later HW) HLa.out).mono ?_
    rintro e q1 ⟨u, rfl, hoo, hb⟩
    have HO : OwnV q1 w.heap.size u X.a := hoo.base HW.size
    clear hoo
    obtain ⟨au, cu, rfl⟩ := HO.form
    refine ⟨⟨HS.1.later hb, HS.2.later hb⟩, ?_⟩
    replace HS := And.intro (HS.1.later hb) (HS.2.later hb)
    replace HW := below_next HW hb
    clear hb
    refine takeH 12 27 (.agg #[.int .i64 X.c.1, .int .i64 X.c.2.1, .string X.c.2.2, .int .i64 X.m, .int .i64 X.k.1, .int .i64 X.k.2.1, .string X.k.2.2, .int .i64 X.o, .slice au X.a.length cu, .slice none 0 0, .int .i64 (n : Int), .int .i64 (-1)]) rfl rfl (by kernel_rfl) (by kernel_rfl) (by kernel_rfl) (fun c a w h => h) (.inl ⟨rfl, fun w _ => by go_simp⟩) HS ?_
    simp only [List.setIfInBounds_toArray, List.set_cons_zero, List.set_cons_succ]
    refine wpAnyH_all (rs := [13]) (by kernel_rfl) (by simp) (fun i hi => ?_)
    obtain rfl : i = 13 := by simpa using hi
    refine wpOp_doG 13 (by rfl) (by rfl) ?_
    go_wp2_with fail
    have BO0 := Blk.new q1 (opC noOp nilS nilS) 41
    have hb : Below q1.heap.size q1 (q1.alloc (.cells #[.int .i64 0, .int .i64 0, .string ⟨#[]⟩, .int .i64 0, .int .i64 0, .int .i64 0, .string ⟨#[]⟩, .int .i64 0, .slice none 0 0, .slice none 0 0, .int .i64 0, .int .i64 0] 41)) := below_more (Below.refl _ _) _
    have hpz : w.heap.size ≤ q1.heap.size := HW.size
    have hze : z ≠ q1.heap.size := by have := HS.1.lt; omega
    have hpe2 : z + 1 ≠ q1.heap.size := by have := HS.2.lt; omega
    obtain ⟨po, hpo⟩ : ∃ po, q1.heap.size = po := ⟨_, rfl⟩
    rw [hpo] at BO0 hpz hze hpe2
    simp only [hpo]
    change Below _ q1 _ at hb
    change Blk (q1.alloc (.cells #[.int .i64 0, .int .i64 0, .string ⟨#[]⟩, .int .i64 0, .int .i64 0, .int .i64 0, .string ⟨#[]⟩, .int .i64 0, .slice none 0 0, .slice none 0 0, .int .i64 0, .int .i64 0] 41)) _ _ _ at BO0
    generalize q1.alloc (.cells #[.int .i64 0, .int .i64 0, .string ⟨#[]⟩, .int .i64 0, .int .i64 0, .int .i64 0, .string ⟨#[]⟩, .int .i64 0, .slice none 0 0, .slice none 0 0, .int .i64 0, .int .i64 0] 41) = q2 at BO0 hb ⊢
    have BO := BO0
    clear BO0 hpo
    refine ⟨⟨HS.1.later hb, HS.2.later hb⟩, ?_⟩
    replace HS := And.intro (HS.1.later hb) (HS.2.later hb)
    replace HW := below_next HW hb
    replace HO := HO.later hb
    clear hb
    refine wpAnyH_all (rs := [14]) (by kernel_rfl) (by simp) (fun i hi => ?_)
    obtain rfl : i = 14 := by simpa using hi
    refine wpOp_doG 14 (by rfl) (by rfl) ?_
    refine wpo_storeB 41 (.tmp 9) (.tmp 27) po 0 (opC ⟨X.c, X.m, X.k, X.o, X.a, [], (n : Int), -1⟩ (.slice au X.a.length cu) nilS) (opC noOp nilS nilS) 41 sizeO (show 0 + 12 ≤ 12 by decide) (opC_one _ rfl rfl) rfl rfl rfl BO ?_
    intro q3 BP ho
    replace BP : Blk q3 po (opC ⟨X.c, X.m, X.k, X.o, X.a, [], (n : Int), -1⟩ (.slice au X.a.length cu) nilS) 41 := BP
    replace HO := HO.oth ho BO (by decide)
    have hb : Blk q3 z (opC noOp nilS nilS) 41 ∧ Blk q3 (z + 1) (evC X (.slice av X.a.length cv) (.slice ar X.r.length cr)) 47 := ⟨HS.1.oth ho hze hze, HS.2.oth ho hpe2 hpe2⟩
    replace HW := below_oth HW ho hpz hpz HW.size
    clear ho BO
    refine ⟨hb, ?_⟩
    replace HS := hb
    clear hb
    refine wpAnyH_done (by kernel_rfl) ?_ _
    show K _ _
    refine hKK _ _ ?_
    exact oper_tail ys xs X w q3 (.slice au X.a.length cu) b o q c n z (z + 1) po E _ _ _ _ _ _ _ _ _ _ _ _ _ _ _ _ _ _ _ _ _ _ _ _ _ _ _ _ _ _ _ _ _ _ _ _ _ _ _ _ _ _ HXs.out HH.out hn HX.out HY.out HE.out HZ.out.symm hpz hze HS.1 BP HO HW
  · refine wpOp_doG 13 (by rfl) (by rfl) ?_
    go_wp2_with fail
    have BO0 := Blk.new n0 (opC noOp nilS nilS) 41
    have hb : Below n0.heap.size n0 (n0.alloc (.cells #[.int .i64 0, .int .i64 0, .string ⟨#[]⟩, .int .i64 0, .int .i64 0, .int .i64 0, .string ⟨#[]⟩, .int .i64 0, .slice none 0 0, .slice none 0 0, .int .i64 0, .int .i64 0] 41)) := below_more (Below.refl _ _) _
    have hpz : w.heap.size ≤ n0.heap.size := HW.size
    have hze : z ≠ n0.heap.size := by have := HS.1.lt; omega
    have hpe2 : z + 1 ≠ n0.heap.size := by have := HS.2.lt; omega
    obtain ⟨po, hpo⟩ : ∃ po, n0.heap.size = po := ⟨_, rfl⟩
    rw [hpo] at BO0 hpz hze hpe2
    simp only [hpo]
    change Below _ n0 _ at hb
    change Blk (n0.alloc (.cells #[.int .i64 0, .int .i64 0, .string ⟨#[]⟩, .int .i64 0, .int .i64 0, .int .i64 0, .string ⟨#[]⟩, .int .i64 0, .slice none 0 0, .slice none 0 0, .int .i64 0, .int .i64 0] 41)) _ _ _ at BO0
    generalize n0.alloc (.cells #[.int .i64 0, .int .i64 0, .string ⟨#[]⟩, .int .i64 0, .int .i64 0, .int .i64 0, .string ⟨#[]⟩, .int .i64 0, .slice none 0 0, .slice none 0 0, .int .i64 0, .int .i64 0] 41) = q4 at BO0 hb ⊢
    have BO := BO0
    clear BO0 hpo
    refine ⟨⟨HS.1.later hb, HS.2.later hb⟩, ?_⟩
    replace HS := And.intro (HS.1.later hb) (HS.2.later hb)
    replace HW := below_next HW hb
    clear hb
    refine wpAnyH_all (rs := [10]) (by kernel_rfl) (by simp) (fun i hi => ?_)
    obtain rfl : i = 10 := by simpa using hi
    refine wpOp_doG 10 (by rfl) (by rfl) ?_
    go_wp2_with fail
    refine (clone_any (.slice av X.a.length cv) X.a q4 (HVa.out.later HW) HLa.out).mono ?_
    rintro e q5 ⟨u, rfl, hoo, hb⟩
    have HO : OwnV q5 w.heap.size u X.a := hoo.base HW.size
    clear hoo
    obtain ⟨au, cu, rfl⟩ := HO.form
    refine ⟨⟨HS.1.later hb, HS.2.later hb⟩, ?_⟩
    replace HS := And.intro (HS.1.later hb) (HS.2.later hb)
    replace HW := below_next HW hb
    replace BO := BO.later hb
    clear hb
    refine takeH 12 27 (.agg #[.int .i64 X.c.1, .int .i64 X.c.2.1, .string X.c.2.2, .int .i64 X.m, .int .i64 X.k.1, .int .i64 X.k.2.1, .string X.k.2.2, .int .i64 X.o, .slice au X.a.length cu, .slice none 0 0, .int .i64 (n : Int), .int .i64 (-1)]) rfl rfl (by kernel_rfl) (by kernel_rfl) (by kernel_rfl) (fun c a w h => h) (.inl ⟨rfl, fun w _ => by go_simp⟩) HS ?_
    simp only [List.setIfInBounds_toArray, List.set_cons_zero, List.set_cons_succ]
    refine wpAnyH_all (rs := [14]) (by kernel_rfl) (by simp) (fun i hi => ?_)
    obtain rfl : i = 14 := by simpa using hi
    refine wpOp_doG 14 (by rfl) (by rfl) ?_
    refine wpo_storeB 41 (.tmp 9) (.tmp 27) po 0 (opC ⟨X.c, X.m, X.k, X.o, X.a, [], (n : Int), -1⟩ (.slice au X.a.length cu) nilS) (opC noOp nilS nilS) 41 sizeO (show 0 + 12 ≤ 12 by decide) (opC_one _ rfl rfl) rfl rfl rfl BO ?_
    intro q6 BP ho
    replace BP : Blk q6 po (opC ⟨X.c, X.m, X.k, X.o, X.a, [], (n : Int), -1⟩ (.slice au X.a.length cu) nilS) 41 := BP
    replace HO := HO.oth ho BO (by decide)
    have hb : Blk q6 z (opC noOp nilS nilS) 41 ∧ Blk q6 (z + 1) (evC X (.slice av X.a.length cv) (.slice ar X.r.length cr)) 47 := ⟨HS.1.oth ho hze hze, HS.2.oth ho hpe2 hpe2⟩
    replace HW := below_oth HW ho hpz hpz HW.size
    clear ho BO
    refine ⟨hb, ?_⟩
    replace HS := hb
    clear hb
    refine wpAnyH_done (by kernel_rfl) ?_ _
    show K _ _
    refine hKK _ _ ?_
    exact oper_tail ys xs X w q6 (.slice au X.a.length cu) b o q c n z (z + 1) po E _ _ _ _ _ _ _ _ _ _ _ _ _ _ _ _ _ _ _ _ _ _ _ _ _ _ _ _ _ _ _ _ _ _ _ _ _ _ _ _ _ _ HXs.out HH.out hn HX.out HY.out HE.out HZ.out.symm hpz hze HS.1 BP HO HW
end Go.Proofs.YtgdegbmakbfaaaaDoor
namespace Go.Proofs.YtgdegbmakbfaaaaDoor
open Go.RowKit Go.PlainAid Ln
set_option linter.unusedVariables false
set_option linter.unusedSimpArgs false

theorem OwnO.base {w : World} {B B' : Nat} {v : Value} {ys : List YO} (h : OwnO w B v ys) (hB : B' ≤ B) : OwnO w B' v ys := by
  obtain ⟨h1, h2⟩ := h
  refine ⟨h1, h2.imp id ?_⟩
  rintro ⟨g, cap, cur, e, hb, r⟩
  exact ⟨g, cap, cur, e, Nat.le_trans hB hb, r⟩
theorem OwnLO.base {w : World} {B B' : Nat} {ys : List YO} (h : OwnLO w B ys) (hB : B' ≤ B) : OwnLO w B' ys := fun i hi => ⟨(h i hi).1.base hB, (h i hi).2.base hB⟩
theorem OwnO.oth {w w' : World} {B p : Nat} {v : Value} {ys : List YO} {c : List Value} {t : TypeId} (h : OwnO w B v ys) (ho : Oth p p w w') (hb : Blk w p c t) (ht : t ≠ 41) : OwnO w' B v ys :=
  World.ownsRow.kept h ho.grown (.inr (Ne.symm (hb.not_row ht h)))
theorem OwnLO.oth {w w' : World} {B p : Nat} {ys : List YO} {c : List Value} {t : TypeId} (h : OwnLO w B ys) (ho : Oth p p w w') (hb : Blk w p c t) (ht : t ≠ 38) : OwnLO w' B ys := fun i hi => ⟨(h i hi).1.oth ho hb ht, (h i hi).2.oth ho hb ht⟩
/-- how Opers ends -/
def ROps (w : World) (xs : List Ev) (e : Ending) (w' : World) : Prop :=
  ∃ v yo, e = .returned (.tuple #[v, .agg #[.int .i64 (checkE xs).1, .int .i64 (checkE xs).2]]) ∧ ((checkE xs).1 = 0 → yo.map (·.1) = opsE xs ∧ OwnO w' w.heap.size v yo ∧ OwnLO w' w.heap.size yo) ∧ ((checkE xs).1 ≠ 0 → v = nilS) ∧ Below w.heap.size w w'
set_option maxRecDepth 100000 in
set_option maxHeartbeats 16000000 in
theorem opers_any (v : Value) (ys : List YE) (w : World) (hv : YSl w v ys) (hi : InL w ys) (hz : ∀ i, i < ys.length → SzE (ye ys i).1) (hk : ∀ i, i < ys.length → KV (ye ys i).1.c) (hl : ys.length ≤ 900000) (ht : Tb w) :
    Calls Tryd.prog 12 #[v] w fun e w' => ROps w (ys.map (·.1)) e w' := by
  have mixed : Tryd.prog.follows .mixedOrders = true := by kernel_rfl
  have HF : Hid (∀ w', Below w.heap.size w w' → Calls Tryd.prog 20 #[v] w' fun e w'' => RFol w' (ys.map (·.1)) e w'') := fun w' h => follow_any v ys w' (hv.later h) (hi.later h) hz hk hl (ht.later h)
  obtain ⟨a, c, rfl, hc1, hc2, _⟩ := hv.form
  have HV : Hid (YSl w (.slice a ys.length c) ys) := hv
  have HI : Hid (InL w ys) := hi
  have HZs : Hid (∀ i, i < ys.length → SzE (ye ys i).1) := hz
  have HK : Hid (∀ i, i < ys.length → KV (ye ys i).1.c) := hk
  have HL : Hid ((ys.map (·.1)).length = ys.length) := List.length_map ..
  clear hv hi hz hk ht
  obtain ⟨xs, hxs⟩ : ∃ xs, ys.map (·.1) = xs := ⟨_, rfl⟩
  have HX : Hid (ys.map (·.1) = xs) := hxs
  rw [hxs] at HL HF ⊢
  clear hxs
  obtain ⟨q, hq⟩ : ∃ q, ys.length = q := ⟨_, rfl⟩
  have HQ : Hid (ys.length = q) := hq
  rw [hq] at HF HV HZs HK HL hl hc1 ⊢
  clear hq
  obtain ⟨z, hz⟩ : ∃ z, w.heap.size = z := ⟨_, rfl⟩
  have HZ : Hid (w.heap.size = z) := hz
  go_enter Tryd.func12, Tryd.ntmps12
  go_wp2_with fail
  have R1 : Blk (w.alloc (.cells #[.int .i64 0, .int .i64 0] 27)) w.heap.size [.int .i64 0, .int .i64 0] 27 := Blk.new w [.int .i64 0, .int .i64 0] 27
  have hb1 : Below w.heap.size w (w.alloc (.cells #[.int .i64 0, .int .i64 0] 27)) := below_more (Below.refl _ _) _
  have hs1 := alloc_size w (.cells #[.int .i64 0, .int .i64 0] 27)
  rw [hz] at R1 hs1
  generalize w.alloc (.cells #[.int .i64 0, .int .i64 0] 27) = w1 at R1 hb1 hs1 ⊢
  clear hz
  refine (HF.out w1 hb1).mono ?_
  rintro e w2 ⟨ve, rfl, hends, b2⟩
  have R2 : Blk w2 z [.int .i64 0, .int .i64 0] 27 := R1.later b2
  have HB2 : Hid (Below w.heap.size w w2) := below_next hb1 b2
  have hzl : z < w2.heap.size := R2.lt
  clear R1 hb1 b2
  obtain ⟨ck, hck⟩ : ∃ ck, checkE xs = ck := ⟨_, rfl⟩
  have HCk : Hid (checkE xs = ck) := hck
  have HEnds : Hid (ck.1 = 0 → OwnI w2 w1.heap.size ve (endsB xs xs.length)) := by rw [← hck]; exact hends
  have R3 : Blk (w2.alloc (.cells #[.int .i64 ck.1, .int .i64 ck.2] 27)) z [.int .i64 0, .int .i64 0] 27 := R2.alloc _
  have Q3 : Blk (w2.alloc (.cells #[.int .i64 ck.1, .int .i64 ck.2] 27)) w2.heap.size [.int .i64 ck.1, .int .i64 ck.2] 27 := Blk.new w2 [.int .i64 ck.1, .int .i64 ck.2] 27
  have hb3 : Below w2.heap.size w2 (w2.alloc (.cells #[.int .i64 ck.1, .int .i64 ck.2] 27)) := below_more (Below.refl _ _) _
  rw [hck]
  clear hck hends R2
  obtain ⟨z2, hz2'⟩ : ∃ z2, w2.heap.size = z2 := ⟨_, rfl⟩
  have hz2 : z2 ≠ z := by omega
  rw [hz2'] at Q3 hzl
  have HS2 : Hid (w2.heap.size = z2) := hz2'
  by_cases hc0 : ck.1 = 0
  case neg =>
    have hne : (ck.1 != 0) = true := by simp [hc0]
    go_wp2_with fail
    rename_i K hKK
    generalize w2.alloc (.cells #[.int .i64 ck.1, .int .i64 ck.2] 27) = w3 at R3 Q3 hb3 ⊢
    have HW : Below w.heap.size w { w3 with drawn := w3.drawn + 1 } := by have h := below_next HB2.out hb3; exact ⟨h.os, h.tape, h.output, h.size, h.block⟩
    have HS : Blk { w3 with drawn := w3.drawn + 1 } z2 [.int .i64 ck.1, .int .i64 ck.2] 27 := Q3
    have R4 : Blk { w3 with drawn := w3.drawn + 1 } z [.int .i64 0, .int .i64 0] 27 := R3
    refine wp_region_held (S := fun wx => Blk wx z2 [.int .i64 ck.1, .int .i64 ck.2] 27) mixed ?_
    generalize ({ w3 with drawn := w3.drawn + 1 } : World) = n0 at HW HS R4 ⊢
    clear R3 Q3 hb3
    refine takeH 0 19 (.agg #[.int .i64 ck.1, .int .i64 ck.2]) rfl rfl (by kernel_rfl) (by kernel_rfl) (by kernel_rfl) (fun c a w h => h) (yieldsIf_load_mid rfl 27 (.tmp 5) rfl z2 0 rfl [.int .i64 ck.1, .int .i64 ck.2] _ (fun wx hx => Blk.all hx) Tryd.underlying27 rfl sizeF) HS ?_
    simp only [List.setIfInBounds_toArray, List.set_cons_zero, List.set_cons_succ]
    refine takeH 1 2 (.slice none 0 0) rfl rfl (by kernel_rfl) (by kernel_rfl) (by kernel_rfl) (fun c a w h => h) (.inl ⟨rfl, fun w _ => rfl⟩) HS ?_
    simp only [List.setIfInBounds_toArray, List.set_cons_zero, List.set_cons_succ]
    refine wpAnyH_all (rs := [2]) (by kernel_rfl) (by simp) (fun i hi => ?_)
    obtain rfl : i = 2 := by simpa using hi
    refine wpOp_doG 2 (by rfl) (by rfl) ?_
    refine wpo_storeB 27 (.tmp 3) (.tmp 19) z 0 [.int .i64 ck.1, .int .i64 ck.2] [.int .i64 0, .int .i64 0] 27 sizeF (show 0 + 2 ≤ 2 by decide) (by simp [Value.oneCell']) rfl rfl rfl R4 ?_
    intro q1 Rx ox
    replace Rx : Blk q1 z [.int .i64 ck.1, .int .i64 ck.2] 27 := Rx
    have hb : Blk q1 z2 [.int .i64 ck.1, .int .i64 ck.2] 27 := HS.oth ox hz2 hz2
    replace HW := below_oth HW ox (Nat.le_of_eq HZ.out) (Nat.le_of_eq HZ.out) HW.size
    clear R4 ox
    refine ⟨hb, ?_⟩
    replace HS := hb
    clear hb
    refine wpAnyH_done (by kernel_rfl) ?_ _
    show K _ _
    refine hKK _ _ ?_
    clear HS hKK
    go_wp2_with fail
    refine ret_tblk rfl z [.int .i64 ck.1, .int .i64 ck.2] 27 _ nilS Tryd.underlying27 rfl sizeF rfl Rx rfl rfl ?_
    exact ⟨nilS, [], by rw [HCk.out], fun h => absurd (by rw [HCk.out] at h; exact h) hc0, fun _ => rfl, HW⟩

  case pos =>
    have hne : (ck.1 != 0) = false := by simp [hc0]
    have HC00 : Hid (ck = (0, 0)) := by
      show _ = _
      rw [← HCk.out]
      rcases okE_cases xs with ⟨k, h1, h2, h3⟩ | h
      · have := checkE_bad h1 h2 h3
        rw [HCk.out] at this
        rw [this] at hc0
        exact absurd hc0 h3
      · exact checkE_ok h
    have hends := HEnds.out hc0
    have HC0 : Hid (ck.1 = 0) := hc0
    clear HEnds hc0
    go_wp2_with fail
    have HO3 : Hid (OwnI (w2.alloc (.cells #[.int .i64 ck.1, .int .i64 ck.2] 27)) w1.heap.size ve (endsB xs xs.length)) := hends.later hb3
    have Hb3 : Hid (Below w.heap.size w (w2.alloc (.cells #[.int .i64 ck.1, .int .i64 ck.2] 27))) := below_next HB2.out hb3
    have HR3 : Hid (Blk (w2.alloc (.cells #[.int .i64 ck.1, .int .i64 ck.2] 27)) z [.int .i64 0, .int .i64 0] 27) := R3
    clear R3 Q3 hb3 hends hne
    generalize w2.alloc (.cells #[.int .i64 ck.1, .int .i64 ck.2] 27) = w3 at HO3 Hb3 HR3 ⊢
    have hisl := HO3.out.isl
    obtain ⟨ae, ce, rfl, hce1, hce2, _⟩ := hisl
    have HEn : Hid (ISl w3 (.slice ae (endsB xs xs.length).length ce) (endsB xs xs.length)) := HO3.out.isl
    rw [endsB_len, HL.out] at HEn hce1 ⊢
    clear HO3
    go_loopw [6, 22] (fun l i wr => ∃ (k : Nat) (yo : List YO), k ≤ q ∧ i = .int .i64 (k : Int) ∧ yo.map (·.1) = opsTo xs k ∧ OwnO wr w3.heap.size l yo ∧ OwnLO wr w3.heap.size yo ∧ Below w3.heap.size w3 wr) (fun l i wr => q - (intOf i).toNat)
    case atStart => exact ⟨0, [], Nat.zero_le _, rfl, rfl, OwnO.nil _ _, OwnLO.nil _ _, Below.refl _ _⟩
    case round =>
      obtain ⟨k, yo, hk, rfl, hmap, hown, hol, hb⟩ := hrel
      have HM : Hid (yo.map (·.1) = opsTo xs k) := hmap
      have HLy : Hid (yo.length ≤ 900000) := by
        show _ ≤ _
        have h1 : yo.length = (opsTo xs k).length := by rw [← hmap, List.length_map]
        have h2 := opsTo_len xs k
        omega
      have HOw : Hid (OwnO wr w3.heap.size u6 yo) := hown
      have HOl : Hid (OwnLO wr w3.heap.size yo) := hol
      have HB : Hid (Below w3.heap.size w3 wr) := hb
      have HW : Hid (Below w.heap.size w wr) := below_next Hb3.out hb
      obtain ⟨al, cl, rfl⟩ := hown.form
      obtain ⟨l, hlen⟩ : ∃ l, yo.length = l := ⟨_, rfl⟩
      have HYl : Hid (yo.length = l) := hlen
      rw [hlen] at HOw ⊢
      clear hmap hown hol hb hlen
      by_cases hlt : k < q
      · have hlt' : (k : Int) < (q : Int) := by omega
        have hk0 : (0 : Int) ≤ (k : Int) := by omega
        obtain ⟨b, o, rfl, hbl⟩ := HV.out.block (by rw [HQ.out]; omega)
        have hh : Hst w b o q c ys := ⟨HQ.out, fun k hk => HV.out.at (by rw [HQ.out]; exact hk), hbl, HI.out, hl, hc1, hc2, HZs.out, HK.out⟩
        have HH : Hid (Hst w b o q c ys) := hh
        obtain ⟨be, oe, rfl, hbe, hce⟩ := isl_at HEn.out (by rw [endsB_len]; omega)
        have hck := hce k (by rw [endsB_len]; exact hlt)
        rw [endsB_nth hlt] at hck
        have HCe : Hid (w3.cell? ⟨be, oe + k, none⟩ = some (.int .i64 (endI xs q k))) := hck
        have HBe : Hid (be < w3.heap.size) := hbe
        have hrk := hh.row k hlt
        have hik := hh.inl k (by rw [hh.len]; exact hlt)
        have hek := ev_ye ys k
        rw [HX.out] at hek
        rcases hyk : ye ys k with ⟨X, va, vr⟩
        rw [hyk] at hrk hik hek
        obtain ⟨av, cv, rfl⟩ : ∃ a c, va = .slice a X.a.length c := by obtain ⟨a, c, h, _⟩ := hik.1; exact ⟨a, c, h⟩
        obtain ⟨ar, cr, rfl⟩ : ∃ a c, vr = .slice a X.r.length c := by obtain ⟨a, c, h, _⟩ := hik.2; exact ⟨a, c, h⟩
        have HXk : Hid (ev xs k = X) := hek
        have HRk : Hid (wr.rangeAt b (o + k * 14) (evC X (.slice av X.a.length cv) (.slice ar X.r.length cr))) := fun j u hj => (HW.out.cell (p := ⟨b, o + k * 14 + j, none⟩) hbl).trans (hrk j u hj)
        have Hb5 : Hid (Below wr.heap.size wr (wr.alloc (.cells #[.int .i64 X.t, .int .i64 X.c.1, .int .i64 X.c.2.1, .string X.c.2.2, .int .i64 X.y, .int .i64 X.m, .int .i64 X.k.1, .int .i64 X.k.2.1, .string X.k.2.2, .int .i64 X.o, .slice av X.a.length cv, .slice ar X.r.length cr, .bool X.nd, .string X.n] 47))) := below_more (Below.refl _ _) _
        clear hh hbl hck hce hbe hrk hik hek hyk
        by_cases y1 : X.y = 1
        · have e1 : (X.y != 1) = false := by simp [y1]
          have HY : Hid ((ev xs k).y = 1) := by show _ = _; rw [HXk.out]; exact y1
          have he : endI xs q k = nxt xs k := by rw [← HL.out]; exact end_all HY.out
          rw [he] at HCe
          have c5 := (Hb5.out.cell (p := ⟨be, oe + k, none⟩) (Nat.lt_of_lt_of_le HBe.out HB.out.size)).trans ((HB.out.cell (p := ⟨be, oe + k, none⟩) HBe.out).trans HCe.out)
          have c4 := (HB.out.cell (p := ⟨be, oe + k, none⟩) HBe.out).trans HCe.out
          have HOp : Hid (∀ w', Below w.heap.size w w' → Calls Tryd.prog 22 #[.slice (some ⟨b, o, none⟩) q c, .int .i64 (k : Int), .int .i64 (nxt xs k)] w' fun e w'' => ROpr w' xs k e w'') := fun w' h => oper_any ys xs w' b o q c k (nxt xs k) HX.out (HH.out.later h) hlt HY.out rfl
          have HW5 : Hid (Below w.heap.size w (wr.alloc (.cells #[.int .i64 X.t, .int .i64 X.c.1, .int .i64 X.c.2.1, .string X.c.2.2, .int .i64 X.y, .int .i64 X.m, .int .i64 X.k.1, .int .i64 X.k.2.1, .string X.k.2.2, .int .i64 X.o, .slice av X.a.length cv, .slice ar X.r.length cr, .bool X.nd, .string X.n] 47))) := below_next HW.out Hb5.out
          have hnx : nxt xs k = nxt xs k := rfl
          generalize nxt xs k = E at HOp c5 c4
          clear y1 he hnx
          go_wp2_with ((with_reducible refine wpList_load_mid ?_ 47 (.tmp 25) ?_ b (o + k * 14) ?_ (evC X (.slice av X.a.length cv) (.slice ar X.r.length cr)) _ HRk.out Tryd.underlying47 ?_ ?_ ?_); (exact rfl); (exact rfl); (exact rfl); (exact rfl); (exact sizeE); (simp only [evC]))
          refine (HOp.out _ HW5.out).mono ?_
          rintro e w6 ⟨O, va, vr, rfl, ⟨aa, na, ca, rfl⟩, ⟨ab, nb, cb, rfl⟩, hop, hb6⟩
          have Hb6 : Hid (Below wr.heap.size wr w6) := below_next Hb5.out hb6
          obtain ⟨is, his⟩ : ∃ is, isOp xs k = is := ⟨_, rfl⟩
          have HIs : Hid (isOp xs k = is) := his
          rw [his] at hop ⊢
          clear his hb6 c5 c4
          simp only [opC]
          cases is
          · have HOpn : Hid (opsTo xs (k + 1) = opsTo xs k) := opsTo_no HIs.out
            have Hb7 : Hid (Below wr.heap.size wr (w6.alloc (.cells #[.int .i64 O.c.1, .int .i64 O.c.2.1, .string O.c.2.2, .int .i64 O.m, .int .i64 O.k.1, .int .i64 O.k.2.1, .string O.k.2.2, .int .i64 O.o, .slice aa na ca, .slice ab nb cb, .int .i64 O.call, .int .i64 O.ret] 41))) := below_more Hb6.out _
            clear hop
            go_wp2_with fail
            go_roundw
            case rel => exact ⟨k + 1, yo, by omega, by go_num, by rw [HOpn.out]; exact HM.out, HOw.out.later Hb7.out, HOl.out.later Hb7.out, below_next HB.out Hb7.out⟩
            case measure => simp [intOf] <;> omega
          · have HOpn : Hid (opsTo xs (k + 1) = opsTo xs k ++ [opOf xs k]) := opsTo_yes HIs.out
            obtain ⟨hoo, hva, hvr⟩ := hop rfl
            have HOo : Hid (O = opOf xs k) := hoo
            have Hb8 : Hid (Below wr.heap.size wr ((w6.alloc (.cells #[.int .i64 O.c.1, .int .i64 O.c.2.1, .string O.c.2.2, .int .i64 O.m, .int .i64 O.k.1, .int .i64 O.k.2.1, .string O.k.2.2, .int .i64 O.o, .slice aa na ca, .slice ab nb cb, .int .i64 O.call, .int .i64 O.ret] 41)).alloc (.cells (encO (O, .slice aa na ca, .slice ab nb cb)).toArray 41))) := below_more (below_more Hb6.out _) _
            have Hb68 : Hid (Below w6.heap.size w6 ((w6.alloc (.cells #[.int .i64 O.c.1, .int .i64 O.c.2.1, .string O.c.2.2, .int .i64 O.m, .int .i64 O.k.1, .int .i64 O.k.2.1, .string O.k.2.2, .int .i64 O.o, .slice aa na ca, .slice ab nb cb, .int .i64 O.call, .int .i64 O.ret] 41)).alloc (.cells (encO (O, .slice aa na ca, .slice ab nb cb)).toArray 41))) := below_more (below_more (Below.refl _ _) _) _
            have HU : Hid (OwnV w6 w3.heap.size (.slice aa na ca) O.a ∧ OwnV w6 w3.heap.size (.slice ab nb cb) O.r) := ⟨hva.base (Nat.le_trans HB.out.size Hb5.out.size), hvr.base (Nat.le_trans HB.out.size Hb5.out.size)⟩
            clear hop hoo hva hvr
            go_wp2_with (first
              | ((with_reducible refine wpList_buildO ?_ (.tmp 42) ?_ (O, .slice aa na ca, .slice ab nb cb) ?_ (w6.alloc (.cells #[.int .i64 O.c.1, .int .i64 O.c.2.1, .string O.c.2.2, .int .i64 O.m, .int .i64 O.k.1, .int .i64 O.k.2.1, .string O.k.2.2, .int .i64 O.o, .slice aa na ca, .slice ab nb cb, .int .i64 O.call, .int .i64 O.ret] 41)).heap.size ?_ ?_); (exact rfl); (exact rfl); (exact rfl); (exact rfl))
              | (at_builtin; refine wpList_appendO1 rfl (.tmp 41) (.tmp 43) rfl w3.heap.size (.slice al l cl) yo rfl (HOw.out.later Hb8.out) (w6.alloc (.cells #[.int .i64 O.c.1, .int .i64 O.c.2.1, .string O.c.2.2, .int .i64 O.m, .int .i64 O.k.1, .int .i64 O.k.2.1, .string O.k.2.2, .int .i64 O.o, .slice aa na ca, .slice ab nb cb, .int .i64 O.call, .int .i64 O.ret] 41)).heap.size (O, .slice aa na ca, .slice ab nb cb) rfl (Blk.all (Blk.new (w6.alloc (.cells #[.int .i64 O.c.1, .int .i64 O.c.2.1, .string O.c.2.2, .int .i64 O.m, .int .i64 O.k.1, .int .i64 O.k.2.1, .string O.k.2.2, .int .i64 O.o, .slice aa na ca, .slice ab nb cb, .int .i64 O.call, .int .i64 O.ret] 41)) (encO (O, .slice aa na ca, .slice ab nb cb)) 41)) ⟨rfl, rfl⟩ (by have := HLy.out; omega) (Nat.le_trans HB.out.size Hb8.out.size) ?_; intro g9 cap9 w9 o9 gr9; have HO9 : Hid (OwnO w9 w3.heap.size (.slice (some ⟨g9, 0, none⟩) (yo.length + 1) cap9) (yo ++ [(O, .slice aa na ca, .slice ab nb cb)])) := o9; have HB9 : Hid (Below w3.heap.size w3 w9) := Below.grown (below_next HB.out Hb8.out) gr9 (Nat.le_trans HB.out.size Hb8.out.size) (fun q h => (HOw.out.lt q h).1); have HL9 : Hid (OwnLO w9 w3.heap.size (yo ++ [(O, .slice aa na ca, .slice ab nb cb)])) := OwnLO.snoc ((HOl.out.later Hb8.out).grown (HOw.out.later Hb8.out) gr9) ((HU.out.1.later Hb68.out).grownO (HOw.out.later Hb8.out) gr9) ((HU.out.2.later Hb68.out).grownO (HOw.out.later Hb8.out) gr9); clear o9 gr9))
            go_roundw
            case rel => exact ⟨k + 1, yo ++ [(O, .slice aa na ca, .slice ab nb cb)], by omega, by go_num, by rw [List.map_append, HM.out, HOpn.out, ← HOo.out]; rfl, HO9.out, HL9.out, HB9.out⟩
            case measure => simp [intOf] <;> omega
        · have e1 : (X.y != 1) = true := by simp [y1]
          have HOpn : Hid (opsTo xs (k + 1) = opsTo xs k) := opsTo_no (by unfold isOp; rw [HXk.out, decide_eq_false y1]; rfl)
          clear y1
          go_wp2_with ((with_reducible refine wpList_load_mid ?_ 47 (.tmp 25) ?_ b (o + k * 14) ?_ (evC X (.slice av X.a.length cv) (.slice ar X.r.length cr)) _ HRk.out Tryd.underlying47 ?_ ?_ ?_); (exact rfl); (exact rfl); (exact rfl); (exact rfl); (exact sizeE); (simp only [evC]))
          go_roundw
          case rel => exact ⟨k + 1, yo, by omega, by go_num, by rw [HOpn.out]; exact HM.out, HOw.out.later Hb5.out, HOl.out.later Hb5.out, below_next HB.out Hb5.out⟩
          case measure => simp [intOf] <;> omega
      · obtain rfl : k = q := by omega
        have R5 := HR3.out.later HB.out
        go_wp2_with ((with_reducible refine wp_storeB 27 (.tmp 3) (.tmp 47) z 0 [.int .i64 0, .int .i64 0] [.int .i64 0, .int .i64 0] 27 ?_ ?_ (by simp [Value.oneCell']) ?_ ?_ ?_ R5 ?_); (exact sizeF); (exact (show 0 + 2 ≤ 2 by decide)); (exact ⟨rfl, rfl⟩); (exact rfl); (exact rfl); (intro wx Rx ox); (replace Rx : Blk wx z [.int .i64 0, .int .i64 0] 27 := Rx))
        refine ret_tblk rfl z [.int .i64 0, .int .i64 0] 27 _ (.slice al l cl) Tryd.underlying27 rfl sizeF rfl Rx rfl rfl ?_
        refine ⟨_, yo, by rw [HCk.out, HC00.out], fun _ => ⟨by rw [HM.out]; unfold opsE; rw [HL.out], ?_, ?_⟩, fun h => absurd (by rw [HCk.out, HC00.out]) h, below_oth HW.out ox (Nat.le_of_eq HZ.out) (Nat.le_of_eq HZ.out) HW.out.size⟩
        · exact (HOw.out.oth ox R5 (by decide)).base Hb3.out.size
        · exact (HOl.out.oth ox R5 (by decide)).base Hb3.out.size
end Go.Proofs.YtgdegbmakbfaaaaDoor
