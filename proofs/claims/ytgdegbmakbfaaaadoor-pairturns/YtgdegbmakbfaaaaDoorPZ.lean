/- The contract of what wakes a statement: the examples. Conditions: the table lies in memory. -/
import Derived.Test.YtgdegbmakbfaaaaDoorBPJ
import Derived.Test.YtgdegbmakbfaaaaDoorLIX
namespace Go.Proofs.YtgdegbmakbfaaaaDoor
open Go.RowKit Go.PlainAid Ln
set_option linter.unusedVariables false
set_option linter.unusedSimpArgs false

/-- an invocation of a register's read by somebody; a Done of nobody's -/
def exI (s : ByteArray) : Ev := ⟨0, (2, 0, s), 1, 1, (2, 0, s), 2, [], [], false, noB⟩
def exD : Ev := ⟨0, (2, 0, ⟨#[97]⟩), 2, 0, (0, 0, noB), 0, [], [], false, noB⟩
def exO : Opn := ⟨(2, 0, ⟨#[97]⟩), 1, (2, 0, ⟨#[97]⟩), 2, [], [], 0, -1⟩
theorem exI_check : checkE [exI ⟨#[97]⟩] = (0, 0) := by kernel_rfl
theorem exI_ops : opsE [exI ⟨#[97]⟩] = [exO] := by kernel_rfl
theorem exD_check : checkE [exD] = (4, 1) := by kernel_rfl
set_option maxRecDepth 100000 in
set_option maxHeartbeats 4000000 in
theorem call_any (s : ByteArray) (w : World) : Calls Tryd.prog 18 #[.string s] w fun e w' => e = .returned (.agg (evC (exI s) nilS nilS).toArray) ∧ Below w.heap.size w w' := by
  have B1 := Blk.new w (evC noEv nilS nilS) 47
  have hb1 : Below w.heap.size w (w.alloc (.cells (evC noEv nilS nilS).toArray 47)) := below_more (Below.refl _ _) _
  obtain ⟨z, hz⟩ : ∃ z, w.heap.size = z := ⟨_, rfl⟩
  have HZ : Hid (w.heap.size = z) := hz
  rw [hz] at B1
  obtain ⟨w1, hw1⟩ : ∃ w1, w.alloc (.cells (evC noEv nilS nilS).toArray 47) = w1 := ⟨_, rfl⟩
  rw [hw1] at B1 hb1
  have ea := hw1
  simp only [evC, noEv, noB] at ea
  have HB1 : Hid (Blk (w1.alloc (.cells #[.int .i64 2, .int .i64 0, .string s] 38)) z (evC noEv nilS nilS) 47) := B1.alloc _
  have Hb2 : Hid (Below w.heap.size w (w1.alloc (.cells #[.int .i64 2, .int .i64 0, .string s] 38))) := below_more hb1 _
  clear hw1 B1 hb1
  go_enter Tryd.func18, Tryd.ntmps18
  go_wp2_with ((with_reducible refine wp_storeB 47 (.tmp 2) (.tmp 8) z 0 (evC (exI s) nilS nilS) (evC noEv nilS nilS) 47 ?_ ?_ (evC_one _ rfl rfl) ?_ ?_ ?_ HB1.out ?_); (exact sizeE); (exact (show 0 + 14 ≤ 14 by decide)); (exact ⟨rfl, rfl⟩); (exact rfl); (exact rfl); (intro wx Rx ox); (replace Rx : Blk wx z (evC (exI s) nilS nilS) 47 := Rx))
  refine ret_blk rfl z (evC (exI s) nilS nilS) 47 _ Tryd.underlying47 rfl sizeE rfl Rx rfl ?_
  exact ⟨rfl, below_oth Hb2.out ox (Nat.le_of_eq HZ.out) (Nat.le_of_eq HZ.out) Hb2.out.size⟩
theorem ysl_one (w : World) (y : YE) : YSl (w.alloc (.cells (encE y).toArray 47)) (.slice (some ⟨w.heap.size, 0, none⟩) 1 1) [y] := by
  have hB := Blk.new w (encE y) 47
  refine ⟨_, 1, rfl, Nat.le_refl _, by omega, .inr ⟨_, 0, rfl, hB.lt, fun i hi => ?_⟩⟩
  have e : i = 0 := by simp at hi; exact hi
  subst e
  rw [ye_zero]
  exact hB.all
theorem inl_one {w : World} {x : Ev} (h1 : x.a = []) (h2 : x.r = []) : InL w [(x, nilS, nilS)] := fun i hi => by
  have e : i = 0 := by simp at hi; exact hi
  subst e
  rw [ye_zero]
  show VSl w nilS x.a ∧ VSl w nilS x.r
  rw [h1, h2]; exact ⟨(OwnV.nil w 0).vsl, (OwnV.nil w 0).vsl⟩
theorem one_all {p : YE → Prop} {y : YE} (h : p y) : ∀ i, i < [y].length → p (ye [y] i) := fun i hi => by
  have e : i = 0 := by simp at hi; exact hi
  subst e
  rw [ye_zero]; exact h
theorem ex_sz {x : Ev} (h1 : x.a = []) (h2 : x.r = []) (h3 : x.c.2.2.size ≤ 1) (h4 : x.k.2.2.size ≤ 1) : SzE x := by
  unfold SzE
  rw [h1, h2]
  exact ⟨by omega, by omega, fun i h => absurd h (Nat.not_lt_zero i), fun i h => absurd h (Nat.not_lt_zero i), by decide, by decide⟩
theorem ex_kv : KV (2, 0, ⟨#[97]⟩) := ⟨by decide, by decide, by unfold maxLen; decide⟩
theorem yo_one {yo : List YO} {x : Opn} (h : yo.map (·.1) = [x]) : ∃ va vr, yo = [(x, va, vr)] := by
  cases yo with
  | nil => cases h
  | cons y ys =>
    cases ys with
    | nil => injection h with h _; obtain ⟨o, va, vr⟩ := y; exact ⟨va, vr, by rw [← h]⟩
    | cons z zs => injection h with _ h; cases h
set_option maxRecDepth 100000 in
set_option maxHeartbeats 4000000 in
theorem wakes_p (w : World) (ht : Tb w) : Calls Tryd.prog 8 #[] w fun e w' => e = .returned (.bool true) ∧ Below w.heap.size w w' := by
  have HT : Hid (Tb w) := ht
  clear ht
  have hq := eqF
  have hg := eqgF
  have hs := eqfB_self
  go_enter Tryd.func8, Tryd.ntmps8
  go_wp2_with fail
  refine (call_any ⟨#[97]⟩ w).mono ?_
  rintro e w1 ⟨rfl, b1⟩
  have Hb1 : Hid (Below w.heap.size w w1) := b1
  clear b1
  go_wp2_with ((with_reducible refine wpList_buildE ?_ (.tmp 5) ?_ (exI ⟨#[97]⟩, nilS, nilS) ?_ w1.heap.size ?_ ?_); (exact rfl); (exact rfl); (exact rfl); (exact rfl))
  have hY := ysl_one w1 (exI ⟨#[97]⟩, nilS, nilS)
  have hI : InL (w1.alloc (.cells (encE (exI ⟨#[97]⟩, nilS, nilS)).toArray 47)) [(exI ⟨#[97]⟩, nilS, nilS)] := inl_one rfl rfl
  have hb2 := below_more Hb1.out (.cells (encE (exI ⟨#[97]⟩, nilS, nilS)).toArray 47)
  generalize w1.alloc (.cells (encE (exI ⟨#[97]⟩, nilS, nilS)).toArray 47) = w2 at hY hI hb2 ⊢
  have Hb2 : Hid (Below w.heap.size w w2) := hb2
  clear hb2
  have hO := opers_any _ _ w2 hY hI (one_all (p := fun y => SzE y.1) (ex_sz rfl rfl (by decide) (by decide))) (one_all (p := fun y => KV y.1.c) ex_kv) (by decide) (HT.out.later Hb2.out)
  clear hY hI
  change Calls _ _ _ _ fun e w' => ROps w2 [exI ⟨#[97]⟩] e w' at hO
  unfold ROps at hO
  rw [exI_check, exI_ops] at hO
  refine hO.mono ?_
  clear hO
  rintro e w3 ⟨v, yo, rfl, hok, _, b3⟩
  obtain ⟨hm, ho, _⟩ := hok rfl
  obtain ⟨va, vr, rfl⟩ := yo_one hm
  obtain ⟨a, c, rfl⟩ := ho.form
  obtain ⟨b, o, rfl, hbl⟩ := ho.osl.block (show 0 < 1 by decide)
  have c11 := ho.osl.at (i := 0) (show 0 < 1 by decide) 11 (.int .i64 (-1)) rfl
  have Hb3 : Hid (Below w.heap.size w w3) := below_next Hb2.out b3
  have HBl : Hid (b < w3.heap.size) := hbl
  have HC : Hid (w3.cell? ⟨b, o + 0 * 12 + 11, none⟩ = some (.int .i64 (-1))) := c11
  clear hok hm ho hbl c11 b3
  go_wp2_with ((with_reducible refine wpList_buildE ?_ (.tmp 11) ?_ (exD, nilS, nilS) ?_ (w3.alloc (.cells #[.int .i64 0, .int .i64 0] 27)).heap.size ?_ ?_); (exact rfl); (exact rfl); (exact rfl); (exact rfl))
  have B1 := FBox.new w3 0 0 27
  have hb4 := below_more Hb3.out (.cells #[.int .i64 0, .int .i64 0] 27)
  have hb34 := below_more (Below.refl w3.heap.size w3) (.cells #[.int .i64 0, .int .i64 0] 27)
  have hs4 := alloc_size w3 (.cells #[.int .i64 0, .int .i64 0] 27)
  obtain ⟨p, hp⟩ : ∃ p, p = w3.heap.size := ⟨_, rfl⟩
  rw [← hp] at B1 hs4 ⊢
  generalize w3.alloc (.cells #[.int .i64 0, .int .i64 0] 27) = w4 at B1 hb4 hb34 hs4 ⊢
  have hY := ysl_one w4 (exD, nilS, nilS)
  rw [hs4] at hY
  have hI : InL (w4.alloc (.cells (encE (exD, nilS, nilS)).toArray 47)) [(exD, nilS, nilS)] := inl_one rfl rfl
  have hb5 := below_more hb4 (.cells (encE (exD, nilS, nilS)).toArray 47)
  have hb35 := below_more hb34 (.cells (encE (exD, nilS, nilS)).toArray 47)
  replace B1 := B1.later (below_more (Below.refl w4.heap.size w4) (.cells (encE (exD, nilS, nilS)).toArray 47))
  generalize w4.alloc (.cells (encE (exD, nilS, nilS)).toArray 47) = w5 at B1 hb5 hb35 hY hI ⊢
  have hO := check_any _ _ w5 hY hI (one_all (p := fun y => SzE y.1) (ex_sz rfl rfl (by decide) (by decide))) (one_all (p := fun y => KV y.1.c) ex_kv) (by decide) (HT.out.later hb5)
  change Calls _ _ _ _ fun e w' => e = .returned (.agg #[.int .i64 (checkE [exD]).1, .int .i64 (checkE [exD]).2]) ∧ Below w5.heap.size w5 w' at hO
  rw [exD_check] at hO
  refine hO.mono ?_
  clear hO hY hI hb4 hb34 hp
  rintro e w6 ⟨rfl, b6⟩
  replace B1 := B1.later b6
  have B2 := FBox.new w6 4 1 27
  have B3 := B1.later (below_more (Below.refl _ _) (.cells #[.int .i64 4, .int .i64 1] 27))
  have Hb7 : Hid (Below w.heap.size w (w6.alloc (.cells #[.int .i64 4, .int .i64 1] 27))) := below_more (below_next hb5 b6) _
  have c11 := (below_more (below_next hb35 b6) (.cells #[.int .i64 4, .int .i64 1] 27)).cell (p := ⟨b, o + 0 * 12 + 11, none⟩) HBl.out |>.trans HC.out
  simp only [Nat.zero_mul, Nat.add_zero] at c11
  clear hb5 hb35 b6 B1
  obtain ⟨c6, c0, c1, z0, z1⟩ := B2
  obtain ⟨d6, d0, d1, y0, y1⟩ := B3
  go_wp2
  go_ret
  exact ⟨rfl, Hb7.out⟩
end Go.Proofs.YtgdegbmakbfaaaaDoor
