/- The program's New, may, push and pop are as the chapter says. Conditions: sizes; the table of signs lies in memory. -/
import Derived.Test.YthgafmhpajikdaaDoorKC
import Derived.Test.YthgafmhpajikdaaDoorKF
import Derived.Test.YthgafmhpajikdaaDoorUI
import Derived.Test.YthgafmhpajikdaaDoorGR
import Derived.ArgAppend
namespace Go.Proofs.YthgafmhpajikdaaDoor
open Go.RowKit Go.PlainAid Ln Go.Sort
set_option linter.unusedVariables false
set_option linter.unusedSimpArgs false

theorem sliced0Q (a : Option Addr) (m c : Nat) : sliced a 0 m c 3 = .slice a m c := by
  unfold sliced
  by_cases hc : c = 0
  · rw [if_pos hc]; subst hc; simp
  · rw [if_neg hc]
    cases a with
    | none => rfl
    | some ad => obtain ⟨b, o, s⟩ := ad; simp [Addr.add]
theorem encV_one (x : Val) : ∀ u ∈ encV x, u.oneCell' = true := by
  intro u hu; simp only [encV, List.mem_cons, List.not_mem_nil, or_false] at hu
  rcases hu with rfl | rfl | rfl <;> rfl
theorem new_isQ (m : Int) (h : m = 5 ∨ m = 6) (w : World) : Calls Tryd.prog 7 #[.int .i64 m] w fun e w' => e = .returned (.tuple #[.agg (stC m noV nilS).toArray, .bool true]) ∧ Below w.heap.size w w' := by
  have R0 : Hid (Blk (w.alloc (.cells #[.int .i64 0, .int .i64 0, .int .i64 0, .string ⟨#[]⟩, .int .i64 0, .slice none 0 0] 28)) w.heap.size (stC 0 noV nilS) 28) := Blk.new w _ _
  have B0 : Hid (Below w.heap.size w (w.alloc (.cells #[.int .i64 0, .int .i64 0, .int .i64 0, .string ⟨#[]⟩, .int .i64 0, .slice none 0 0] 28))) := below_box w _
  rcases h with rfl | rfl
  · go_enter Tryd.func7, Tryd.ntmps7
    go_wp2_with (first
      | ((with_reducible refine wp_storeB 28 (.tmp 2) (.tmp 9) w.heap.size 0 (stC 5 noV nilS) (stC 0 noV nilS) 28 ?_ ?_ (stC_one _ _ rfl) ?_ ?_ ?_ R0.out ?_); (exact infoSt); (exact (show 0 + 6 ≤ 6 by decide)); (exact ⟨rfl, rfl⟩); (exact rfl); (exact rfl); (intro w2 D1 o2); (replace D1 : Blk w2 w.heap.size (stC 5 noV nilS) 28 := D1); (have HD : Hid (Blk w2 w.heap.size (stC 5 noV nilS) 28) := D1); (have HB2 : Hid (Below w.heap.size w w2) := below_oth B0.out o2 (Nat.le_refl _) (Nat.le_refl _) B0.out.size); (clear D1 o2)))
    refine ret_blk2 rfl w.heap.size (stC 5 noV nilS) 28 _ (.bool true) Tryd.underlying28 rfl infoSt rfl HD.out rfl rfl ?_
    exact ⟨rfl, HB2.out⟩
  · go_enter Tryd.func7, Tryd.ntmps7
    go_wp2_with (first
      | ((with_reducible refine wp_storeB 28 (.tmp 2) (.tmp 9) w.heap.size 0 (stC 6 noV nilS) (stC 0 noV nilS) 28 ?_ ?_ (stC_one _ _ rfl) ?_ ?_ ?_ R0.out ?_); (exact infoSt); (exact (show 0 + 6 ≤ 6 by decide)); (exact ⟨rfl, rfl⟩); (exact rfl); (exact rfl); (intro w2 D1 o2); (replace D1 : Blk w2 w.heap.size (stC 6 noV nilS) 28 := D1); (have HD : Hid (Blk w2 w.heap.size (stC 6 noV nilS) 28) := D1); (have HB2 : Hid (Below w.heap.size w w2) := below_oth B0.out o2 (Nat.le_refl _) (Nat.le_refl _) B0.out.size); (clear D1 o2)))
    refine ret_blk2 rfl w.heap.size (stC 6 noV nilS) 28 _ (.bool true) Tryd.underlying28 rfl infoSt rfl HD.out rfl rfl ?_
    exact ⟨rfl, HB2.out⟩
theorem new_noQ (m : Int) (h5 : m ≠ 5) (h6 : m ≠ 6) (w : World) : Calls Tryd.prog 7 #[.int .i64 m] w fun e w' => e = .returned (.tuple #[.agg (stC 0 noV nilS).toArray, .bool false]) ∧ Below w.heap.size w w' := by
  have e5 : (m == 5) = false := by simp [h5]
  have e6 : (m == 6) = false := by simp [h6]
  have R0 : Hid (Blk (w.alloc (.cells #[.int .i64 0, .int .i64 0, .int .i64 0, .string ⟨#[]⟩, .int .i64 0, .slice none 0 0] 28)) w.heap.size (stC 0 noV nilS) 28) := Blk.new w _ _
  have B0 : Hid (Below w.heap.size w (w.alloc (.cells #[.int .i64 0, .int .i64 0, .int .i64 0, .string ⟨#[]⟩, .int .i64 0, .slice none 0 0] 28))) := below_box w _
  go_enter Tryd.func7, Tryd.ntmps7
  go_wp2_with (first
    | ((with_reducible refine wp_storeB 28 (.tmp 2) (.tmp 10) w.heap.size 0 (stC 0 noV nilS) (stC 0 noV nilS) 28 ?_ ?_ (stC_one _ _ rfl) ?_ ?_ ?_ R0.out ?_); (exact infoSt); (exact (show 0 + 6 ≤ 6 by decide)); (exact ⟨rfl, rfl⟩); (exact rfl); (exact rfl); (intro w2 D1 o2); (replace D1 : Blk w2 w.heap.size (stC 0 noV nilS) 28 := D1); (have HD : Hid (Blk w2 w.heap.size (stC 0 noV nilS) 28) := D1); (have HB2 : Hid (Below w.heap.size w w2) := below_oth B0.out o2 (Nat.le_refl _) (Nat.le_refl _) B0.out.size); (clear D1 o2)))
  refine ret_blk2 rfl w.heap.size (stC 0 noV nilS) 28 _ (.bool false) Tryd.underlying28 rfl infoSt rfl HD.out rfl rfl ?_
  exact ⟨rfl, HB2.out⟩
theorem new_anyQ (m : Int) (w : World) : Calls Tryd.prog 7 #[.int .i64 m] w fun e w' => e = .returned (.tuple #[.agg (stC (if ownQ m = true then m else 0) noV nilS).toArray, .bool (ownQ m)]) ∧ Below w.heap.size w w' := by
  cases h : ownQ m
  · rw [if_neg (by decide)]
    have h5 : m ≠ 5 := fun e => by rw [(ownQ_iff m).2 (.inl e)] at h; cases h
    have h6 : m ≠ 6 := fun e => by rw [(ownQ_iff m).2 (.inr e)] at h; cases h
    exact new_noQ m h5 h6 w
  · rw [if_pos rfl]
    exact new_isQ m ((ownQ_iff m).1 h) w
set_option maxHeartbeats 4000000 in
/-- may the program's step be? -/
theorem may_anyQ (m : Int) (c : Val) (o : Int) (va : Value) (xs : List Val) (w : World) (ht : Tb w) (hv : VSl w va xs) (hs : SzV xs) (hc : c.2.2.size ≤ 4611686018427387904) :
    Calls Tryd.prog 22 #[.int .i64 m, .agg #[.int .i64 c.1, .int .i64 c.2.1, .string c.2.2], .int .i64 o, va] w fun e w' => e = .returned (.bool (ownQ m && mayD m ⟨c, o, xs⟩)) ∧ Below w.heap.size w w' := by
  have hT := fun w => takes_any 0 c.1 c.2.1 c.2.2 w hc
  have HF : Hid (∀ w', Below w.heap.size w w' → Calls Tryd.prog 32 #[.int .i64 m, .int .i64 o, va] w' fun e w1 => e = .returned (.bool (fi m o && fitsL (fr m o).inn xs)) ∧ Below w'.heap.size w' w1) := fun w' hb => fits_any m o va xs w' (ht.later hb) (hv.later hb) hs.1 hs.2
  have HX : Hid (Blk (w.alloc (.cells #[.int .i64 c.1, .int .i64 c.2.1, .string c.2.2] 25)) w.heap.size (encV c) 25) := Blk.new w _ 25
  have HB : Hid (Below w.heap.size w (w.alloc (.cells #[.int .i64 c.1, .int .i64 c.2.1, .string c.2.2] 25))) := below_box w _
  rw [takesB_n (by decide)] at hT
  have e : (ownQ m && mayD m ⟨c, o, xs⟩) = (ownQ m && (nameB c.1 c.2.1 c.2.2 && (fi m o && fitsL (fr m o).inn xs))) := rfl
  have HN : Hid (∀ w, Calls Tryd.prog 7 #[.int .i64 m] w fun e w' => e = .returned (.tuple #[.agg (stC (if ownQ m = true then m else 0) noV nilS).toArray, .bool (ownQ m)]) ∧ Below w.heap.size w w') := fun w => new_anyQ m w
  rw [e]
  clear e hv hs ht
  generalize nameB c.1 c.2.1 c.2.2 = b2 at *
  generalize (fi m o && fitsL (fr m o).inn xs) = b3 at *
  obtain ⟨k, hk⟩ : ∃ k, (if ownQ m = true then m else 0) = k := ⟨_, rfl⟩
  rw [hk] at HN
  clear hk
  generalize ownQ m = b1 at *
  have hN := HN.out
  simp only [stC, noV] at hN
  clear HN
  go_enter Tryd.func22, Tryd.ntmps22
  go_wp2_with fail
  refine (hN _).mono ?_
  rintro e w2 ⟨rfl, hb2⟩
  have bx := below_box w2 (.cells (stC k noV nilS).toArray 28)
  change Below _ w2 (w2.alloc (.cells #[.int .i64 k, .int .i64 0, .int .i64 0, .string noB, .int .i64 0, .slice none 0 0] 28)) at bx
  have HB3 : Hid (Below w.heap.size w (w2.alloc (.cells #[.int .i64 k, .int .i64 0, .int .i64 0, .string noB, .int .i64 0, .slice none 0 0] 28))) := below_next (below_next HB.out hb2) bx
  obtain ⟨c0, c1, c2⟩ := v_cells ((HX.out.later hb2).later bx)
  clear hb2 bx HX HB hN
  cases b1
  · go_wp2_with fail
    go_ret
    exact ⟨rfl, HB3.out⟩
  cases b2
  · go_wp2_with (first
      | (go_at_call 31; refine (hT _).mono ?_; rintro e w4 ⟨rfl, hb4⟩))
    go_ret
    exact ⟨rfl, below_next HB3.out hb4⟩
  go_wp2_with (first
    | (go_at_call 31; refine (hT _).mono ?_; rintro e w4 ⟨rfl, hb4⟩)
    | (go_at_call 32; refine (HF.out _ (below_next HB3.out hb4)).mono ?_; rintro e w5 ⟨rfl, hb5⟩))
  go_ret
  exact ⟨by cases b3 <;> rfl, below_next (below_next HB3.out hb4) hb5⟩
/-- append of one value, laid in a block of its own, to a slice without room -/
theorem wp_appendF {o : Oper} {a : Act} {w : World} {K : Act → World → Prop} {Q : Exit → Act → World → Prop} (s x : Operand)
    (ho : o.op = .call { callee := .builtin .append, args := #[s, x], argTypes := #[26, 26] }) (al : Option Addr) (n cl : Nat) (l : List Val) (hs : a.eval s = .slice al n n) (hn : l.length = n) (hv : VSl w (.slice al n cl) l)
    (g0 : Nat) (y : Val) (hx : a.eval x = .slice (some ⟨g0, 0, none⟩) 1 1) (hu : VSl w (.slice (some ⟨g0, 0, none⟩) 1 1) [y]) (hlen : n ≤ 900000)
    (h : ∀ v' w', OwnV w' w.heap.size v' (l ++ [y]) → Below w.heap.size w w' → K (a.put o.dst v') w') : o.wp Tryd.prog a w K Q := by
  obtain ⟨i0, hi, hz0, hz1, hz2⟩ := info_parts infoV
  subst hn
  have key : ∀ v' w', w'.ownsRow w.heap.size 25 3 v' (l.length + 1) (cellsV l ++ cellsV [y]) → w.grownBy w' none → K (a.put o.dst v') w' := fun v' w' k1 k2 => by
    refine h v' w' ?_ (Below.grown (Below.refl _ _) k2 (Nat.le_refl _) (fun k hk => by cases hk))
    unfold OwnV
    rw [cellsV_app, List.length_append]; exact k1
  have hc := vsl_cells hu
  have hm : l.length + 1 ≤ maxLen := by unfold maxLen; omega
  cases al with
  | some b =>
    obtain ⟨v', w', hrun, r1, r2⟩ := run_append_arg_grows (P := Tryd.prog) w 26 o.type 25 i0 (.agg #[.int .i64 0, .int .i64 0, .string ⟨#[]⟩]) 3 32 Tryd.underlying26 hi hz0 hz1 hz2 rfl (by decide) b l.length l.length (cellsV l) (cellsV_len l) (vsl_cells hv) ⟨g0, 0, none⟩ 1 1 (cellsV [y]) (cellsV_len [y]) hc (by omega) hm (by omega)
    unfold Oper.wp
    simp [execOp, ho, resolve, invoke, builtin, hs, hx, hrun, Result.andThen]
    exact key _ _ r1 r2
  | none =>
    obtain ⟨a', c', he, _, _, hnn⟩ := hv.form
    injection he with he1 he2 he3
    obtain ⟨rfl, _⟩ := hnn he1.symm
    obtain ⟨v', w', hrun, r1, r2, _⟩ := run_append_own (P := Tryd.prog) w w.heap.size 26 o.type 25 i0 (.agg #[.int .i64 0, .int .i64 0, .string ⟨#[]⟩]) 3 32 Tryd.underlying26 hi hz0 hz1 hz2 rfl (by decide) (.slice none 0 0) 0 [] (World.ownsRow_nil w _ _ _) ⟨g0, 0, none⟩ 1 1 (cellsV [y]) (cellsV_len [y]) hc (cellsV_one _) hm (by decide) (Nat.le_refl _)
    unfold Oper.wp
    simp [execOp, ho, resolve, invoke, builtin, hs, hx, hrun, Result.andThen]
    exact key _ _ r1 r2
theorem run_cut_hm (k k' : IntKind) (a : Option Addr) (n c m : Nat) (hm : m ≤ c) (w : World) : (Instr.sliceAt 26 (.slice a n c) none (some (.int k (m : Int))) (some (.int k' (m : Int)))).run Tryd.prog w = .ok (.slice a m m) w := by
  rw [run_sliceAt_slice w 26 _ _ _ _ undV, run_slice_hm w 26 _ _ _ undV k k' _ _ (by omega) (by omega) (by omega), elemV, Tryd.sizeOf25, Int.toNat_natCast]
  show Result.ok (sliced a 0 m m 3) w = _
  rw [sliced0Q]
set_option maxRecDepth 100000 in
set_option maxHeartbeats 16000000 in
theorem push_any (al : Option Addr) (n cl : Nat) (l : List Val) (v : Val) (w : World) (hv : VSl w (.slice al n cl) l) (hn : l.length = n) (hl : n ≤ 900000) :
    Calls Tryd.prog 23 #[.slice al n cl, .agg #[.int .i64 v.1, .int .i64 v.2.1, .string v.2.2]] w fun e w' => ∃ u, e = .returned u ∧ OwnV w' w.heap.size u (l ++ [v]) ∧ Below w.heap.size w w' := by
  have mixed : Tryd.prog.follows .mixedOrders = true := by kernel_rfl
  have HV : Hid (VSl w (.slice al n cl) l) := hv
  have HN : Hid (l.length = n) := hn
  have HL : Hid (n ≤ 900000) := hl
  have hnc : n ≤ cl := by
    obtain ⟨a', c', he, h1, _, _⟩ := hv.form
    injection he with _ _ he3
    omega
  have HC : Hid (∀ w, (Instr.sliceAt 26 (.slice al n cl) none (some (.int .i64 (n : Int))) (some (.int .i64 (n : Int)))).run Tryd.prog w = .ok (.slice al n n) w) := fun w => run_cut_hm .i64 .i64 al n cl n hnc w
  have HX0 : Hid (Blk (w.alloc (.cells #[.int .i64 v.1, .int .i64 v.2.1, .string v.2.2] 25)) w.heap.size (encV v) 25) := Blk.new w _ 25
  have HB0 : Hid (Below w.heap.size w (w.alloc (.cells #[.int .i64 v.1, .int .i64 v.2.1, .string v.2.2] 25))) := below_box w _
  clear hv hn hnc
  go_enter Tryd.func23, Tryd.ntmps23
  go_wp2_with fail
  rename_i K9 hK9
  obtain ⟨I, hI⟩ : ∃ I : (Nat → Bool) → Act → World → Prop, ∀ L act wx, I L act wx ↔ (fun (L : Nat → Bool) (act : Act) (wx : World) => ∃ (t5 : Value) (t6 : Value) (t7 : Value) (t8 : Value) (t9 : Value) (t10 : Value) (t11 : Value) (t12 : Value) (t13 : Value) (t4 : Value) , act = ⟨#[Value.slice al n cl, Value.agg #[Value.int .i64 v.1, Value.int .i64 v.2.1, Value.string v.2.2], undef, Value.pointer (some ⟨w.heap.size, 0, none⟩), t4, t5, t6, t7, t8, t9, t10, t11, t12, t13], []⟩ ∧ Hid (Below w.heap.size w wx) ∧ Hid (Blk wx w.heap.size (encV v) 25) ∧ Hid (L 0 = true → t5 = .slice al n cl) ∧ Hid (L 1 = true → t6 = .slice al n cl) ∧ Hid (L 2 = true → t7 = .int .i64 (n : Int)) ∧ Hid (L 3 = true → t8 = .slice al n cl) ∧ Hid (L 4 = true → t9 = .int .i64 (n : Int)) ∧ Hid (L 5 = true → t10 = .slice al n n) ∧ Hid (L 6 = true → t11 = .agg #[.int .i64 v.1, .int .i64 v.2.1, .string v.2.2]) ∧ Hid (L 7 = true → ∃ q8 : Nat, t12 = .slice (some ⟨q8, 0, none⟩) 1 1 ∧ OwnV wx w.heap.size t12 [v]) ∧ Hid (L 8 = true → OwnV wx w.heap.size t13 (l ++ [v])) ∧ Hid (L 9 = true → t4 = t13)) L act wx := ⟨_, fun _ _ _ => Iff.rfl⟩
  dsimp only at hI
  have HI : Hid (∀ L act wx, I L act wx ↔ _) := hI
  clear hI
  refine wp_region_inv mixed [[], [], [1], [], [3], [0, 1, 2, 3, 4], [], [6], [0, 1, 2, 3, 4, 5, 6, 7], [0, 1, 2, 3, 4, 5, 6, 7, 8]] (by kernel_rfl) I ?_ ?_ ?_
  · refine (HI.out _ _ _).2 ⟨_, _, _, _, _, _, _, _, _, _, rfl, ?_, ?_, fun h => Bool.noConfusion h, fun h => Bool.noConfusion h, fun h => Bool.noConfusion h, fun h => Bool.noConfusion h, fun h => Bool.noConfusion h, fun h => Bool.noConfusion h, fun h => Bool.noConfusion h, fun h => Bool.noConfusion h, fun h => Bool.noConfusion h, fun h => Bool.noConfusion h⟩
    · exact below_next HB0.out (Stay.drew _)
    · exact HX0.out.later (Stay.drew _)
  · intro i hi L act wx hIa hLi hcl hanc
    obtain ⟨t5, t6, t7, t8, t9, t10, t11, t12, t13, t4, rfl, HS, E0, F0, F1, F2, F3, F4, F5, F6, F7, F8, F9⟩ := (HI.out _ _ _).1 hIa
    clear hIa
    have hi' : i = 0 ∨ i = 1 ∨ i = 2 ∨ i = 3 ∨ i = 4 ∨ i = 5 ∨ i = 6 ∨ i = 7 ∨ i = 8 ∨ i = 9 := by have hi : i < 10 := hi; omega
    clear hi
    rcases hi' with rfl | rfl | rfl | rfl | rfl | rfl | rfl | rfl | rfl | rfl
    · refine YieldsIf.wpOp (S := fun _ => True) (v := .slice al n cl) (by rfl) (.inl ⟨rfl, fun w _ => rfl⟩) trivial ?_
      simp only [Act.put, List.setIfInBounds_toArray, List.set_cons_zero, List.set_cons_succ]
      have hb : Below wx.heap.size wx wx := Below.refl _ _
      show I (putL L 0) _ _
      exact (HI.out (putL L 0) _ _).2 ⟨_, _, _, _, _, _, _, _, _, _, rfl, below_next HS.out hb, E0.out.later hb, fun _ => rfl, fun h => (by first | exact F1.out ((putL_ne (i := 0) (by decide)).symm.trans h) | rfl), fun h => (by first | exact F2.out ((putL_ne (i := 0) (by decide)).symm.trans h) | rfl), fun h => (by first | exact F3.out ((putL_ne (i := 0) (by decide)).symm.trans h) | rfl), fun h => (by first | exact F4.out ((putL_ne (i := 0) (by decide)).symm.trans h) | rfl), fun h => absurd (hcl 5 ((putL_ne (i := 0) (by decide)).symm.trans h) 0 (by decide)) (by rw [hLi]; decide), fun h => (by first | exact F6.out ((putL_ne (i := 0) (by decide)).symm.trans h) | rfl), fun h => (fun q => q.imp fun _ k => ⟨k.1, k.2.later hb⟩) (F7.out ((putL_ne (i := 0) (by decide)).symm.trans h)), fun h => absurd (hcl 8 ((putL_ne (i := 0) (by decide)).symm.trans h) 0 (by decide)) (by rw [hLi]; decide), fun h => absurd (hcl 9 ((putL_ne (i := 0) (by decide)).symm.trans h) 0 (by decide)) (by rw [hLi]; decide)⟩
    · refine YieldsIf.wpOp (S := fun _ => True) (v := .slice al n cl) (by rfl) (.inl ⟨rfl, fun w _ => rfl⟩) trivial ?_
      simp only [Act.put, List.setIfInBounds_toArray, List.set_cons_zero, List.set_cons_succ]
      have hb : Below wx.heap.size wx wx := Below.refl _ _
      show I (putL L 1) _ _
      exact (HI.out (putL L 1) _ _).2 ⟨_, _, _, _, _, _, _, _, _, _, rfl, below_next HS.out hb, E0.out.later hb, fun h => (by first | exact F0.out ((putL_ne (i := 1) (by decide)).symm.trans h) | rfl), fun _ => rfl, fun h => absurd (hcl 2 ((putL_ne (i := 1) (by decide)).symm.trans h) 1 (by decide)) (by rw [hLi]; decide), fun h => (by first | exact F3.out ((putL_ne (i := 1) (by decide)).symm.trans h) | rfl), fun h => (by first | exact F4.out ((putL_ne (i := 1) (by decide)).symm.trans h) | rfl), fun h => absurd (hcl 5 ((putL_ne (i := 1) (by decide)).symm.trans h) 1 (by decide)) (by rw [hLi]; decide), fun h => (by first | exact F6.out ((putL_ne (i := 1) (by decide)).symm.trans h) | rfl), fun h => (fun q => q.imp fun _ k => ⟨k.1, k.2.later hb⟩) (F7.out ((putL_ne (i := 1) (by decide)).symm.trans h)), fun h => absurd (hcl 8 ((putL_ne (i := 1) (by decide)).symm.trans h) 1 (by decide)) (by rw [hLi]; decide), fun h => absurd (hcl 9 ((putL_ne (i := 1) (by decide)).symm.trans h) 1 (by decide)) (by rw [hLi]; decide)⟩
    · have f1 := F1.out (hanc 1 (by decide))
      have g1 := f1
      subst g1
      refine wpOp_doG 2 (by rfl) (by rfl) ?_
      go_wp2_with fail
      have hb : Below wx.heap.size wx wx := Below.refl _ _
      show I (putL L 2) _ _
      exact (HI.out (putL L 2) _ _).2 ⟨_, _, _, _, _, _, _, _, _, _, rfl, below_next HS.out hb, E0.out.later hb, fun h => (by first | exact F0.out ((putL_ne (i := 2) (by decide)).symm.trans h) | rfl), fun h => (by first | exact F1.out ((putL_ne (i := 2) (by decide)).symm.trans h) | rfl), fun _ => rfl, fun h => (by first | exact F3.out ((putL_ne (i := 2) (by decide)).symm.trans h) | rfl), fun h => (by first | exact F4.out ((putL_ne (i := 2) (by decide)).symm.trans h) | rfl), fun h => absurd (hcl 5 ((putL_ne (i := 2) (by decide)).symm.trans h) 2 (by decide)) (by rw [hLi]; decide), fun h => (by first | exact F6.out ((putL_ne (i := 2) (by decide)).symm.trans h) | rfl), fun h => (fun q => q.imp fun _ k => ⟨k.1, k.2.later hb⟩) (F7.out ((putL_ne (i := 2) (by decide)).symm.trans h)), fun h => absurd (hcl 8 ((putL_ne (i := 2) (by decide)).symm.trans h) 2 (by decide)) (by rw [hLi]; decide), fun h => absurd (hcl 9 ((putL_ne (i := 2) (by decide)).symm.trans h) 2 (by decide)) (by rw [hLi]; decide)⟩
    · refine YieldsIf.wpOp (S := fun _ => True) (v := .slice al n cl) (by rfl) (.inl ⟨rfl, fun w _ => rfl⟩) trivial ?_
      simp only [Act.put, List.setIfInBounds_toArray, List.set_cons_zero, List.set_cons_succ]
      have hb : Below wx.heap.size wx wx := Below.refl _ _
      show I (putL L 3) _ _
      exact (HI.out (putL L 3) _ _).2 ⟨_, _, _, _, _, _, _, _, _, _, rfl, below_next HS.out hb, E0.out.later hb, fun h => (by first | exact F0.out ((putL_ne (i := 3) (by decide)).symm.trans h) | rfl), fun h => (by first | exact F1.out ((putL_ne (i := 3) (by decide)).symm.trans h) | rfl), fun h => (by first | exact F2.out ((putL_ne (i := 3) (by decide)).symm.trans h) | rfl), fun _ => rfl, fun h => absurd (hcl 4 ((putL_ne (i := 3) (by decide)).symm.trans h) 3 (by decide)) (by rw [hLi]; decide), fun h => absurd (hcl 5 ((putL_ne (i := 3) (by decide)).symm.trans h) 3 (by decide)) (by rw [hLi]; decide), fun h => (by first | exact F6.out ((putL_ne (i := 3) (by decide)).symm.trans h) | rfl), fun h => (fun q => q.imp fun _ k => ⟨k.1, k.2.later hb⟩) (F7.out ((putL_ne (i := 3) (by decide)).symm.trans h)), fun h => absurd (hcl 8 ((putL_ne (i := 3) (by decide)).symm.trans h) 3 (by decide)) (by rw [hLi]; decide), fun h => absurd (hcl 9 ((putL_ne (i := 3) (by decide)).symm.trans h) 3 (by decide)) (by rw [hLi]; decide)⟩
    · have f3 := F3.out (hanc 3 (by decide))
      have g3 := f3
      subst g3
      refine wpOp_doG 4 (by rfl) (by rfl) ?_
      go_wp2_with fail
      have hb : Below wx.heap.size wx wx := Below.refl _ _
      show I (putL L 4) _ _
      exact (HI.out (putL L 4) _ _).2 ⟨_, _, _, _, _, _, _, _, _, _, rfl, below_next HS.out hb, E0.out.later hb, fun h => (by first | exact F0.out ((putL_ne (i := 4) (by decide)).symm.trans h) | rfl), fun h => (by first | exact F1.out ((putL_ne (i := 4) (by decide)).symm.trans h) | rfl), fun h => (by first | exact F2.out ((putL_ne (i := 4) (by decide)).symm.trans h) | rfl), fun h => (by first | exact F3.out ((putL_ne (i := 4) (by decide)).symm.trans h) | rfl), fun _ => rfl, fun h => absurd (hcl 5 ((putL_ne (i := 4) (by decide)).symm.trans h) 4 (by decide)) (by rw [hLi]; decide), fun h => (by first | exact F6.out ((putL_ne (i := 4) (by decide)).symm.trans h) | rfl), fun h => (fun q => q.imp fun _ k => ⟨k.1, k.2.later hb⟩) (F7.out ((putL_ne (i := 4) (by decide)).symm.trans h)), fun h => absurd (hcl 8 ((putL_ne (i := 4) (by decide)).symm.trans h) 4 (by decide)) (by rw [hLi]; decide), fun h => absurd (hcl 9 ((putL_ne (i := 4) (by decide)).symm.trans h) 4 (by decide)) (by rw [hLi]; decide)⟩
    · have f0 := F0.out (hanc 0 (by decide))
      have f1 := F1.out (hanc 1 (by decide))
      have f2 := F2.out (hanc 2 (by decide))
      have f3 := F3.out (hanc 3 (by decide))
      have f4 := F4.out (hanc 4 (by decide))
      have g0 := f0
      subst g0
      have g2 := f2
      subst g2
      have g4 := f4
      subst g4
      refine wpOp_doG 5 (by rfl) (by rfl) ?_
      have h0 := HC.out
      go_wp2_with fail
      have hb : Below wx.heap.size wx wx := Below.refl _ _
      show I (putL L 5) _ _
      exact (HI.out (putL L 5) _ _).2 ⟨_, _, _, _, _, _, _, _, _, _, rfl, below_next HS.out hb, E0.out.later hb, fun h => (by first | exact F0.out ((putL_ne (i := 5) (by decide)).symm.trans h) | rfl), fun h => (by first | exact F1.out ((putL_ne (i := 5) (by decide)).symm.trans h) | rfl), fun h => (by first | exact F2.out ((putL_ne (i := 5) (by decide)).symm.trans h) | rfl), fun h => (by first | exact F3.out ((putL_ne (i := 5) (by decide)).symm.trans h) | rfl), fun h => (by first | exact F4.out ((putL_ne (i := 5) (by decide)).symm.trans h) | rfl), fun _ => rfl, fun h => (by first | exact F6.out ((putL_ne (i := 5) (by decide)).symm.trans h) | rfl), fun h => (fun q => q.imp fun _ k => ⟨k.1, k.2.later hb⟩) (F7.out ((putL_ne (i := 5) (by decide)).symm.trans h)), fun h => absurd (hcl 8 ((putL_ne (i := 5) (by decide)).symm.trans h) 5 (by decide)) (by rw [hLi]; decide), fun h => absurd (hcl 9 ((putL_ne (i := 5) (by decide)).symm.trans h) 5 (by decide)) (by rw [hLi]; decide)⟩
    · refine wpOp_doG 6 (by rfl) (by rfl) ?_
      refine wp_load_mid 25 (.tmp 3) rfl w.heap.size 0 rfl (encV v) _ (Blk.all E0.out) Tryd.underlying25 rfl infoVv ?_
      simp only [Act.put, List.setIfInBounds_toArray, List.set_cons_zero, List.set_cons_succ]
      have hb : Below wx.heap.size wx wx := Below.refl _ _
      show I (putL L 6) _ _
      exact (HI.out (putL L 6) _ _).2 ⟨_, _, _, _, _, _, _, _, _, _, rfl, below_next HS.out hb, E0.out.later hb, fun h => (by first | exact F0.out ((putL_ne (i := 6) (by decide)).symm.trans h) | rfl), fun h => (by first | exact F1.out ((putL_ne (i := 6) (by decide)).symm.trans h) | rfl), fun h => (by first | exact F2.out ((putL_ne (i := 6) (by decide)).symm.trans h) | rfl), fun h => (by first | exact F3.out ((putL_ne (i := 6) (by decide)).symm.trans h) | rfl), fun h => (by first | exact F4.out ((putL_ne (i := 6) (by decide)).symm.trans h) | rfl), fun h => (by first | exact F5.out ((putL_ne (i := 6) (by decide)).symm.trans h) | rfl), fun _ => rfl, fun h => absurd (hcl 7 ((putL_ne (i := 6) (by decide)).symm.trans h) 6 (by decide)) (by rw [hLi]; decide), fun h => absurd (hcl 8 ((putL_ne (i := 6) (by decide)).symm.trans h) 6 (by decide)) (by rw [hLi]; decide), fun h => absurd (hcl 9 ((putL_ne (i := 6) (by decide)).symm.trans h) 6 (by decide)) (by rw [hLi]; decide)⟩
    · have f6 := F6.out (hanc 6 (by decide))
      have g6 := f6
      subst g6
      refine wpOp_doG 7 (by rfl) (by rfl) ?_
      go_wp2_with fail
      have HV9 := own_one wx w.heap.size HS.out.size v
      have hb := below_box wx (.cells (encV v).toArray 25)
      change OwnV (wx.alloc (.cells #[.int .i64 v.1, .int .i64 v.2.1, .string v.2.2] 25)) _ _ _ at HV9
      change Below _ wx (wx.alloc (.cells #[.int .i64 v.1, .int .i64 v.2.1, .string v.2.2] 25)) at hb
      show I (putL L 7) _ _
      exact (HI.out (putL L 7) _ _).2 ⟨_, _, _, _, _, _, _, _, _, _, rfl, below_next HS.out hb, E0.out.later hb, fun h => (by first | exact F0.out ((putL_ne (i := 7) (by decide)).symm.trans h) | rfl), fun h => (by first | exact F1.out ((putL_ne (i := 7) (by decide)).symm.trans h) | rfl), fun h => (by first | exact F2.out ((putL_ne (i := 7) (by decide)).symm.trans h) | rfl), fun h => (by first | exact F3.out ((putL_ne (i := 7) (by decide)).symm.trans h) | rfl), fun h => (by first | exact F4.out ((putL_ne (i := 7) (by decide)).symm.trans h) | rfl), fun h => (by first | exact F5.out ((putL_ne (i := 7) (by decide)).symm.trans h) | rfl), fun h => (by first | exact F6.out ((putL_ne (i := 7) (by decide)).symm.trans h) | rfl), fun _ => ⟨_, rfl, HV9⟩, fun h => absurd (hcl 8 ((putL_ne (i := 7) (by decide)).symm.trans h) 7 (by decide)) (by rw [hLi]; decide), fun h => absurd (hcl 9 ((putL_ne (i := 7) (by decide)).symm.trans h) 7 (by decide)) (by rw [hLi]; decide)⟩
    · have f0 := F0.out (hanc 0 (by decide))
      have f1 := F1.out (hanc 1 (by decide))
      have f2 := F2.out (hanc 2 (by decide))
      have f3 := F3.out (hanc 3 (by decide))
      have f4 := F4.out (hanc 4 (by decide))
      have f5 := F5.out (hanc 5 (by decide))
      have f6 := F6.out (hanc 6 (by decide))
      have f7 := F7.out (hanc 7 (by decide))
      have g5 := f5
      subst g5
      obtain ⟨q8, g7, hv8⟩ := f7
      subst g7
      refine wpOp_doG 8 (by rfl) (by rfl) ?_
      refine wp_appendF (.tmp 10) (.tmp 12) rfl al n cl l rfl HN.out (HV.out.later HS.out) q8 v rfl hv8.vsl HL.out ?_
      intro u9 wn ho9 hb
      simp only [Act.put, List.setIfInBounds_toArray, List.set_cons_zero, List.set_cons_succ]
      have ho9 := ho9.base HS.out.size
      show I (putL L 8) _ _
      exact (HI.out (putL L 8) _ _).2 ⟨_, _, _, _, _, _, _, _, _, _, rfl, below_next HS.out hb, E0.out.later hb, fun h => (by first | exact F0.out ((putL_ne (i := 8) (by decide)).symm.trans h) | rfl), fun h => (by first | exact F1.out ((putL_ne (i := 8) (by decide)).symm.trans h) | rfl), fun h => (by first | exact F2.out ((putL_ne (i := 8) (by decide)).symm.trans h) | rfl), fun h => (by first | exact F3.out ((putL_ne (i := 8) (by decide)).symm.trans h) | rfl), fun h => (by first | exact F4.out ((putL_ne (i := 8) (by decide)).symm.trans h) | rfl), fun h => (by first | exact F5.out ((putL_ne (i := 8) (by decide)).symm.trans h) | rfl), fun h => (by first | exact F6.out ((putL_ne (i := 8) (by decide)).symm.trans h) | rfl), fun h => (fun q => q.imp fun _ k => ⟨k.1, k.2.later hb⟩) (F7.out ((putL_ne (i := 8) (by decide)).symm.trans h)), fun _ => ho9, fun h => absurd (hcl 9 ((putL_ne (i := 8) (by decide)).symm.trans h) 8 (by decide)) (by rw [hLi]; decide)⟩
    · have f0 := F0.out (hanc 0 (by decide))
      have f1 := F1.out (hanc 1 (by decide))
      have f2 := F2.out (hanc 2 (by decide))
      have f3 := F3.out (hanc 3 (by decide))
      have f4 := F4.out (hanc 4 (by decide))
      have f5 := F5.out (hanc 5 (by decide))
      have f6 := F6.out (hanc 6 (by decide))
      have f7 := F7.out (hanc 7 (by decide))
      have f8 := F8.out (hanc 8 (by decide))
      refine YieldsIf.wpOp (S := fun _ => True) (v := t13) (by rfl) (.inl ⟨rfl, fun w _ => rfl⟩) trivial ?_
      simp only [Act.put, List.setIfInBounds_toArray, List.set_cons_zero, List.set_cons_succ]
      have hb : Below wx.heap.size wx wx := Below.refl _ _
      show I (putL L 9) _ _
      exact (HI.out (putL L 9) _ _).2 ⟨_, _, _, _, _, _, _, _, _, _, rfl, below_next HS.out hb, E0.out.later hb, fun h => (by first | exact F0.out ((putL_ne (i := 9) (by decide)).symm.trans h) | rfl), fun h => (by first | exact F1.out ((putL_ne (i := 9) (by decide)).symm.trans h) | rfl), fun h => (by first | exact F2.out ((putL_ne (i := 9) (by decide)).symm.trans h) | rfl), fun h => (by first | exact F3.out ((putL_ne (i := 9) (by decide)).symm.trans h) | rfl), fun h => (by first | exact F4.out ((putL_ne (i := 9) (by decide)).symm.trans h) | rfl), fun h => (by first | exact F5.out ((putL_ne (i := 9) (by decide)).symm.trans h) | rfl), fun h => (by first | exact F6.out ((putL_ne (i := 9) (by decide)).symm.trans h) | rfl), fun h => (fun q => q.imp fun _ k => ⟨k.1, k.2.later hb⟩) (F7.out ((putL_ne (i := 9) (by decide)).symm.trans h)), fun h => (fun q => q.later hb) (F8.out ((putL_ne (i := 9) (by decide)).symm.trans h)), fun _ => rfl⟩
  · intro L act wx hall hIa
    obtain ⟨t5, t6, t7, t8, t9, t10, t11, t12, t13, t4, rfl, HS, E0, F0, F1, F2, F3, F4, F5, F6, F7, F8, F9⟩ := (HI.out _ _ _).1 hIa
    have f0 := F0.out (hall 0 (by decide))
    have f1 := F1.out (hall 1 (by decide))
    have f2 := F2.out (hall 2 (by decide))
    have f3 := F3.out (hall 3 (by decide))
    have f4 := F4.out (hall 4 (by decide))
    have f5 := F5.out (hall 5 (by decide))
    have f6 := F6.out (hall 6 (by decide))
    have f7 := F7.out (hall 7 (by decide))
    have f8 := F8.out (hall 8 (by decide))
    have f9 := F9.out (hall 9 (by decide))
    clear hIa HI F0 F1 F2 F3 F4 F5 F6 F7 F8 F9
    show K9 _ _
    apply hK9
    clear hK9
    have ho := f8
    have g9 := f9
    subst g9
    clear E0 f0 f1 f2 f3 f4 f5 f6 f7 f8 f9
    go_wp2
    go_ret
    exact ⟨_, rfl, ho, HS.out⟩
theorem pop_nil (m : Int) (al : Option Addr) (cl : Nat) (w : World) :
    Calls Tryd.prog 24 #[.int .i64 m, .slice al 0 cl] w fun e w' => e = .returned (.tuple #[.agg (encV noV).toArray, nilS]) ∧ Below w.heap.size w w' := by
  have R0 : Hid (Blk (w.alloc (.cells #[.int .i64 0, .int .i64 0, .string ⟨#[]⟩] 25)) w.heap.size (encV noV) 25) := Blk.new w _ _
  have B0 : Hid (Below w.heap.size w (w.alloc (.cells #[.int .i64 0, .int .i64 0, .string ⟨#[]⟩] 25))) := below_box w _
  go_enter Tryd.func24, Tryd.ntmps24
  go_wp2_with (first
    | ((with_reducible refine wp_storeB 25 (.tmp 4) (.tmp 10) w.heap.size 0 (encV noV) (encV noV) 25 ?_ ?_ (encV_one _) ?_ ?_ ?_ R0.out ?_); (exact infoVv); (exact (show 0 + 3 ≤ 3 by decide)); (exact ⟨rfl, rfl⟩); (exact rfl); (exact rfl); (intro w2 D1 o2); (replace D1 : Blk w2 w.heap.size (encV noV) 25 := D1); (have HD : Hid (Blk w2 w.heap.size (encV noV) 25) := D1); (have HB2 : Hid (Below w.heap.size w w2) := below_oth B0.out o2 (Nat.le_refl _) (Nat.le_refl _) B0.out.size); (clear D1 o2)))
  refine ret_blk2 rfl w.heap.size (encV noV) 25 _ nilS Tryd.underlying25 rfl infoVv rfl HD.out rfl rfl ?_
  exact ⟨rfl, HB2.out⟩
set_option maxRecDepth 100000 in
set_option maxHeartbeats 16000000 in
theorem pop_first (b o n cl : Nat) (l : List Val) (w : World) (hv : VSl w (.slice (some ⟨b, o, none⟩) n cl) l) (hn : l.length = n) (h0 : 0 < n) :
    Calls Tryd.prog 24 #[.int .i64 5, .slice (some ⟨b, o, none⟩) n cl] w fun e w' => ∃ u, e = .returned (.tuple #[.agg (encV (nv l 0)).toArray, u]) ∧ VSl w' u (l.drop 1) ∧ Below w.heap.size w w' := by
  have mixed : Tryd.prog.follows .mixedOrders = true := by kernel_rfl
  obtain ⟨b', o', c', he, hbl, _, hat⟩ := vsl_first hv (by omega)
  injection he with he1 he2 he3
  injection he1 with he1
  injection he1 with hb1 ho1 _
  subst hb1 ho1
  have hx := hat 0 (by omega)
  rw [Nat.zero_mul, Nat.add_zero] at hx
  have hcut := (slice_cutV hv 1 l.length (by omega) (Nat.le_refl _)).1
  rw [List.take_of_length_le (by simp), hn] at hcut
  have hrun := fun w => run_cut_l .i64 (some ⟨b, o, none⟩) n cl 1 (by omega) w
  generalize sliced (some ⟨b, o, none⟩) 1 n cl 3 = u at hcut hrun
  obtain ⟨a4, c4, hu4, _, _, _⟩ := hcut.form
  generalize (l.drop 1).length = n4 at hu4
  subst hu4
  generalize l.drop 1 = l4 at *
  generalize nv l 0 = x at *
  have HX : Hid (At w b o x) := hx
  have HLt : Hid (b < w.heap.size) := hbl
  have HU : Hid (VSl w (.slice a4 n4 c4) l4) := hcut
  have HC : Hid (∀ w, (Instr.sliceAt 26 (.slice (some ⟨b, o, none⟩) n cl) (some (.int .i64 1)) none none).run Tryd.prog w = .ok (.slice a4 n4 c4) w) := hrun
  have HR0 : Hid (Blk (w.alloc (.cells #[.int .i64 0, .int .i64 0, .string ⟨#[]⟩] 25)) w.heap.size (encV noV) 25) := Blk.new w _ _
  have HB0 : Hid (Below w.heap.size w (w.alloc (.cells #[.int .i64 0, .int .i64 0, .string ⟨#[]⟩] 25))) := below_box w _
  have hne : ((n : Int) == 0) = false := by simp; omega
  have h0' : (0 : Int) < (n : Int) := by omega
  clear hat he2 he3 hx hcut hrun hv hn hbl
  go_enter Tryd.func24, Tryd.ntmps24
  go_wp2_with fail
  rename_i K9 hK9 hs9
  clear hs9
  obtain ⟨I, hI⟩ : ∃ I : (Nat → Bool) → Act → World → Prop, ∀ L act wx, I L act wx ↔ (fun (L : Nat → Bool) (act : Act) (wx : World) => ∃ (t13 : Value) (t14 : Value) (t15 : Value) (t16 : Value) (t17 : Value) (t5 : Value) , act = ⟨#[Value.int .i64 5, Value.slice (some ⟨b, o, none⟩) n cl, undef, undef, Value.pointer (some ⟨w.heap.size, 0, none⟩), t5, undef, Value.slice (some ⟨b, o, none⟩) n cl, Value.int .i64 (n : Int), Value.bool false, undef, Value.int .i64 5, Value.bool true, t13, t14, t15, t16, t17, undef, undef, undef, undef, undef, undef, undef, undef, undef, undef], []⟩ ∧ Hid (Below w.heap.size w wx) ∧ Hid (L 5 = false → Blk wx w.heap.size (encV noV) 25) ∧ Hid (L 0 = true → t13 = .slice (some ⟨b, o, none⟩) n cl) ∧ Hid (L 1 = true → t14 = .pointer (some ⟨b, o, none⟩)) ∧ Hid (L 2 = true → t15 = .agg #[.int .i64 x.1, .int .i64 x.2.1, .string x.2.2]) ∧ Hid (L 3 = true → t16 = .slice (some ⟨b, o, none⟩) n cl) ∧ Hid (L 4 = true → t17 = .slice a4 n4 c4) ∧ Hid (L 5 = true → Blk wx w.heap.size (encV x) 25) ∧ Hid (L 6 = true → t5 = .slice a4 n4 c4)) L act wx := ⟨_, fun _ _ _ => Iff.rfl⟩
  dsimp only at hI
  have HI : Hid (∀ L act wx, I L act wx ↔ _) := hI
  clear hI
  refine wp_region_inv mixed [[], [0], [0, 1], [], [3], [0, 1, 2], [3, 4]] (by kernel_rfl) I ?_ ?_ ?_
  · refine (HI.out _ _ _).2 ⟨_, _, _, _, _, _, rfl, ?_, ?_, fun h => Bool.noConfusion h, fun h => Bool.noConfusion h, fun h => Bool.noConfusion h, fun h => Bool.noConfusion h, fun h => Bool.noConfusion h, fun h => Bool.noConfusion h, fun h => Bool.noConfusion h⟩
    · exact below_next HB0.out (Stay.drew _)
    · exact fun _ => HR0.out.later (Stay.drew _)
  · intro i hi L act wx hIa hLi hcl hanc
    obtain ⟨t13, t14, t15, t16, t17, t5, rfl, HS, E0, F0, F1, F2, F3, F4, F5, F6⟩ := (HI.out _ _ _).1 hIa
    clear hIa
    have hi' : i = 0 ∨ i = 1 ∨ i = 2 ∨ i = 3 ∨ i = 4 ∨ i = 5 ∨ i = 6 := by have hi : i < 7 := hi; omega
    clear hi
    rcases hi' with rfl | rfl | rfl | rfl | rfl | rfl | rfl
    · refine YieldsIf.wpOp (S := fun _ => True) (v := .slice (some ⟨b, o, none⟩) n cl) (by rfl) (.inl ⟨rfl, fun w _ => rfl⟩) trivial ?_
      simp only [Act.put, List.setIfInBounds_toArray, List.set_cons_zero, List.set_cons_succ]
      have hb : Below wx.heap.size wx wx := Below.refl _ _
      show I (putL L 0) _ _
      exact (HI.out (putL L 0) _ _).2 ⟨_, _, _, _, _, _, rfl, below_next HS.out hb, fun h => (E0.out ((putL_ne (i := 0) (by decide)).symm.trans h)).later hb, fun _ => rfl, fun h => absurd (hcl 1 ((putL_ne (i := 0) (by decide)).symm.trans h) 0 (by decide)) (by rw [hLi]; decide), fun h => absurd (hcl 2 ((putL_ne (i := 0) (by decide)).symm.trans h) 0 (by decide)) (by rw [hLi]; decide), fun h => (by first | exact F3.out ((putL_ne (i := 0) (by decide)).symm.trans h) | rfl), fun h => (by first | exact F4.out ((putL_ne (i := 0) (by decide)).symm.trans h) | rfl), fun h => absurd (hcl 5 ((putL_ne (i := 0) (by decide)).symm.trans h) 0 (by decide)) (by rw [hLi]; decide), fun h => (by first | exact F6.out ((putL_ne (i := 0) (by decide)).symm.trans h) | rfl)⟩
    · have f0 := F0.out (hanc 0 (by decide))
      have g0 := f0
      subst g0
      refine wpOp_doG 1 (by rfl) (by rfl) ?_
      go_wp2_with fail
      have hb : Below wx.heap.size wx wx := Below.refl _ _
      show I (putL L 1) _ _
      exact (HI.out (putL L 1) _ _).2 ⟨_, _, _, _, _, _, rfl, below_next HS.out hb, fun h => (E0.out ((putL_ne (i := 1) (by decide)).symm.trans h)).later hb, fun h => (by first | exact F0.out ((putL_ne (i := 1) (by decide)).symm.trans h) | rfl), fun _ => rfl, fun h => absurd (hcl 2 ((putL_ne (i := 1) (by decide)).symm.trans h) 1 (by decide)) (by rw [hLi]; decide), fun h => (by first | exact F3.out ((putL_ne (i := 1) (by decide)).symm.trans h) | rfl), fun h => (by first | exact F4.out ((putL_ne (i := 1) (by decide)).symm.trans h) | rfl), fun h => absurd (hcl 5 ((putL_ne (i := 1) (by decide)).symm.trans h) 1 (by decide)) (by rw [hLi]; decide), fun h => (by first | exact F6.out ((putL_ne (i := 1) (by decide)).symm.trans h) | rfl)⟩
    · have f0 := F0.out (hanc 0 (by decide))
      have f1 := F1.out (hanc 1 (by decide))
      have g1 := f1
      subst g1
      refine wpOp_doG 2 (by rfl) (by rfl) ?_
      obtain ⟨x0, x1, x2⟩ := HX.out.later HLt.out HS.out
      go_wp2_with fail
      have hb : Below wx.heap.size wx wx := Below.refl _ _
      show I (putL L 2) _ _
      exact (HI.out (putL L 2) _ _).2 ⟨_, _, _, _, _, _, rfl, below_next HS.out hb, fun h => (E0.out ((putL_ne (i := 2) (by decide)).symm.trans h)).later hb, fun h => (by first | exact F0.out ((putL_ne (i := 2) (by decide)).symm.trans h) | rfl), fun h => (by first | exact F1.out ((putL_ne (i := 2) (by decide)).symm.trans h) | rfl), fun _ => rfl, fun h => (by first | exact F3.out ((putL_ne (i := 2) (by decide)).symm.trans h) | rfl), fun h => (by first | exact F4.out ((putL_ne (i := 2) (by decide)).symm.trans h) | rfl), fun h => absurd (hcl 5 ((putL_ne (i := 2) (by decide)).symm.trans h) 2 (by decide)) (by rw [hLi]; decide), fun h => (by first | exact F6.out ((putL_ne (i := 2) (by decide)).symm.trans h) | rfl)⟩
    · refine YieldsIf.wpOp (S := fun _ => True) (v := .slice (some ⟨b, o, none⟩) n cl) (by rfl) (.inl ⟨rfl, fun w _ => rfl⟩) trivial ?_
      simp only [Act.put, List.setIfInBounds_toArray, List.set_cons_zero, List.set_cons_succ]
      have hb : Below wx.heap.size wx wx := Below.refl _ _
      show I (putL L 3) _ _
      exact (HI.out (putL L 3) _ _).2 ⟨_, _, _, _, _, _, rfl, below_next HS.out hb, fun h => (E0.out ((putL_ne (i := 3) (by decide)).symm.trans h)).later hb, fun h => (by first | exact F0.out ((putL_ne (i := 3) (by decide)).symm.trans h) | rfl), fun h => (by first | exact F1.out ((putL_ne (i := 3) (by decide)).symm.trans h) | rfl), fun h => (by first | exact F2.out ((putL_ne (i := 3) (by decide)).symm.trans h) | rfl), fun _ => rfl, fun h => absurd (hcl 4 ((putL_ne (i := 3) (by decide)).symm.trans h) 3 (by decide)) (by rw [hLi]; decide), fun h => (fun q => q.later hb) (F5.out ((putL_ne (i := 3) (by decide)).symm.trans h)), fun h => absurd (hcl 6 ((putL_ne (i := 3) (by decide)).symm.trans h) 3 (by decide)) (by rw [hLi]; decide)⟩
    · have f3 := F3.out (hanc 3 (by decide))
      have g3 := f3
      subst g3
      refine wpOp_doG 4 (by rfl) (by rfl) ?_
      have h1 := HC.out
      go_wp2_with fail
      have hb : Below wx.heap.size wx wx := Below.refl _ _
      show I (putL L 4) _ _
      exact (HI.out (putL L 4) _ _).2 ⟨_, _, _, _, _, _, rfl, below_next HS.out hb, fun h => (E0.out ((putL_ne (i := 4) (by decide)).symm.trans h)).later hb, fun h => (by first | exact F0.out ((putL_ne (i := 4) (by decide)).symm.trans h) | rfl), fun h => (by first | exact F1.out ((putL_ne (i := 4) (by decide)).symm.trans h) | rfl), fun h => (by first | exact F2.out ((putL_ne (i := 4) (by decide)).symm.trans h) | rfl), fun h => (by first | exact F3.out ((putL_ne (i := 4) (by decide)).symm.trans h) | rfl), fun _ => rfl, fun h => (fun q => q.later hb) (F5.out ((putL_ne (i := 4) (by decide)).symm.trans h)), fun h => absurd (hcl 6 ((putL_ne (i := 4) (by decide)).symm.trans h) 4 (by decide)) (by rw [hLi]; decide)⟩
    · have f0 := F0.out (hanc 0 (by decide))
      have f1 := F1.out (hanc 1 (by decide))
      have f2 := F2.out (hanc 2 (by decide))
      have g2 := f2
      subst g2
      refine wpOp_doG 5 (by rfl) (by rfl) ?_
      refine wpo_storeB 25 (.tmp 4) (.tmp 15) w.heap.size 0 (encV x) (encV noV) 25 infoVv (show 0 + 3 ≤ 3 by decide) (encV_one x) rfl rfl rfl (E0.out hLi) ?_
      intro wn BP ho
      replace BP : Blk wn w.heap.size (encV x) 25 := BP
      simp only [Act.put, List.setIfInBounds_toArray, List.set_cons_zero, List.set_cons_succ]
      show I (putL L 5) _ _
      exact (HI.out (putL L 5) _ _).2 ⟨_, _, _, _, _, _, rfl, below_oth HS.out ho (Nat.le_refl _) (Nat.le_refl _) HS.out.size, fun h => (by rw [putL_self] at h; cases h), fun h => (by first | exact F0.out ((putL_ne (i := 5) (by decide)).symm.trans h) | rfl), fun h => (by first | exact F1.out ((putL_ne (i := 5) (by decide)).symm.trans h) | rfl), fun h => (by first | exact F2.out ((putL_ne (i := 5) (by decide)).symm.trans h) | rfl), fun h => (by first | exact F3.out ((putL_ne (i := 5) (by decide)).symm.trans h) | rfl), fun h => (by first | exact F4.out ((putL_ne (i := 5) (by decide)).symm.trans h) | rfl), fun _ => BP, fun h => (by first | exact F6.out ((putL_ne (i := 5) (by decide)).symm.trans h) | rfl)⟩
    · have f3 := F3.out (hanc 3 (by decide))
      have f4 := F4.out (hanc 4 (by decide))
      refine YieldsIf.wpOp (S := fun _ => True) (v := t17) (by rfl) (.inl ⟨rfl, fun w _ => rfl⟩) trivial ?_
      simp only [Act.put, List.setIfInBounds_toArray, List.set_cons_zero, List.set_cons_succ]
      have hb : Below wx.heap.size wx wx := Below.refl _ _
      show I (putL L 6) _ _
      exact (HI.out (putL L 6) _ _).2 ⟨_, _, _, _, _, _, rfl, below_next HS.out hb, fun h => (E0.out ((putL_ne (i := 6) (by decide)).symm.trans h)).later hb, fun h => (by first | exact F0.out ((putL_ne (i := 6) (by decide)).symm.trans h) | rfl), fun h => (by first | exact F1.out ((putL_ne (i := 6) (by decide)).symm.trans h) | rfl), fun h => (by first | exact F2.out ((putL_ne (i := 6) (by decide)).symm.trans h) | rfl), fun h => (by first | exact F3.out ((putL_ne (i := 6) (by decide)).symm.trans h) | rfl), fun h => (by first | exact F4.out ((putL_ne (i := 6) (by decide)).symm.trans h) | rfl), fun h => (fun q => q.later hb) (F5.out ((putL_ne (i := 6) (by decide)).symm.trans h)), fun _ => f4⟩
  · intro L act wx hall hIa
    obtain ⟨t13, t14, t15, t16, t17, t5, rfl, HS, E0, F0, F1, F2, F3, F4, F5, F6⟩ := (HI.out _ _ _).1 hIa
    have f0 := F0.out (hall 0 (by decide))
    have f1 := F1.out (hall 1 (by decide))
    have f2 := F2.out (hall 2 (by decide))
    have f3 := F3.out (hall 3 (by decide))
    have f4 := F4.out (hall 4 (by decide))
    have f5 := F5.out (hall 5 (by decide))
    have f6 := F6.out (hall 6 (by decide))
    clear hIa HI F0 F1 F2 F3 F4 F5 F6
    show K9 _ _
    apply hK9
    clear hK9
    have HD : Hid (Blk wx w.heap.size (encV x) 25) := f5
    have ga := f6
    subst ga
    clear E0 f0 f1 f2 f3 f4 f5 f6
    go_wp2
    refine ret_blk2 rfl w.heap.size (encV x) 25 _ (.slice a4 n4 c4) Tryd.underlying25 rfl infoVv rfl HD.out rfl rfl ?_
    exact ⟨_, rfl, HU.out.later HS.out, HS.out⟩
set_option maxRecDepth 100000 in
set_option maxHeartbeats 16000000 in
theorem pop_last (b o n cl k : Nat) (l : List Val) (w : World) (hv : VSl w (.slice (some ⟨b, o, none⟩) n cl) l) (hn : l.length = n) (hk : n = k + 1) (hn9 : n ≤ 900000) :
    Calls Tryd.prog 24 #[.int .i64 6, .slice (some ⟨b, o, none⟩) n cl] w fun e w' => ∃ u, e = .returned (.tuple #[.agg (encV (nv l k)).toArray, u]) ∧ VSl w' u (l.take k) ∧ Below w.heap.size w w' := by
  have mixed : Tryd.prog.follows .mixedOrders = true := by kernel_rfl
  obtain ⟨b', o', c', he, hbl, hcl, hat⟩ := vsl_first hv (by omega)
  injection he with he1 he2 he3
  injection he1 with he1
  injection he1 with hb1 ho1 _
  subst hb1 ho1 he3
  have hx := hat k (by omega)
  have hcut := (slice_cutV hv 0 k (by omega) (by omega)).1
  rw [List.drop_zero, Nat.sub_zero, sliced0Q] at hcut
  have hrun := fun w => run_cut_h .i64 (some ⟨b, o, none⟩) n cl k (by omega) w
  obtain ⟨a4, ha4⟩ : ∃ a4 : Option Addr, some ⟨b, o, none⟩ = a4 := ⟨_, rfl⟩
  obtain ⟨n4, hn4⟩ : ∃ n4, k = n4 := ⟨_, rfl⟩
  obtain ⟨c4, hc4⟩ : ∃ c4, cl = c4 := ⟨_, rfl⟩
  have HX : Hid (At w b (o + k * 3) (nv l k)) := hx
  generalize nv l k = x at *
  have HLt : Hid (b < w.heap.size) := hbl
  have HU : Hid (VSl w (.slice a4 n4 c4) (l.take k)) := by
    show VSl _ _ _
    rw [← ha4, ← hn4, ← hc4]; exact hcut
  have HC : Hid (∀ w, (Instr.sliceAt 26 (.slice (some ⟨b, o, none⟩) n cl) none (some (.int .i64 (k : Int))) none).run Tryd.prog w = .ok (.slice a4 n4 c4) w) := by
    show ∀ w, _
    intro w
    rw [hrun w, sliced0Q, ← ha4, ← hn4, ← hc4]
  have HR0 : Hid (Blk (w.alloc (.cells #[.int .i64 0, .int .i64 0, .string ⟨#[]⟩] 25)) w.heap.size (encV noV) 25) := Blk.new w _ _
  have HB0 : Hid (Below w.heap.size w (w.alloc (.cells #[.int .i64 0, .int .i64 0, .string ⟨#[]⟩] 25))) := below_box w _
  generalize l.take k = l4 at *
  have hne : ((n : Int) == 0) = false := by simp; omega
  have HE : Hid ((n : Int) - 1 = (k : Int)) := by show (n : Int) - 1 = (k : Int); omega
  have hkn : (k : Int) < (n : Int) := by omega
  clear hat he2 hx hcut hrun hv hn hbl ha4 hn4 hc4 hk
  go_enter Tryd.func24, Tryd.ntmps24
  go_wp2_with fail
  simp only [HE.out]
  rename_i K9 hK9 hs9
  clear hs9
  obtain ⟨I, hI⟩ : ∃ I : (Nat → Bool) → Act → World → Prop, ∀ L act wx, I L act wx ↔ (fun (L : Nat → Bool) (act : Act) (wx : World) => ∃ (t21 : Value) (t22 : Value) (t23 : Value) (t24 : Value) (t25 : Value) (t26 : Value) (t27 : Value) (t5 : Value) , act = ⟨#[Value.int .i64 6, Value.slice (some ⟨b, o, none⟩) n cl, undef, undef, Value.pointer (some ⟨w.heap.size, 0, none⟩), t5, Value.int .i64 (k : Int), Value.slice (some ⟨b, o, none⟩) n cl, Value.int .i64 (n : Int), Value.bool false, undef, Value.int .i64 6, Value.bool false, undef, undef, undef, undef, undef, Value.slice (some ⟨b, o, none⟩) n cl, Value.int .i64 (n : Int), Value.int .i64 (k : Int), t21, t22, t23, t24, t25, t26, t27], []⟩ ∧ Hid (Below w.heap.size w wx) ∧ Hid (L 7 = false → Blk wx w.heap.size (encV noV) 25) ∧ Hid (L 0 = true → t21 = .slice (some ⟨b, o, none⟩) n cl) ∧ Hid (L 1 = true → t22 = .int .i64 (k : Int)) ∧ Hid (L 2 = true → t23 = .pointer (some ⟨b, o + k * 3, none⟩)) ∧ Hid (L 3 = true → t24 = .agg #[.int .i64 x.1, .int .i64 x.2.1, .string x.2.2]) ∧ Hid (L 4 = true → t25 = .slice (some ⟨b, o, none⟩) n cl) ∧ Hid (L 5 = true → t26 = .int .i64 (k : Int)) ∧ Hid (L 6 = true → t27 = .slice a4 n4 c4) ∧ Hid (L 7 = true → Blk wx w.heap.size (encV x) 25) ∧ Hid (L 8 = true → t5 = .slice a4 n4 c4)) L act wx := ⟨_, fun _ _ _ => Iff.rfl⟩
  dsimp only at hI
  have HI : Hid (∀ L act wx, I L act wx ↔ _) := hI
  clear hI
  refine wp_region_inv mixed [[], [], [0, 1], [0, 1, 2], [], [], [4, 5], [0, 1, 2, 3], [4, 5, 6]] (by kernel_rfl) I ?_ ?_ ?_
  · refine (HI.out _ _ _).2 ⟨_, _, _, _, _, _, _, _, rfl, ?_, ?_, fun h => Bool.noConfusion h, fun h => Bool.noConfusion h, fun h => Bool.noConfusion h, fun h => Bool.noConfusion h, fun h => Bool.noConfusion h, fun h => Bool.noConfusion h, fun h => Bool.noConfusion h, fun h => Bool.noConfusion h, fun h => Bool.noConfusion h⟩
    · exact below_next HB0.out (Stay.drew _)
    · exact fun _ => HR0.out.later (Stay.drew _)
  · intro i hi L act wx hIa hLi hcl hanc
    obtain ⟨t21, t22, t23, t24, t25, t26, t27, t5, rfl, HS, E0, F0, F1, F2, F3, F4, F5, F6, F7, F8⟩ := (HI.out _ _ _).1 hIa
    clear hIa
    have hi' : i = 0 ∨ i = 1 ∨ i = 2 ∨ i = 3 ∨ i = 4 ∨ i = 5 ∨ i = 6 ∨ i = 7 ∨ i = 8 := by have hi : i < 9 := hi; omega
    clear hi
    rcases hi' with rfl | rfl | rfl | rfl | rfl | rfl | rfl | rfl | rfl
    · refine YieldsIf.wpOp (S := fun _ => True) (v := .slice (some ⟨b, o, none⟩) n cl) (by rfl) (.inl ⟨rfl, fun w _ => rfl⟩) trivial ?_
      simp only [Act.put, List.setIfInBounds_toArray, List.set_cons_zero, List.set_cons_succ]
      have hb : Below wx.heap.size wx wx := Below.refl _ _
      show I (putL L 0) _ _
      exact (HI.out (putL L 0) _ _).2 ⟨_, _, _, _, _, _, _, _, rfl, below_next HS.out hb, fun h => (E0.out ((putL_ne (i := 0) (by decide)).symm.trans h)).later hb, fun _ => rfl, fun h => (by first | exact F1.out ((putL_ne (i := 0) (by decide)).symm.trans h) | rfl), fun h => absurd (hcl 2 ((putL_ne (i := 0) (by decide)).symm.trans h) 0 (by decide)) (by rw [hLi]; decide), fun h => absurd (hcl 3 ((putL_ne (i := 0) (by decide)).symm.trans h) 0 (by decide)) (by rw [hLi]; decide), fun h => (by first | exact F4.out ((putL_ne (i := 0) (by decide)).symm.trans h) | rfl), fun h => (by first | exact F5.out ((putL_ne (i := 0) (by decide)).symm.trans h) | rfl), fun h => (by first | exact F6.out ((putL_ne (i := 0) (by decide)).symm.trans h) | rfl), fun h => absurd (hcl 7 ((putL_ne (i := 0) (by decide)).symm.trans h) 0 (by decide)) (by rw [hLi]; decide), fun h => (by first | exact F8.out ((putL_ne (i := 0) (by decide)).symm.trans h) | rfl)⟩
    · refine YieldsIf.wpOp (S := fun _ => True) (v := .int .i64 (k : Int)) (by rfl) (.inl ⟨rfl, fun w _ => rfl⟩) trivial ?_
      simp only [Act.put, List.setIfInBounds_toArray, List.set_cons_zero, List.set_cons_succ]
      have hb : Below wx.heap.size wx wx := Below.refl _ _
      show I (putL L 1) _ _
      exact (HI.out (putL L 1) _ _).2 ⟨_, _, _, _, _, _, _, _, rfl, below_next HS.out hb, fun h => (E0.out ((putL_ne (i := 1) (by decide)).symm.trans h)).later hb, fun h => (by first | exact F0.out ((putL_ne (i := 1) (by decide)).symm.trans h) | rfl), fun _ => rfl, fun h => absurd (hcl 2 ((putL_ne (i := 1) (by decide)).symm.trans h) 1 (by decide)) (by rw [hLi]; decide), fun h => absurd (hcl 3 ((putL_ne (i := 1) (by decide)).symm.trans h) 1 (by decide)) (by rw [hLi]; decide), fun h => (by first | exact F4.out ((putL_ne (i := 1) (by decide)).symm.trans h) | rfl), fun h => (by first | exact F5.out ((putL_ne (i := 1) (by decide)).symm.trans h) | rfl), fun h => (by first | exact F6.out ((putL_ne (i := 1) (by decide)).symm.trans h) | rfl), fun h => absurd (hcl 7 ((putL_ne (i := 1) (by decide)).symm.trans h) 1 (by decide)) (by rw [hLi]; decide), fun h => (by first | exact F8.out ((putL_ne (i := 1) (by decide)).symm.trans h) | rfl)⟩
    · have f0 := F0.out (hanc 0 (by decide))
      have f1 := F1.out (hanc 1 (by decide))
      have g0 := f0
      subst g0
      have g1 := f1
      subst g1
      refine wpOp_doG 2 (by rfl) (by rfl) ?_
      go_wp2_with fail
      have hb : Below wx.heap.size wx wx := Below.refl _ _
      show I (putL L 2) _ _
      exact (HI.out (putL L 2) _ _).2 ⟨_, _, _, _, _, _, _, _, rfl, below_next HS.out hb, fun h => (E0.out ((putL_ne (i := 2) (by decide)).symm.trans h)).later hb, fun h => (by first | exact F0.out ((putL_ne (i := 2) (by decide)).symm.trans h) | rfl), fun h => (by first | exact F1.out ((putL_ne (i := 2) (by decide)).symm.trans h) | rfl), fun _ => rfl, fun h => absurd (hcl 3 ((putL_ne (i := 2) (by decide)).symm.trans h) 2 (by decide)) (by rw [hLi]; decide), fun h => (by first | exact F4.out ((putL_ne (i := 2) (by decide)).symm.trans h) | rfl), fun h => (by first | exact F5.out ((putL_ne (i := 2) (by decide)).symm.trans h) | rfl), fun h => (by first | exact F6.out ((putL_ne (i := 2) (by decide)).symm.trans h) | rfl), fun h => absurd (hcl 7 ((putL_ne (i := 2) (by decide)).symm.trans h) 2 (by decide)) (by rw [hLi]; decide), fun h => (by first | exact F8.out ((putL_ne (i := 2) (by decide)).symm.trans h) | rfl)⟩
    · have f0 := F0.out (hanc 0 (by decide))
      have f1 := F1.out (hanc 1 (by decide))
      have f2 := F2.out (hanc 2 (by decide))
      have g2 := f2
      subst g2
      refine wpOp_doG 3 (by rfl) (by rfl) ?_
      obtain ⟨x0, x1, x2⟩ := HX.out.later HLt.out HS.out
      go_wp2_with fail
      have hb : Below wx.heap.size wx wx := Below.refl _ _
      show I (putL L 3) _ _
      exact (HI.out (putL L 3) _ _).2 ⟨_, _, _, _, _, _, _, _, rfl, below_next HS.out hb, fun h => (E0.out ((putL_ne (i := 3) (by decide)).symm.trans h)).later hb, fun h => (by first | exact F0.out ((putL_ne (i := 3) (by decide)).symm.trans h) | rfl), fun h => (by first | exact F1.out ((putL_ne (i := 3) (by decide)).symm.trans h) | rfl), fun h => (by first | exact F2.out ((putL_ne (i := 3) (by decide)).symm.trans h) | rfl), fun _ => rfl, fun h => (by first | exact F4.out ((putL_ne (i := 3) (by decide)).symm.trans h) | rfl), fun h => (by first | exact F5.out ((putL_ne (i := 3) (by decide)).symm.trans h) | rfl), fun h => (by first | exact F6.out ((putL_ne (i := 3) (by decide)).symm.trans h) | rfl), fun h => absurd (hcl 7 ((putL_ne (i := 3) (by decide)).symm.trans h) 3 (by decide)) (by rw [hLi]; decide), fun h => (by first | exact F8.out ((putL_ne (i := 3) (by decide)).symm.trans h) | rfl)⟩
    · refine YieldsIf.wpOp (S := fun _ => True) (v := .slice (some ⟨b, o, none⟩) n cl) (by rfl) (.inl ⟨rfl, fun w _ => rfl⟩) trivial ?_
      simp only [Act.put, List.setIfInBounds_toArray, List.set_cons_zero, List.set_cons_succ]
      have hb : Below wx.heap.size wx wx := Below.refl _ _
      show I (putL L 4) _ _
      exact (HI.out (putL L 4) _ _).2 ⟨_, _, _, _, _, _, _, _, rfl, below_next HS.out hb, fun h => (E0.out ((putL_ne (i := 4) (by decide)).symm.trans h)).later hb, fun h => (by first | exact F0.out ((putL_ne (i := 4) (by decide)).symm.trans h) | rfl), fun h => (by first | exact F1.out ((putL_ne (i := 4) (by decide)).symm.trans h) | rfl), fun h => (by first | exact F2.out ((putL_ne (i := 4) (by decide)).symm.trans h) | rfl), fun h => (by first | exact F3.out ((putL_ne (i := 4) (by decide)).symm.trans h) | rfl), fun _ => rfl, fun h => (by first | exact F5.out ((putL_ne (i := 4) (by decide)).symm.trans h) | rfl), fun h => absurd (hcl 6 ((putL_ne (i := 4) (by decide)).symm.trans h) 4 (by decide)) (by rw [hLi]; decide), fun h => (fun q => q.later hb) (F7.out ((putL_ne (i := 4) (by decide)).symm.trans h)), fun h => absurd (hcl 8 ((putL_ne (i := 4) (by decide)).symm.trans h) 4 (by decide)) (by rw [hLi]; decide)⟩
    · refine YieldsIf.wpOp (S := fun _ => True) (v := .int .i64 (k : Int)) (by rfl) (.inl ⟨rfl, fun w _ => rfl⟩) trivial ?_
      simp only [Act.put, List.setIfInBounds_toArray, List.set_cons_zero, List.set_cons_succ]
      have hb : Below wx.heap.size wx wx := Below.refl _ _
      show I (putL L 5) _ _
      exact (HI.out (putL L 5) _ _).2 ⟨_, _, _, _, _, _, _, _, rfl, below_next HS.out hb, fun h => (E0.out ((putL_ne (i := 5) (by decide)).symm.trans h)).later hb, fun h => (by first | exact F0.out ((putL_ne (i := 5) (by decide)).symm.trans h) | rfl), fun h => (by first | exact F1.out ((putL_ne (i := 5) (by decide)).symm.trans h) | rfl), fun h => (by first | exact F2.out ((putL_ne (i := 5) (by decide)).symm.trans h) | rfl), fun h => (by first | exact F3.out ((putL_ne (i := 5) (by decide)).symm.trans h) | rfl), fun h => (by first | exact F4.out ((putL_ne (i := 5) (by decide)).symm.trans h) | rfl), fun _ => rfl, fun h => absurd (hcl 6 ((putL_ne (i := 5) (by decide)).symm.trans h) 5 (by decide)) (by rw [hLi]; decide), fun h => (fun q => q.later hb) (F7.out ((putL_ne (i := 5) (by decide)).symm.trans h)), fun h => absurd (hcl 8 ((putL_ne (i := 5) (by decide)).symm.trans h) 5 (by decide)) (by rw [hLi]; decide)⟩
    · have f4 := F4.out (hanc 4 (by decide))
      have f5 := F5.out (hanc 5 (by decide))
      have g4 := f4
      subst g4
      have g5 := f5
      subst g5
      refine wpOp_doG 6 (by rfl) (by rfl) ?_
      have h1 := HC.out
      go_wp2_with fail
      have hb : Below wx.heap.size wx wx := Below.refl _ _
      show I (putL L 6) _ _
      exact (HI.out (putL L 6) _ _).2 ⟨_, _, _, _, _, _, _, _, rfl, below_next HS.out hb, fun h => (E0.out ((putL_ne (i := 6) (by decide)).symm.trans h)).later hb, fun h => (by first | exact F0.out ((putL_ne (i := 6) (by decide)).symm.trans h) | rfl), fun h => (by first | exact F1.out ((putL_ne (i := 6) (by decide)).symm.trans h) | rfl), fun h => (by first | exact F2.out ((putL_ne (i := 6) (by decide)).symm.trans h) | rfl), fun h => (by first | exact F3.out ((putL_ne (i := 6) (by decide)).symm.trans h) | rfl), fun h => (by first | exact F4.out ((putL_ne (i := 6) (by decide)).symm.trans h) | rfl), fun h => (by first | exact F5.out ((putL_ne (i := 6) (by decide)).symm.trans h) | rfl), fun _ => rfl, fun h => (fun q => q.later hb) (F7.out ((putL_ne (i := 6) (by decide)).symm.trans h)), fun h => absurd (hcl 8 ((putL_ne (i := 6) (by decide)).symm.trans h) 6 (by decide)) (by rw [hLi]; decide)⟩
    · have f0 := F0.out (hanc 0 (by decide))
      have f1 := F1.out (hanc 1 (by decide))
      have f2 := F2.out (hanc 2 (by decide))
      have f3 := F3.out (hanc 3 (by decide))
      have g3 := f3
      subst g3
      refine wpOp_doG 7 (by rfl) (by rfl) ?_
      refine wpo_storeB 25 (.tmp 4) (.tmp 24) w.heap.size 0 (encV x) (encV noV) 25 infoVv (show 0 + 3 ≤ 3 by decide) (encV_one x) rfl rfl rfl (E0.out hLi) ?_
      intro wn BP ho
      replace BP : Blk wn w.heap.size (encV x) 25 := BP
      simp only [Act.put, List.setIfInBounds_toArray, List.set_cons_zero, List.set_cons_succ]
      show I (putL L 7) _ _
      exact (HI.out (putL L 7) _ _).2 ⟨_, _, _, _, _, _, _, _, rfl, below_oth HS.out ho (Nat.le_refl _) (Nat.le_refl _) HS.out.size, fun h => (by rw [putL_self] at h; cases h), fun h => (by first | exact F0.out ((putL_ne (i := 7) (by decide)).symm.trans h) | rfl), fun h => (by first | exact F1.out ((putL_ne (i := 7) (by decide)).symm.trans h) | rfl), fun h => (by first | exact F2.out ((putL_ne (i := 7) (by decide)).symm.trans h) | rfl), fun h => (by first | exact F3.out ((putL_ne (i := 7) (by decide)).symm.trans h) | rfl), fun h => (by first | exact F4.out ((putL_ne (i := 7) (by decide)).symm.trans h) | rfl), fun h => (by first | exact F5.out ((putL_ne (i := 7) (by decide)).symm.trans h) | rfl), fun h => (by first | exact F6.out ((putL_ne (i := 7) (by decide)).symm.trans h) | rfl), fun _ => BP, fun h => (by first | exact F8.out ((putL_ne (i := 7) (by decide)).symm.trans h) | rfl)⟩
    · have f4 := F4.out (hanc 4 (by decide))
      have f5 := F5.out (hanc 5 (by decide))
      have f6 := F6.out (hanc 6 (by decide))
      refine YieldsIf.wpOp (S := fun _ => True) (v := t27) (by rfl) (.inl ⟨rfl, fun w _ => rfl⟩) trivial ?_
      simp only [Act.put, List.setIfInBounds_toArray, List.set_cons_zero, List.set_cons_succ]
      have hb : Below wx.heap.size wx wx := Below.refl _ _
      show I (putL L 8) _ _
      exact (HI.out (putL L 8) _ _).2 ⟨_, _, _, _, _, _, _, _, rfl, below_next HS.out hb, fun h => (E0.out ((putL_ne (i := 8) (by decide)).symm.trans h)).later hb, fun h => (by first | exact F0.out ((putL_ne (i := 8) (by decide)).symm.trans h) | rfl), fun h => (by first | exact F1.out ((putL_ne (i := 8) (by decide)).symm.trans h) | rfl), fun h => (by first | exact F2.out ((putL_ne (i := 8) (by decide)).symm.trans h) | rfl), fun h => (by first | exact F3.out ((putL_ne (i := 8) (by decide)).symm.trans h) | rfl), fun h => (by first | exact F4.out ((putL_ne (i := 8) (by decide)).symm.trans h) | rfl), fun h => (by first | exact F5.out ((putL_ne (i := 8) (by decide)).symm.trans h) | rfl), fun h => (by first | exact F6.out ((putL_ne (i := 8) (by decide)).symm.trans h) | rfl), fun h => (fun q => q.later hb) (F7.out ((putL_ne (i := 8) (by decide)).symm.trans h)), fun _ => f6⟩
  · intro L act wx hall hIa
    obtain ⟨t21, t22, t23, t24, t25, t26, t27, t5, rfl, HS, E0, F0, F1, F2, F3, F4, F5, F6, F7, F8⟩ := (HI.out _ _ _).1 hIa
    have f0 := F0.out (hall 0 (by decide))
    have f1 := F1.out (hall 1 (by decide))
    have f2 := F2.out (hall 2 (by decide))
    have f3 := F3.out (hall 3 (by decide))
    have f4 := F4.out (hall 4 (by decide))
    have f5 := F5.out (hall 5 (by decide))
    have f6 := F6.out (hall 6 (by decide))
    have f7 := F7.out (hall 7 (by decide))
    have f8 := F8.out (hall 8 (by decide))
    clear hIa HI F0 F1 F2 F3 F4 F5 F6 F7 F8
    show K9 _ _
    apply hK9
    clear hK9
    have HD : Hid (Blk wx w.heap.size (encV x) 25) := f7
    have ga := f8
    subst ga
    clear E0 f0 f1 f2 f3 f4 f5 f6 f7 f8
    go_wp2
    refine ret_blk2 rfl w.heap.size (encV x) 25 _ (.slice a4 n4 c4) Tryd.underlying25 rfl infoVv rfl HD.out rfl rfl ?_
    exact ⟨_, rfl, HU.out.later HS.out, HS.out⟩
end Go.Proofs.YthgafmhpajikdaaDoor
