/- The contract of the document's Outs. Conditions: texts of at most 2^62 bytes, at most a thousand values. -/
import Derived.Test.YtgdegbmakbfaaaaDoorSK
import Derived.Test.YtgdegbmakbfaaaaDoorSL
import Derived.Laws.AppendOwnNone
import Derived.BigQuiet
namespace Go.Proofs.YtgdegbmakbfaaaaDoor
open Go.RowKit Go.PlainAid Go.Sort
set_option linter.unusedVariables false
set_option linter.unusedSimpArgs false

/-- what holds of each row of the table holds of every sign that is there -/
theorem fr_is {p : Rw → Bool} (h : tab.all p = true) {m o : Int} (hf : fi m o = true) : p (fr m o) = true := by
  rcases fr_cases m o with ⟨k, hk, _, _, e, _⟩ | ⟨_, _, e⟩
  · rw [e, ← rwA_get k hk]
    exact List.all_eq_true.1 h _ (List.getElem_mem _)
  · rw [e] at hf; cases hf
theorem fr_kinds {m o : Int} (hf : fi m o = true) : ((fr m o).out = [] ∧ (fr m o).c = 0 ∧ dO (fr m o) = -1) ∨ ((fr m o).out = [4, 2] ∧ (fr m o).c = 2 ∧ dO (fr m o) = 99) ∨ ((fr m o).out.length = 1 ∧ (fr m o).c ≠ 2 ∧ dO (fr m o) = nth (fr m o).out 0 ∧ 0 ≤ dO (fr m o) ∧ dO (fr m o) ≤ 6) := by
  have := fr_is (p := fun r => decide ((r.out = [] ∧ r.c = 0 ∧ dO r = -1) ∨ (r.out = [4, 2] ∧ r.c = 2 ∧ dO r = 99) ∨ (r.out.length = 1 ∧ r.c ≠ 2 ∧ dO r = nth r.out 0 ∧ 0 ≤ dO r ∧ dO r ≤ 6))) (by kernel_rfl) hf
  exact of_decide_eq_true this

/-- append of one number, laid in a new block, to a row that the call owns -/
theorem wpList_appendI {ops : Array Oper} {rest : List Oper} {o : Oper} {a : Act} {w : World} {Q : Exit → Act → World → Prop} (hgd : o.guard = none) (s x : Operand)
    (ho : o.op = .call { callee := .builtin .append, args := #[s, x], argTypes := #[50, 50] }) (B : Nat) (v : Value) (xs : List Int) (hs : a.eval s = v) (hown : OwnI w B v xs)
    (ad : Addr) (c : Nat) (y : Int) (hx : a.eval x = .slice (some ad) 1 c) (hu : w.cell? ad = some (.int .i64 y)) (hlen : xs.length + 1 ≤ 1000000) (hbase : B ≤ w.heap.size)
    (h : ∀ v' w', OwnI w' B v' (xs ++ [y]) → w.grownBy w' v.ownBlock → wpList Tryd.prog ops Q rest (a.put o.dst v') w') : wpList Tryd.prog ops Q (o :: rest) a w := by
  obtain ⟨i0, hi, hz0, hz1, hz2⟩ := info_parts infoI
  unfold OwnI at hown h
  refine wpList_append_own_at _ hgd s x 50 ho B 3 i0 (.int .i64 0) 1 8 Tryd.underlying50 hi hz0 hz1 hz2 rfl (by decide) v xs.length (cellsI xs) hs hown ad 1 c (cellsI [y]) hx rfl ?_ (cellsI_one _) (by unfold maxLen; omega) (by omega) hbase ?_
  · intro j u hj
    cases j with
    | zero =>
      simp only [cellsI, List.map_cons, List.map_nil, List.getElem?_cons_zero, Option.some.injEq] at hj
      rw [← hj]
      have e : ad.add 0 = ad := by obtain ⟨b, o, m⟩ := ad; cases m <;> rfl
      rw [e]; exact hu
    | succ j => simp [cellsI] at hj
  · intro v' w' h1 h2 _ _
    refine h v' w' ?_ h2
    rw [cellsI_app] at h1
    simpa using h1

theorem manyB_0 {r : Rw} (h1 : r.out = []) (h2 : r.c = 0) (n : Nat) : manyB r n = decide (n = 0) := by unfold manyB; rw [h1, h2]; rfl
theorem manyB_2 {r : Rw} (h2 : r.c = 2) (n : Nat) : manyB r n = decide (n % 2 = 0) := by unfold manyB; rw [h2]; rfl
theorem manyB_1 {r : Rw} (h1 : r.out.length = 1) (h2 : r.c ≠ 2) (n : Nat) : manyB r n = decide (n = 1) := by unfold manyB; rw [if_neg h2, h1]
theorem outsOK_few {r : Rw} {xs : List Val} (h : manyB r xs.length = false) : outsOK r xs = false := by unfold outsOK; rw [h]; rfl
/-- the domains of the first k -/
def domsK (r : Rw) (k : Nat) : List Int := (List.range k).map (domI r)
theorem domsK_len (r : Rw) (k : Nat) : (domsK r k).length = k := by simp [domsK]
theorem domsK_succ (r : Rw) (k : Nat) : domsK r k ++ [domI r k] = domsK r (k + 1) := by unfold domsK; rw [List.range_succ, List.map_append]; rfl
theorem outs_yes {w w' : World} {m o : Int} {xs : List Val} {v : Value} (hf : fi m o = true) (h : outsOK (fr m o) xs = true) (hv : ISl w' v (domsK (fr m o) xs.length)) (hb : Below w.heap.size w w') : ROuts w m o xs (.returned (.tuple #[v, .bool true])) w' := by
  refine ⟨_, by rw [hf, h]; rfl, ?_, hb⟩
  rw [if_pos hf]; unfold outsL; rw [if_pos h]; exact hv
theorem domI_42 {r : Rw} (h : r.out = [4, 2]) (k j : Nat) (hj : k % 2 = j) : domI r k = 4 - (j : Int) * 2 := by
  unfold domI; rw [h]
  rw [show ([4, 2] : List Int).length = 2 from rfl, hj]
  have : j = 0 ∨ j = 1 := by omega
  rcases this with rfl | rfl <;> rfl
theorem letV_2 {r : Rw} (h : r.c = 2) (x : Val) (i : Nat) : letV r x i = takesB (domI r i) x.1 x.2.1 x.2.2 := by
  unfold letV letsB; rw [h]
  rw [show ((2 : Int) == 1) = false from rfl, Bool.and_false, Bool.or_false]

set_option maxHeartbeats 4000000 in
theorem routs_any (m o : Int) (v : Value) (xs : List Val) (w : World) (hv : VSl w v xs) (hs : ∀ i, i < xs.length → (nv xs i).2.2.size ≤ 4611686018427387904) (hn : xs.length ≤ 1000000) :
    Calls Tryd.prog 30 #[.int .i64 m, .int .i64 o, v] w fun e w' => ROuts w m o xs e w' := by
  have hF := rfind_any m o w
  have HV : Hid (VSl w v xs) := hv
  have HS : Hid (∀ i, i < xs.length → (nv xs i).2.2.size ≤ 4611686018427387904) := hs
  obtain ⟨a, c, rfl, hl, hm, _⟩ := hv
  have mixed : Tryd.prog.follows .mixedOrders = true := by kernel_rfl
  clear hs
  cases hfi : fi m o
  · go_enter Tryd.func30, Tryd.ntmps30
    go_wp2_with (go_at_call 38; refine hF.mono ?_; rintro e w1 ⟨vi, rfl, hi, hb1⟩; obtain ⟨ai, ci, rfl⟩ := hi.form; rw [hfi]; clear hi)
    refine bodyPost_ret (v := .tuple #[.slice none 0 0, .bool false]) (by simp [results, Tryd.f30, go_sem]) rfl ?_
    exact outs_no (by rw [hfi]; rfl) (below_more hb1 _)
  rcases fr_kinds hfi with ⟨k1, k2, k3⟩ | ⟨k1, k2, k3⟩ | ⟨k1, k2, k3, k4, k5⟩
  · have HM := manyB_0 k1 k2 xs.length
    have HF : Hid (fi m o = true) := hfi
    by_cases hx : xs.length = 0
    · have hok : Hid (outsOK (fr m o) xs = true) := outsOK_all (by rw [HM, decide_eq_true hx]) (fun i h => by omega)
      have hz : ((xs.length : Int) == 0) = true := by simp [hx]
      have HX : Hid (xs.length = 0) := hx
      clear hx
      go_enter Tryd.func30, Tryd.ntmps30
      go_wp2_with (go_at_call 38; refine hF.mono ?_; rintro e w1 ⟨vi, rfl, hi, hb1⟩; obtain ⟨ai, ci, rfl⟩ := hi.form; rw [hfi, k3]; clear hi)
      refine bodyPost_ret (v := .tuple #[.slice none 0 0, .bool true]) (by simp [results, Tryd.f30, go_sem]) rfl ?_
      exact outs_yes HF.out hok.out (by rw [HX.out]; exact ISl.nil _) (below_more hb1 _)
    · have hok : Hid (outsOK (fr m o) xs = false) := outsOK_few (by rw [HM, decide_eq_false hx])
      have hz : ((xs.length : Int) == 0) = false := by simp; intro e; apply hx; simp [e]
      clear hx
      go_enter Tryd.func30, Tryd.ntmps30
      go_wp2_with (go_at_call 38; refine hF.mono ?_; rintro e w1 ⟨vi, rfl, hi, hb1⟩; obtain ⟨ai, ci, rfl⟩ := hi.form; rw [hfi, k3]; clear hi)
      refine bodyPost_ret (v := .tuple #[.slice none 0 0, .bool false]) (by simp [results, Tryd.f30, go_sem]) rfl ?_
      exact outs_no (by rw [HF.out, hok.out]; rfl) (below_more hb1 _)
  · have HM := manyB_2 k2 xs.length
    have HF : Hid (fi m o = true) := hfi
    have HK1 : Hid ((fr m o).out = [4, 2]) := k1
    have HK2 : Hid ((fr m o).c = 2) := k2
    have HM' : Hid (manyB (fr m o) xs.length = decide (xs.length % 2 = 0)) := HM
    clear HM k1 k2
    go_enter Tryd.func30, Tryd.ntmps30
    go_wp2_with (go_at_call 38; refine hF.mono ?_; rintro e w1 ⟨vi, rfl, hi, hb1⟩; obtain ⟨ai, ci, rfl⟩ := hi.form; rw [hfi, k3]; clear hi)
    have hbw := below_more hb1 (.cells #[.slice ai (fr m o).inn.length ci, .int .i64 99, .bool (dM (fr m o)), .bool true] 73)
    generalize w1.alloc (.cells #[.slice ai (fr m o).inn.length ci, .int .i64 99, .bool (dM (fr m o)), .bool true] 73) = w2 at *
    clear hF k3 hfi
    go_loopw [9, 10] (fun l i wr => ∃ k : Nat, k ≤ xs.length ∧ i = .int .i64 (k : Int) ∧ OwnI wr w2.heap.size l (domsK (fr m o) k) ∧ Below w2.heap.size w2 wr ∧ ∀ i, i < k → letV (fr m o) (nv xs i) i = true) (fun l i wr => xs.length - (intOf i).toNat)
    case atStart => exact ⟨0, by omega, rfl, World.ownsRow_nil _ _ _ _, Below.refl _ _, fun i h => by omega⟩
    case round =>
      obtain ⟨k, hk, rfl, hown, hb, hall⟩ := hrel
      have HA : Hid (∀ i, i < k → letV (fr m o) (nv xs i) i = true) := hall
      have HO : Hid (OwnI wr w2.heap.size u9 (domsK (fr m o) k)) := hown
      obtain ⟨al, cl, hform⟩ := hown.isl.form
      rw [domsK_len] at hform
      clear hall hown
      by_cases hlt : k < xs.length
      · have hlt' : (k : Int) < (xs.length : Int) := by omega
        have HV2 := HV.out.later (below_next hbw hb)
        obtain ⟨p, q, rfl⟩ := vat_block HV2 (by omega)
        obtain ⟨a0, a1, a2⟩ := vat_cells HV2 hlt
        have hz := HS.out k hlt
        obtain ⟨x1, x2, x3, hx⟩ : ∃ x1 x2 x3, nv xs k = (x1, x2, x3) := ⟨_, _, _, rfl⟩
        rw [hx] at a0 a1 a2 hz
        dsimp only at a0 a1 a2 hz
        have HX : Hid (nv xs k = (x1, x2, x3)) := hx
        obtain ⟨j, hj⟩ : ∃ j, k % 2 = j := ⟨_, rfl⟩
        have hj2 : j < 2 := by omega
        have t2 : (k : Int).tmod 2 = (j : Int) := by rw [Int.tmod_eq_emod_of_nonneg (by omega), ← hj]; exact (Int.natCast_emod k 2).symm
        have HD : Hid (domI (fr m o) k = 4 - (j : Int) * 2) := domI_42 HK1.out k j hj
        have hT := fun w => rtakes_any (4 - (j : Int) * 2) x1 x2 x3 w hz
        have HE : Hid (letV (fr m o) (nv xs k) k = takesB (4 - (j : Int) * 2) x1 x2 x3) := by show _ = _; rw [letV_2 HK2.out, HX.out, HD.out]
        generalize takesB (4 - (j : Int) * 2) x1 x2 x3 = tb at hT HE
        clear HV2 hx hj hform
        cases tb
        · go_wp2_with (go_at_call 39; refine (hT _).mono ?_; rintro e w4 ⟨rfl, hb4⟩)
          refine bodyPost_ret (v := .tuple #[.slice none 0 0, .bool false]) (by simp [results, Tryd.f30, go_sem]) rfl ?_
          exact outs_no (by rw [HF.out, outsOK_no hlt HE.out]; rfl) (below_next (below_next hbw hb) hb4)
        · go_wp2_with (first | (go_at_call 39; refine (hT _).mono ?_; rintro e w4 ⟨rfl, hb4⟩; have hb24 : Below w2.heap.size w2 w4 := (below_next hb hb4); have HO4 : Hid (OwnI w4 w2.heap.size u9 (domsK (fr m o) k)) := (HO.out.later hb4); clear a0 a1 a2) | (at_builtin; refine wpList_appendI rfl (.tmp 51) (.tmp 53) rfl w2.heap.size u9 _ rfl (HO4.out.later (below_box _ _)) ⟨w4.heap.size, 0, none⟩ 1 (4 - (j : Int) * 2) rfl (by simp) (by rw [domsK_len]; omega) (by have := hb24.size; simp; omega) ?_; intro v6 w6 o6 g6; have HO6 : Hid (OwnI w6 w2.heap.size v6 (domsK (fr m o) k ++ [4 - (j : Int) * 2])) := o6; have HB6 : Hid (Below w2.heap.size w2 w6) := Below.grown (below_more hb24 _) g6 (by have := hb24.size; simp; omega) (fun q h => (World.ownsRow.lt HO4.out q h).1); clear o6 g6))
          go_roundw
          case rel =>
            refine ⟨k + 1, by omega, by go_num, ?_, HB6.out, fun i hi => ?_⟩
            · rw [← domsK_succ, HD.out]; exact HO6.out
            · by_cases e : i = k
              · subst e; exact HE.out
              · exact HA.out i (by omega)
          case measure => simp [intOf]; omega
      · have e : k = xs.length := by omega
        subst e
        subst hform
        by_cases hev : xs.length % 2 = 0
        · have t2 : (xs.length : Int).tmod 2 = 0 := by rw [Int.tmod_eq_emod_of_nonneg (by omega)]; omega
          have hok := outsOK_all (by rw [HM'.out, decide_eq_true hev]) HA.out
          have HOK : Hid (outsOK (fr m o) xs = true) := hok
          clear hok hev
          go_wp2
          refine bodyPost_ret (v := .tuple #[.slice al xs.length cl, .bool true]) (by simp [results, Tryd.f30, go_sem]) rfl ?_
          exact outs_yes HF.out HOK.out HO.out.isl (below_next hbw hb)
        · have t2 : (xs.length : Int).tmod 2 = 1 := by rw [Int.tmod_eq_emod_of_nonneg (by omega)]; omega
          have hok : Hid (outsOK (fr m o) xs = false) := outsOK_few (by rw [HM'.out, decide_eq_false hev])
          clear hev
          go_wp2
          refine bodyPost_ret (v := .tuple #[.slice none 0 0, .bool false]) (by simp [results, Tryd.f30, go_sem]) rfl ?_
          exact outs_no (by rw [HF.out, hok.out]; rfl) (below_next hbw hb)
  · have HM := manyB_1 k1 k2 xs.length
    have HF : Hid (fi m o = true) := hfi
    have HK1 : Hid ((fr m o).out.length = 1) := k1
    have HK3 : Hid (dO (fr m o) = nth (fr m o).out 0) := k3
    obtain ⟨d, hd⟩ : ∃ d, dO (fr m o) = d := ⟨_, rfl⟩
    obtain ⟨mb, hmb⟩ : ∃ mb, dM (fr m o) = mb := ⟨_, rfl⟩
    have HD : Hid (dO (fr m o) = d) := hd
    have HMB : Hid (dM (fr m o) = mb) := hmb
    rw [hd] at k4 k5
    have n1 : ¬ d < 0 := by omega
    have n2 : (d == 99) = false := by simp; omega
    clear k1 k2 k3 k4 k5
    by_cases hx : xs.length = 1
    · have HM' : Hid (manyB (fr m o) xs.length = true) := by show _ = _; rw [HM, decide_eq_true hx]
      have hz : ((xs.length : Int) != 1) = false := by simp [hx]
      have hpos : (0 : Int) < (xs.length : Int) := by omega
      have hpos' : 0 < xs.length := by omega
      have HX : Hid (xs.length = 1) := hx
      clear hx HM
      obtain ⟨p, q, rfl⟩ := vat_block HV.out hpos'
      go_enter Tryd.func30, Tryd.ntmps30
      go_wp2_with (go_at_call 38; refine hF.mono ?_; rintro e w1 ⟨vi, rfl, hi, hb1⟩; obtain ⟨ai, ci, rfl⟩ := hi.form; rw [hfi, hd, hmb]; clear hi)
      have e1 : ((w1.alloc (.cells #[.slice ai (fr m o).inn.length ci, .int .i64 d, .bool mb, .bool true] 73)).alloc (.cells #[.int .i64 0, .int .i64 0, .string ⟨#[]⟩] 38)).cell? ⟨w1.heap.size, 1, none⟩ = some (.int .i64 d) := by simp
      have e2 : ((w1.alloc (.cells #[.slice ai (fr m o).inn.length ci, .int .i64 d, .bool mb, .bool true] 73)).alloc (.cells #[.int .i64 0, .int .i64 0, .string ⟨#[]⟩] 38)).cell? ⟨w1.heap.size, 2, none⟩ = some (.bool mb) := by simp
      have f0 : ((w1.alloc (.cells #[.slice ai (fr m o).inn.length ci, .int .i64 d, .bool mb, .bool true] 73)).alloc (.cells #[.int .i64 0, .int .i64 0, .string ⟨#[]⟩] 38)).cell? ⟨w1.heap.size + 1, 0, none⟩ = some (.int .i64 0) := by simp
      have f1 : ((w1.alloc (.cells #[.slice ai (fr m o).inn.length ci, .int .i64 d, .bool mb, .bool true] 73)).alloc (.cells #[.int .i64 0, .int .i64 0, .string ⟨#[]⟩] 38)).cell? ⟨w1.heap.size + 1, 1, none⟩ = some (.int .i64 0) := by simp
      have f2 : ((w1.alloc (.cells #[.slice ai (fr m o).inn.length ci, .int .i64 d, .bool mb, .bool true] 73)).alloc (.cells #[.int .i64 0, .int .i64 0, .string ⟨#[]⟩] 38)).cell? ⟨w1.heap.size + 1, 2, none⟩ = some (.string ⟨#[]⟩) := by simp
      have hp1 : w1.heap.size < ((w1.alloc (.cells #[.slice ai (fr m o).inn.length ci, .int .i64 d, .bool mb, .bool true] 73)).alloc (.cells #[.int .i64 0, .int .i64 0, .string ⟨#[]⟩] 38)).heap.size := by simp; omega
      have hbw := below_more (below_more hb1 (.cells #[.slice ai (fr m o).inn.length ci, .int .i64 d, .bool mb, .bool true] 73)) (.cells #[.int .i64 0, .int .i64 0, .string ⟨#[]⟩] 38)
      generalize (w1.alloc (.cells #[.slice ai (fr m o).inn.length ci, .int .i64 d, .bool mb, .bool true] 73)).alloc (.cells #[.int .i64 0, .int .i64 0, .string ⟨#[]⟩] 38) = w2 at *
      obtain ⟨a0, a1, a2⟩ := vat_cells (HV.out.later hbw) hpos'
      rw [Nat.zero_mul, Nat.add_zero] at a0 a1 a2
      have hzz := HS.out 0 hpos'
      obtain ⟨x1, x2, x3, hx⟩ : ∃ x1 x2 x3, nv xs 0 = (x1, x2, x3) := ⟨_, _, _, rfl⟩
      rw [hx] at a0 a1 a2 hzz
      dsimp only at a0 a1 a2 hzz
      have hT := fun w => rtakes_any d x1 x2 x3 w hzz
      have hq := fun w => eqV x1 x2 0 0 x3 ⟨#[]⟩ w
      have hg := eqgV
      have HE : Hid (letV (fr m o) (nv xs 0) 0 = (takesB d x1 x2 x3 || (eqvB x1 x2 x3 0 0 ⟨#[]⟩ && mb))) := by
        show _ = _
        unfold letV letsB domI noneB
        rw [Nat.zero_mod, ← HK3.out, HD.out, hx, ← HMB.out]; rfl
      generalize takesB d x1 x2 x3 = tb at hT HE
      generalize eqvB x1 x2 x3 0 0 ⟨#[]⟩ = zb at hq HE
      have e1' := fun d os => cell_regrown e1 d os
      have e2' := fun d os => cell_regrown e2 d os
      have f0' := fun d os => cell_regrown f0 d os
      have f1' := fun d os => cell_regrown f1 d os
      have f2' := fun d os => cell_regrown f2 d os
      have a0' := fun d os => cell_regrown a0 d os
      have a1' := fun d os => cell_regrown a1 d os
      have a2' := fun d os => cell_regrown a2 d os
      clear e2 f0 f1 f2 a0 a1 a2 hx hF
      cases tb <;> cases mb <;> cases zb
      all_goals
        refine wp_region_quiet_below (by assumption) (by kernel_rfl) ?_
        repeat (go_big_quiet_step (first | (go_at_call 39; with_reducible exact Calls.regrown_of (hT _))))
        refine wpQuiet_nil ?_
        intro _ hw'
        obtain ⟨⟨dq, osq⟩, hw''⟩ := hw'
        subst hw''
        have hbq := below_regrown w2 dq osq
        have g1 := e1' dq osq
        clear e1' e2' f0' f1' f2' a0' a1' a2' hT hq hg
        generalize grow (redrawn w2 dq) osq = w3 at *
        go_wp2
        first
        | (refine bodyPost_ret (v := .tuple #[.slice none 0 0, .bool false]) (by simp [results, Tryd.f30, go_sem]; done) rfl ?_
           exact outs_no (by rw [HF.out, outsOK_no hpos' HE.out]; rfl) (below_next hbw hbq))
        | (refine bodyPost_ret (v := .tuple #[.slice (some ⟨w3.heap.size, 0, none⟩) 1 1, .bool true]) (by simp [results, Tryd.f30, go_sem]; done) rfl ?_
           have hok := outsOK_all HM'.out (fun i hi => by rw [HX.out] at hi; have e : i = 0 := (by omega); subst e; exact HE.out)
           refine outs_yes HF.out hok ?_ (below_more (below_next hbw hbq) _)
           rw [HX.out, show domsK (fr m o) 1 = [d] by unfold domsK domI; rw [← HD.out, HK3.out, HK1.out]; rfl]
           exact isl_1 (by simp) (by simp))
    · have hok : Hid (outsOK (fr m o) xs = false) := outsOK_few (by rw [HM, decide_eq_false hx])
      have hz : ((xs.length : Int) != 1) = true := by simp; omega
      clear hx HM
      go_enter Tryd.func30, Tryd.ntmps30
      go_wp2_with (go_at_call 38; refine hF.mono ?_; rintro e w1 ⟨vi, rfl, hi, hb1⟩; obtain ⟨ai, ci, rfl⟩ := hi.form; rw [hfi, hd]; clear hi)
      refine bodyPost_ret (v := .tuple #[.slice none 0 0, .bool false]) (by simp [results, Tryd.f30, go_sem]) rfl ?_
      exact outs_no (by rw [HF.out, hok.out]; rfl) (below_more hb1 _)
end Go.Proofs.YtgdegbmakbfaaaaDoor
