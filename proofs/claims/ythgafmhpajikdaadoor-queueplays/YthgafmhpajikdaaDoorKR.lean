/- The program's Step is as the chapter says of queues and stacks. Conditions: sizes; the table of signs lies in memory. -/
import Derived.Test.YthgafmhpajikdaaDoorKQ
import Derived.Test.YthgafmhpajikdaaDoorKS
namespace Go.Proofs.YthgafmhpajikdaaDoor
open Go.RowKit Go.PlainAid Ln Go.Sort
set_option linter.unusedVariables false
set_option linter.unusedSimpArgs false

theorem pop_any (m : Int) (al : Option Addr) (n cl : Nat) (l : List Val) (w : World) (hm : ownQ m = true) (hv : VSl w (.slice al n cl) l) (hn : l.length = n) (hl : n ≤ 900000) :
    Calls Tryd.prog 24 #[.int .i64 m, .slice al n cl] w fun e w' => ∃ u, e = .returned (.tuple #[.agg (encV (topQ m l)).toArray, u]) ∧ VSl w' u (popQ m l) ∧ Below w.heap.size w w' := by
  rcases Nat.eq_zero_or_pos n with h0 | h0
  · subst h0
    have e0 : l = [] := List.length_eq_zero_iff.1 hn
    have e1 : topQ m l = noV := if_pos e0
    have e2 : popQ m l = [] := by rw [e0]; unfold popQ; split <;> rfl
    rw [e1, e2]
    refine (pop_nil m al cl w).mono ?_
    rintro e w' ⟨rfl, hb⟩
    exact ⟨_, rfl, vsl_nil0 _, hb⟩
  · have hne : l ≠ [] := by rintro rfl; simp at hn; omega
    obtain ⟨b, o, c', he, _, _, _⟩ := vsl_first hv (by omega)
    injection he with he1 he2 he3
    subst he1
    rcases (ownQ_iff m).1 hm with rfl | rfl
    · have e1 : topQ 5 l = nv l 0 := by unfold topQ; rw [if_neg hne, if_neg (by decide)]
      have e2 : popQ 5 l = l.drop 1 := by unfold popQ; rw [if_neg (by decide)]
      rw [e1, e2]
      exact pop_first b o n cl l w hv hn h0
    · obtain ⟨k, hk⟩ : ∃ k, n = k + 1 := ⟨n - 1, by omega⟩
      have e1 : topQ 6 l = nv l k := by unfold topQ; rw [if_neg hne, if_pos rfl]; unfold lastV; rw [hn, hk]; rfl
      have e2 : popQ 6 l = l.take k := by unfold popQ; rw [if_pos rfl, hn, hk]; rfl
      rw [e1, e2]
      exact pop_last b o n cl k l w hv hn hk hl
set_option maxHeartbeats 4000000 in
theorem step_noQ (m : Int) (v c : Val) (l : Value) (o : Int) (va : Value) (xs : List Val) (w : World) (ht : Tb w) (hv : VSl w va xs) (hs : SzV xs) (hc : c.2.2.size ≤ 4611686018427387904) (h : (ownQ m && mayD m ⟨c, o, xs⟩) = false) :
    Calls Tryd.prog 12 #[.agg (stC m v l).toArray, .agg #[.int .i64 c.1, .int .i64 c.2.1, .string c.2.2], .int .i64 o, va] w fun e w' => e = .returned (.tuple #[.agg (stC 0 noV nilS).toArray, nilS, .bool false]) ∧ Below w.heap.size w w' := by
  have hM := fun w' (hb : Below w.heap.size w w') => may_anyQ m c o va xs w' (ht.later hb) (hv.later hb) hs hc
  rw [h] at hM
  have HM : Hid (∀ w', Below w.heap.size w w' → Calls Tryd.prog 22 #[.int .i64 m, .agg #[.int .i64 c.1, .int .i64 c.2.1, .string c.2.2], .int .i64 o, va] w' fun e w1 => e = .returned (.bool false) ∧ Below w'.heap.size w' w1) := hM
  clear hM hv hs ht hc h
  have T := three_laid w (stC m v l) (encV c) (stC 0 noV nilS) 28 25 28
  have HT : Hid _ := T
  simp only [stC]
  go_enter Tryd.func12, Tryd.ntmps12
  go_wp2_with fail
  refine (HM.out _ HT.out.2.2.2).mono ?_
  rintro e w4 ⟨rfl, hb4⟩
  have R4 := HT.out.2.2.1.later hb4
  have HB4 : Hid (Below w.heap.size w w4) := below_next HT.out.2.2.2 hb4
  have HQ : Hid (w.heap.size ≤ w.heap.size + 1 + 1) := (by omega : w.heap.size ≤ w.heap.size + 1 + 1)
  clear HT T hb4 HM
  go_wp2_with (first
    | ((with_reducible refine wp_storeB 28 (.tmp 8) (.tmp 20) (w.heap.size + 1 + 1) 0 (stC 0 noV nilS) (stC 0 noV nilS) 28 ?_ ?_ (stC_one _ _ rfl) ?_ ?_ ?_ R4 ?_); (exact infoSt); (exact (show 0 + 6 ≤ 6 by decide)); (exact ⟨rfl, rfl⟩); (exact rfl); (exact rfl); (intro w5 D1 o5); (replace D1 : Blk w5 (w.heap.size + 1 + 1) (stC 0 noV nilS) 28 := D1); (have HD : Hid (Blk w5 (w.heap.size + 1 + 1) (stC 0 noV nilS) 28) := D1); (have HB5 : Hid (Below w.heap.size w w5) := below_oth HB4.out o5 HQ.out HQ.out HB4.out.size); (clear D1 o5 HB4)))
  refine ret_blk3 rfl (w.heap.size + 1 + 1) (stC 0 noV nilS) 28 _ nilS (.bool false) Tryd.underlying28 rfl infoSt rfl HD.out rfl rfl rfl ?_
  exact ⟨rfl, HB5.out⟩
theorem len_one {xs : List Val} (h : xs.length = 1) : xs = [nv xs 0] := by
  match xs, h with
  | [x], _ => rw [nv_zero]
set_option maxRecDepth 100000 in
set_option maxHeartbeats 16000000 in
theorem step_push (m : Int) (B : Nat) (c : Val) (al : Option Addr) (n cl : Nat) (l : List Val) (va : Value) (xs : List Val) (w : World) (hm : ownQ m = true) (hB : B ≤ w.heap.size) (ht : Tb w) (hl : HeldV w B (.slice al n cl) l) (hl1 : l.length = n) (hn : n ≤ 1000) (hv : VSl w va xs) (hz : SzV xs) (hc : c.2.2.size ≤ 4611686018427387904) (hd : mayD m ⟨c, 9, xs⟩ = true) :
    Calls Tryd.prog 12 #[.agg (stC m noV (.slice al n cl)).toArray, .agg #[.int .i64 c.1, .int .i64 c.2.1, .string c.2.2], .int .i64 9, va] w fun e w' => RStepQ m B l ⟨c, 9, xs⟩ w e w' := by
  have mixed : Tryd.prog.follows .mixedOrders = true := by kernel_rfl
  have hM := fun w' (hb : Below w.heap.size w w') => may_anyQ m c 9 va xs w' (ht.later hb) (hv.later hb) hz hc
  rw [hd, hm] at hM
  have HM : Hid (∀ w', Below w.heap.size w w' → Calls Tryd.prog 22 #[.int .i64 m, .agg #[.int .i64 c.1, .int .i64 c.2.1, .string c.2.2], .int .i64 9, va] w' fun e w1 => e = .returned (.bool true) ∧ Below w'.heap.size w' w1) := hM
  have hx1 : xs.length = 1 := by
    rcases (may_casesQ hm hd).1 with h | h
    · exact h.2
    · exact absurd h.1 (by decide : ¬ (9 : Int) = 10)
  have hxs := len_one hx1
  obtain ⟨ba, oa, ca, rfl, hbl, hca, hat⟩ := vsl_first hv (by omega)
  have hat0 := hat 0 (by omega)
  rw [Nat.zero_mul, Nat.add_zero] at hat0
  have hN1 : nxQ m l ⟨c, 9, xs⟩ = l ++ [nv xs 0] := nxQ_9 rfl
  have hO1 : outQ m l ⟨c, 9, xs⟩ = [] := outQ_9 rfl
  obtain ⟨x, hx⟩ : ∃ x, nv xs 0 = x := ⟨_, rfl⟩
  rw [hx] at hat0 hN1
  have HX : Hid (At w ba oa x) := hat0
  have HLt : Hid (ba < w.heap.size) := hbl
  have HL : Hid (VSl w (.slice al n cl) l) := hl.vsl
  have HN : Hid (l.length = n) := hl1
  have HN9 : Hid (n ≤ 900000) := (by omega : n ≤ 900000)
  rw [hx1] at HM ⊢
  clear hM hat hat0 hx hxs hl hl1 hv hz ht hc hd hbl hn hca
  have T := three_laid w (stC m noV (.slice al n cl)) (encV c) (stC 0 noV nilS) 28 25 28
  have HT : Hid _ := T
  simp only [stC]
  clear T
  go_enter Tryd.func12, Tryd.ntmps12
  go_wp2_with fail
  refine (HM.out _ HT.out.2.2.2).mono ?_
  rintro e w4 ⟨rfl, hb4⟩
  have HR4 : Hid (Blk w4 (w.heap.size + 1 + 1) (stC 0 noV nilS) 28) := HT.out.2.2.1.later hb4
  have HS4 : Hid (Blk w4 w.heap.size (stC m noV (.slice al n cl)) 28) := HT.out.1.later hb4
  have HB4 : Hid (Below w.heap.size w w4) := below_next HT.out.2.2.2 hb4
  have HQ : Hid (w.heap.size ≤ w.heap.size + 1 + 1 ∧ w.heap.size ≠ w.heap.size + 1 + 1) := (by omega : w.heap.size ≤ w.heap.size + 1 + 1 ∧ w.heap.size ≠ w.heap.size + 1 + 1)
  clear HT hb4 HM
  generalize w.heap.size + 1 + 1 = r at *
  go_wp2_with fail
  rename_i K9 hK9
  obtain ⟨I, hI⟩ : ∃ I : (Nat → Bool) → Act → World → Prop, ∀ L act wx, I L act wx ↔ (fun (L : Nat → Bool) (act : Act) (wx : World) => ∃ (t23 : Value) (t24 : Value) (t25 : Value) (t26 : Value) (t27 : Value) (t28 : Value) (t29 : Value) (t30 : Value) (t31 : Value) (t9 : Value) (t10 : Value) (al9 : Option Addr) (cl9 : Nat) (nl9 : Nat), act = ⟨#[Value.agg #[Value.int .i64 m, Value.int .i64 0, Value.int .i64 0, Value.string noB, Value.int .i64 0, Value.slice al n cl], Value.agg #[Value.int .i64 c.1, Value.int .i64 c.2.1, Value.string c.2.2], Value.int .i64 9, Value.slice (some ⟨ba, oa, none⟩) 1 ca, Value.pointer (some ⟨w.heap.size, 0, none⟩), Value.pointer (some ⟨w.heap.size + 1, 0, none⟩), undef, undef, Value.pointer (some ⟨r, 0, none⟩), t9, t10, undef, undef, Value.pointer (some ⟨w.heap.size, 0, none⟩), Value.int .i64 m, Value.agg #[Value.int .i64 c.1, Value.int .i64 c.2.1, Value.string c.2.2], Value.int .i64 9, Value.slice (some ⟨ba, oa, none⟩) 1 ca, Value.bool true, Value.bool false, undef, Value.int .i64 9, Value.bool true, t23, t24, t25, t26, t27, t28, t29, t30, t31, undef, undef, undef, undef, undef, undef, undef, undef, undef, undef, undef, undef, undef, undef, undef, undef], []⟩ ∧ Hid (Below w.heap.size w wx) ∧ Hid (L 9 = false → Blk wx r (stC 0 noV nilS) 28) ∧ Hid (Blk wx w.heap.size (stC m noV (.slice al n cl)) 28) ∧ Hid (L 0 = true → t23 = .pointer (some ⟨w.heap.size, 0, none⟩)) ∧ Hid (L 1 = true → t24 = .int .i64 m) ∧ Hid (L 2 = true → t25 = .pointer (some ⟨w.heap.size, 5, none⟩)) ∧ Hid (L 3 = true → t26 = .slice al n cl) ∧ Hid (L 4 = true → t27 = .slice (some ⟨ba, oa, none⟩) 1 ca) ∧ Hid (L 5 = true → t28 = .pointer (some ⟨ba, oa, none⟩)) ∧ Hid (L 6 = true → t29 = .agg #[.int .i64 x.1, .int .i64 x.2.1, .string x.2.2]) ∧ Hid (L 7 = true → t30 = .slice al9 nl9 cl9 ∧ OwnV wx w.heap.size (.slice al9 nl9 cl9) (l ++ [x])) ∧ Hid (L 8 = true → t31 = .agg (stC m noV (.slice al9 nl9 cl9)).toArray) ∧ Hid (L 9 = true → Blk wx r (stC m noV (.slice al9 nl9 cl9)) 28) ∧ Hid (L 10 = true → t9 = .slice none 0 0) ∧ Hid (L 11 = true → t10 = .bool true)) L act wx := ⟨_, fun _ _ _ => Iff.rfl⟩
  dsimp only at hI
  have HI : Hid (∀ L act wx, I L act wx ↔ _) := hI
  clear hI
  refine wp_region_inv mixed [[], [0], [], [2], [], [4], [4, 5], [2, 3, 4, 5, 6], [0, 1, 2, 3, 4, 5, 6, 7], [0, 1, 2, 3, 4, 5, 6, 7, 8], [], []] (by kernel_rfl) I ?_ ?_ ?_
  · refine (HI.out _ _ _).2 ⟨_, _, _, _, _, _, _, _, _, _, _, none, 0, 0, rfl, ?_, ?_, ?_, fun h => Bool.noConfusion h, fun h => Bool.noConfusion h, fun h => Bool.noConfusion h, fun h => Bool.noConfusion h, fun h => Bool.noConfusion h, fun h => Bool.noConfusion h, fun h => Bool.noConfusion h, fun h => Bool.noConfusion h, fun h => Bool.noConfusion h, fun h => Bool.noConfusion h, fun h => Bool.noConfusion h, fun h => Bool.noConfusion h⟩
    · exact below_next HB4.out (Stay.drew _)
    · exact fun _ => HR4.out.later (Stay.drew _)
    · exact HS4.out.later (Stay.drew _)
  · intro i hi L act wx hIa hLi hcl hanc
    obtain ⟨t23, t24, t25, t26, t27, t28, t29, t30, t31, t9, t10, al9, cl9, nl9, rfl, HS, E0, E1, F0, F1, F2, F3, F4, F5, F6, F7, F8, F9, F10, F11⟩ := (HI.out _ _ _).1 hIa
    clear hIa
    have hi' : i = 0 ∨ i = 1 ∨ i = 2 ∨ i = 3 ∨ i = 4 ∨ i = 5 ∨ i = 6 ∨ i = 7 ∨ i = 8 ∨ i = 9 ∨ i = 10 ∨ i = 11 := by have hi : i < 12 := hi; omega
    clear hi
    rcases hi' with rfl | rfl | rfl | rfl | rfl | rfl | rfl | rfl | rfl | rfl | rfl | rfl
    · refine wpOp_doG 0 (by rfl) (by rfl) ?_
      go_wp2_with fail
      have hb : Below wx.heap.size wx wx := Below.refl _ _
      show I (putL L 0) _ _
      exact (HI.out (putL L 0) _ _).2 ⟨_, _, _, _, _, _, _, _, _, _, _, al9, cl9, nl9, rfl, below_next HS.out hb, fun h => (E0.out ((putL_ne (i := 0) (by decide)).symm.trans h)).later hb, E1.out.later hb, fun _ => rfl, fun h => absurd (hcl 1 ((putL_ne (i := 0) (by decide)).symm.trans h) 0 (by decide)) (by rw [hLi]; decide), fun h => (by first | exact F2.out ((putL_ne (i := 0) (by decide)).symm.trans h) | rfl), fun h => (by first | exact F3.out ((putL_ne (i := 0) (by decide)).symm.trans h) | rfl), fun h => (by first | exact F4.out ((putL_ne (i := 0) (by decide)).symm.trans h) | rfl), fun h => (by first | exact F5.out ((putL_ne (i := 0) (by decide)).symm.trans h) | rfl), fun h => (by first | exact F6.out ((putL_ne (i := 0) (by decide)).symm.trans h) | rfl), fun h => (fun q => ⟨(by first | exact q.1 | rfl), q.2.later hb⟩) (F7.out ((putL_ne (i := 0) (by decide)).symm.trans h)), fun h => absurd (hcl 8 ((putL_ne (i := 0) (by decide)).symm.trans h) 0 (by decide)) (by rw [hLi]; decide), fun h => absurd (hcl 9 ((putL_ne (i := 0) (by decide)).symm.trans h) 0 (by decide)) (by rw [hLi]; decide), fun h => (by first | exact F10.out ((putL_ne (i := 0) (by decide)).symm.trans h) | rfl), fun h => (by first | exact F11.out ((putL_ne (i := 0) (by decide)).symm.trans h) | rfl)⟩
    · have f0 := F0.out (hanc 0 (by decide))
      have g0 := f0
      subst g0
      refine wpOp_doG 1 (by rfl) (by rfl) ?_
      obtain ⟨s0, _, _, _, _, s5⟩ := st_cells E1.out
      go_wp2_with fail
      have hb : Below wx.heap.size wx wx := Below.refl _ _
      show I (putL L 1) _ _
      exact (HI.out (putL L 1) _ _).2 ⟨_, _, _, _, _, _, _, _, _, _, _, al9, cl9, nl9, rfl, below_next HS.out hb, fun h => (E0.out ((putL_ne (i := 1) (by decide)).symm.trans h)).later hb, E1.out.later hb, fun h => (by first | exact F0.out ((putL_ne (i := 1) (by decide)).symm.trans h) | rfl), fun _ => rfl, fun h => (by first | exact F2.out ((putL_ne (i := 1) (by decide)).symm.trans h) | rfl), fun h => (by first | exact F3.out ((putL_ne (i := 1) (by decide)).symm.trans h) | rfl), fun h => (by first | exact F4.out ((putL_ne (i := 1) (by decide)).symm.trans h) | rfl), fun h => (by first | exact F5.out ((putL_ne (i := 1) (by decide)).symm.trans h) | rfl), fun h => (by first | exact F6.out ((putL_ne (i := 1) (by decide)).symm.trans h) | rfl), fun h => (fun q => ⟨(by first | exact q.1 | rfl), q.2.later hb⟩) (F7.out ((putL_ne (i := 1) (by decide)).symm.trans h)), fun h => absurd (hcl 8 ((putL_ne (i := 1) (by decide)).symm.trans h) 1 (by decide)) (by rw [hLi]; decide), fun h => absurd (hcl 9 ((putL_ne (i := 1) (by decide)).symm.trans h) 1 (by decide)) (by rw [hLi]; decide), fun h => (by first | exact F10.out ((putL_ne (i := 1) (by decide)).symm.trans h) | rfl), fun h => (by first | exact F11.out ((putL_ne (i := 1) (by decide)).symm.trans h) | rfl)⟩
    · refine wpOp_doG 2 (by rfl) (by rfl) ?_
      go_wp2_with fail
      have hb : Below wx.heap.size wx wx := Below.refl _ _
      show I (putL L 2) _ _
      exact (HI.out (putL L 2) _ _).2 ⟨_, _, _, _, _, _, _, _, _, _, _, al9, cl9, nl9, rfl, below_next HS.out hb, fun h => (E0.out ((putL_ne (i := 2) (by decide)).symm.trans h)).later hb, E1.out.later hb, fun h => (by first | exact F0.out ((putL_ne (i := 2) (by decide)).symm.trans h) | rfl), fun h => (by first | exact F1.out ((putL_ne (i := 2) (by decide)).symm.trans h) | rfl), fun _ => rfl, fun h => absurd (hcl 3 ((putL_ne (i := 2) (by decide)).symm.trans h) 2 (by decide)) (by rw [hLi]; decide), fun h => (by first | exact F4.out ((putL_ne (i := 2) (by decide)).symm.trans h) | rfl), fun h => (by first | exact F5.out ((putL_ne (i := 2) (by decide)).symm.trans h) | rfl), fun h => (by first | exact F6.out ((putL_ne (i := 2) (by decide)).symm.trans h) | rfl), fun h => absurd (hcl 7 ((putL_ne (i := 2) (by decide)).symm.trans h) 2 (by decide)) (by rw [hLi]; decide), fun h => absurd (hcl 8 ((putL_ne (i := 2) (by decide)).symm.trans h) 2 (by decide)) (by rw [hLi]; decide), fun h => absurd (hcl 9 ((putL_ne (i := 2) (by decide)).symm.trans h) 2 (by decide)) (by rw [hLi]; decide), fun h => (by first | exact F10.out ((putL_ne (i := 2) (by decide)).symm.trans h) | rfl), fun h => (by first | exact F11.out ((putL_ne (i := 2) (by decide)).symm.trans h) | rfl)⟩
    · have f2 := F2.out (hanc 2 (by decide))
      have g2 := f2
      subst g2
      refine wpOp_doG 3 (by rfl) (by rfl) ?_
      obtain ⟨s0, _, _, _, _, s5⟩ := st_cells E1.out
      go_wp2_with fail
      have hb : Below wx.heap.size wx wx := Below.refl _ _
      show I (putL L 3) _ _
      exact (HI.out (putL L 3) _ _).2 ⟨_, _, _, _, _, _, _, _, _, _, _, al9, cl9, nl9, rfl, below_next HS.out hb, fun h => (E0.out ((putL_ne (i := 3) (by decide)).symm.trans h)).later hb, E1.out.later hb, fun h => (by first | exact F0.out ((putL_ne (i := 3) (by decide)).symm.trans h) | rfl), fun h => (by first | exact F1.out ((putL_ne (i := 3) (by decide)).symm.trans h) | rfl), fun h => (by first | exact F2.out ((putL_ne (i := 3) (by decide)).symm.trans h) | rfl), fun _ => rfl, fun h => (by first | exact F4.out ((putL_ne (i := 3) (by decide)).symm.trans h) | rfl), fun h => (by first | exact F5.out ((putL_ne (i := 3) (by decide)).symm.trans h) | rfl), fun h => (by first | exact F6.out ((putL_ne (i := 3) (by decide)).symm.trans h) | rfl), fun h => absurd (hcl 7 ((putL_ne (i := 3) (by decide)).symm.trans h) 3 (by decide)) (by rw [hLi]; decide), fun h => absurd (hcl 8 ((putL_ne (i := 3) (by decide)).symm.trans h) 3 (by decide)) (by rw [hLi]; decide), fun h => absurd (hcl 9 ((putL_ne (i := 3) (by decide)).symm.trans h) 3 (by decide)) (by rw [hLi]; decide), fun h => (by first | exact F10.out ((putL_ne (i := 3) (by decide)).symm.trans h) | rfl), fun h => (by first | exact F11.out ((putL_ne (i := 3) (by decide)).symm.trans h) | rfl)⟩
    · refine YieldsIf.wpOp (S := fun _ => True) (v := .slice (some ⟨ba, oa, none⟩) 1 ca) (by rfl) (.inl ⟨rfl, fun w _ => rfl⟩) trivial ?_
      simp only [Act.put, List.setIfInBounds_toArray, List.set_cons_zero, List.set_cons_succ]
      have hb : Below wx.heap.size wx wx := Below.refl _ _
      show I (putL L 4) _ _
      exact (HI.out (putL L 4) _ _).2 ⟨_, _, _, _, _, _, _, _, _, _, _, al9, cl9, nl9, rfl, below_next HS.out hb, fun h => (E0.out ((putL_ne (i := 4) (by decide)).symm.trans h)).later hb, E1.out.later hb, fun h => (by first | exact F0.out ((putL_ne (i := 4) (by decide)).symm.trans h) | rfl), fun h => (by first | exact F1.out ((putL_ne (i := 4) (by decide)).symm.trans h) | rfl), fun h => (by first | exact F2.out ((putL_ne (i := 4) (by decide)).symm.trans h) | rfl), fun h => (by first | exact F3.out ((putL_ne (i := 4) (by decide)).symm.trans h) | rfl), fun _ => rfl, fun h => absurd (hcl 5 ((putL_ne (i := 4) (by decide)).symm.trans h) 4 (by decide)) (by rw [hLi]; decide), fun h => absurd (hcl 6 ((putL_ne (i := 4) (by decide)).symm.trans h) 4 (by decide)) (by rw [hLi]; decide), fun h => absurd (hcl 7 ((putL_ne (i := 4) (by decide)).symm.trans h) 4 (by decide)) (by rw [hLi]; decide), fun h => absurd (hcl 8 ((putL_ne (i := 4) (by decide)).symm.trans h) 4 (by decide)) (by rw [hLi]; decide), fun h => absurd (hcl 9 ((putL_ne (i := 4) (by decide)).symm.trans h) 4 (by decide)) (by rw [hLi]; decide), fun h => (by first | exact F10.out ((putL_ne (i := 4) (by decide)).symm.trans h) | rfl), fun h => (by first | exact F11.out ((putL_ne (i := 4) (by decide)).symm.trans h) | rfl)⟩
    · have f4 := F4.out (hanc 4 (by decide))
      have g4 := f4
      subst g4
      refine wpOp_doG 5 (by rfl) (by rfl) ?_
      go_wp2_with fail
      have hb : Below wx.heap.size wx wx := Below.refl _ _
      show I (putL L 5) _ _
      exact (HI.out (putL L 5) _ _).2 ⟨_, _, _, _, _, _, _, _, _, _, _, al9, cl9, nl9, rfl, below_next HS.out hb, fun h => (E0.out ((putL_ne (i := 5) (by decide)).symm.trans h)).later hb, E1.out.later hb, fun h => (by first | exact F0.out ((putL_ne (i := 5) (by decide)).symm.trans h) | rfl), fun h => (by first | exact F1.out ((putL_ne (i := 5) (by decide)).symm.trans h) | rfl), fun h => (by first | exact F2.out ((putL_ne (i := 5) (by decide)).symm.trans h) | rfl), fun h => (by first | exact F3.out ((putL_ne (i := 5) (by decide)).symm.trans h) | rfl), fun h => (by first | exact F4.out ((putL_ne (i := 5) (by decide)).symm.trans h) | rfl), fun _ => rfl, fun h => absurd (hcl 6 ((putL_ne (i := 5) (by decide)).symm.trans h) 5 (by decide)) (by rw [hLi]; decide), fun h => absurd (hcl 7 ((putL_ne (i := 5) (by decide)).symm.trans h) 5 (by decide)) (by rw [hLi]; decide), fun h => absurd (hcl 8 ((putL_ne (i := 5) (by decide)).symm.trans h) 5 (by decide)) (by rw [hLi]; decide), fun h => absurd (hcl 9 ((putL_ne (i := 5) (by decide)).symm.trans h) 5 (by decide)) (by rw [hLi]; decide), fun h => (by first | exact F10.out ((putL_ne (i := 5) (by decide)).symm.trans h) | rfl), fun h => (by first | exact F11.out ((putL_ne (i := 5) (by decide)).symm.trans h) | rfl)⟩
    · have f4 := F4.out (hanc 4 (by decide))
      have f5 := F5.out (hanc 5 (by decide))
      have g5 := f5
      subst g5
      refine wpOp_doG 6 (by rfl) (by rfl) ?_
      obtain ⟨x0, x1, x2⟩ := HX.out.later HLt.out HS.out
      go_wp2_with fail
      have hb : Below wx.heap.size wx wx := Below.refl _ _
      show I (putL L 6) _ _
      exact (HI.out (putL L 6) _ _).2 ⟨_, _, _, _, _, _, _, _, _, _, _, al9, cl9, nl9, rfl, below_next HS.out hb, fun h => (E0.out ((putL_ne (i := 6) (by decide)).symm.trans h)).later hb, E1.out.later hb, fun h => (by first | exact F0.out ((putL_ne (i := 6) (by decide)).symm.trans h) | rfl), fun h => (by first | exact F1.out ((putL_ne (i := 6) (by decide)).symm.trans h) | rfl), fun h => (by first | exact F2.out ((putL_ne (i := 6) (by decide)).symm.trans h) | rfl), fun h => (by first | exact F3.out ((putL_ne (i := 6) (by decide)).symm.trans h) | rfl), fun h => (by first | exact F4.out ((putL_ne (i := 6) (by decide)).symm.trans h) | rfl), fun h => (by first | exact F5.out ((putL_ne (i := 6) (by decide)).symm.trans h) | rfl), fun _ => rfl, fun h => absurd (hcl 7 ((putL_ne (i := 6) (by decide)).symm.trans h) 6 (by decide)) (by rw [hLi]; decide), fun h => absurd (hcl 8 ((putL_ne (i := 6) (by decide)).symm.trans h) 6 (by decide)) (by rw [hLi]; decide), fun h => absurd (hcl 9 ((putL_ne (i := 6) (by decide)).symm.trans h) 6 (by decide)) (by rw [hLi]; decide), fun h => (by first | exact F10.out ((putL_ne (i := 6) (by decide)).symm.trans h) | rfl), fun h => (by first | exact F11.out ((putL_ne (i := 6) (by decide)).symm.trans h) | rfl)⟩
    · have f2 := F2.out (hanc 2 (by decide))
      have f3 := F3.out (hanc 3 (by decide))
      have f4 := F4.out (hanc 4 (by decide))
      have f5 := F5.out (hanc 5 (by decide))
      have f6 := F6.out (hanc 6 (by decide))
      have g3 := f3
      subst g3
      have g6 := f6
      subst g6
      refine wpOp_doG 7 (by rfl) (by rfl) ?_
      go_wp2_with fail
      refine (push_any al n cl l x wx (HL.out.later HS.out) HN.out HN9.out).mono ?_
      rintro e9 wn ⟨u, rfl, ho9, hb⟩
      have ho9 := ho9.base HS.out.size
      obtain ⟨al8, cl8, hf9⟩ := ho9.held.form
      obtain ⟨nl8, hn8⟩ : ∃ nl8, (l ++ [x]).length = nl8 := ⟨_, rfl⟩
      rw [hn8] at hf9
      subst hf9
      clear hn8
      show I (putL L 7) _ _
      exact (HI.out (putL L 7) _ _).2 ⟨_, _, _, _, _, _, _, _, _, _, _, al8, cl8, nl8, rfl, below_next HS.out hb, fun h => (E0.out ((putL_ne (i := 7) (by decide)).symm.trans h)).later hb, E1.out.later hb, fun h => (by first | exact F0.out ((putL_ne (i := 7) (by decide)).symm.trans h) | rfl), fun h => (by first | exact F1.out ((putL_ne (i := 7) (by decide)).symm.trans h) | rfl), fun h => (by first | exact F2.out ((putL_ne (i := 7) (by decide)).symm.trans h) | rfl), fun h => (by first | exact F3.out ((putL_ne (i := 7) (by decide)).symm.trans h) | rfl), fun h => (by first | exact F4.out ((putL_ne (i := 7) (by decide)).symm.trans h) | rfl), fun h => (by first | exact F5.out ((putL_ne (i := 7) (by decide)).symm.trans h) | rfl), fun h => (by first | exact F6.out ((putL_ne (i := 7) (by decide)).symm.trans h) | rfl), fun _ => ⟨rfl, ho9⟩, fun h => absurd (hcl 8 ((putL_ne (i := 7) (by decide)).symm.trans h) 7 (by decide)) (by rw [hLi]; decide), fun h => absurd (hcl 9 ((putL_ne (i := 7) (by decide)).symm.trans h) 7 (by decide)) (by rw [hLi]; decide), fun h => (by first | exact F10.out ((putL_ne (i := 7) (by decide)).symm.trans h) | rfl), fun h => (by first | exact F11.out ((putL_ne (i := 7) (by decide)).symm.trans h) | rfl)⟩
    · have f0 := F0.out (hanc 0 (by decide))
      have f1 := F1.out (hanc 1 (by decide))
      have f2 := F2.out (hanc 2 (by decide))
      have f3 := F3.out (hanc 3 (by decide))
      have f4 := F4.out (hanc 4 (by decide))
      have f5 := F5.out (hanc 5 (by decide))
      have f6 := F6.out (hanc 6 (by decide))
      have f7 := F7.out (hanc 7 (by decide))
      have g1 := f1
      subst g1
      have g7 := f7.1
      subst g7
      refine wpOp_doG 8 (by rfl) (by rfl) ?_
      go_wp2_with fail
      have hb : Below wx.heap.size wx wx := Below.refl _ _
      show I (putL L 8) _ _
      exact (HI.out (putL L 8) _ _).2 ⟨_, _, _, _, _, _, _, _, _, _, _, al9, cl9, nl9, rfl, below_next HS.out hb, fun h => (E0.out ((putL_ne (i := 8) (by decide)).symm.trans h)).later hb, E1.out.later hb, fun h => (by first | exact F0.out ((putL_ne (i := 8) (by decide)).symm.trans h) | rfl), fun h => (by first | exact F1.out ((putL_ne (i := 8) (by decide)).symm.trans h) | rfl), fun h => (by first | exact F2.out ((putL_ne (i := 8) (by decide)).symm.trans h) | rfl), fun h => (by first | exact F3.out ((putL_ne (i := 8) (by decide)).symm.trans h) | rfl), fun h => (by first | exact F4.out ((putL_ne (i := 8) (by decide)).symm.trans h) | rfl), fun h => (by first | exact F5.out ((putL_ne (i := 8) (by decide)).symm.trans h) | rfl), fun h => (by first | exact F6.out ((putL_ne (i := 8) (by decide)).symm.trans h) | rfl), fun h => (fun q => ⟨(by first | exact q.1 | rfl), q.2.later hb⟩) (F7.out ((putL_ne (i := 8) (by decide)).symm.trans h)), fun _ => rfl, fun h => absurd (hcl 9 ((putL_ne (i := 8) (by decide)).symm.trans h) 8 (by decide)) (by rw [hLi]; decide), fun h => (by first | exact F10.out ((putL_ne (i := 8) (by decide)).symm.trans h) | rfl), fun h => (by first | exact F11.out ((putL_ne (i := 8) (by decide)).symm.trans h) | rfl)⟩
    · have f0 := F0.out (hanc 0 (by decide))
      have f1 := F1.out (hanc 1 (by decide))
      have f2 := F2.out (hanc 2 (by decide))
      have f3 := F3.out (hanc 3 (by decide))
      have f4 := F4.out (hanc 4 (by decide))
      have f5 := F5.out (hanc 5 (by decide))
      have f6 := F6.out (hanc 6 (by decide))
      have f7 := F7.out (hanc 7 (by decide))
      have f8 := F8.out (hanc 8 (by decide))
      have g8 := f8
      subst g8
      have BS := E0.out hLi
      refine wpOp_doG 9 (by rfl) (by rfl) ?_
      refine wpo_storeB 28 (.tmp 8) (.tmp 31) r 0 (stC m noV (.slice al9 nl9 cl9)) (stC 0 noV nilS) 28 infoSt (show 0 + 6 ≤ 6 by decide) (stC_one _ _ rfl) rfl rfl rfl BS ?_
      intro wn BP ho
      replace BP : Blk wn r (stC m noV (.slice al9 nl9 cl9)) 28 := BP
      have NEQ := HQ.out.2
      simp only [Act.put, List.setIfInBounds_toArray, List.set_cons_zero, List.set_cons_succ]
      show I (putL L 9) _ _
      exact (HI.out (putL L 9) _ _).2 ⟨_, _, _, _, _, _, _, _, _, _, _, al9, cl9, nl9, rfl, below_oth HS.out ho HQ.out.1 HQ.out.1 HS.out.size, fun h => (by rw [putL_self] at h; cases h), E1.out.oth ho NEQ NEQ, fun h => (by first | exact F0.out ((putL_ne (i := 9) (by decide)).symm.trans h) | rfl), fun h => (by first | exact F1.out ((putL_ne (i := 9) (by decide)).symm.trans h) | rfl), fun h => (by first | exact F2.out ((putL_ne (i := 9) (by decide)).symm.trans h) | rfl), fun h => (by first | exact F3.out ((putL_ne (i := 9) (by decide)).symm.trans h) | rfl), fun h => (by first | exact F4.out ((putL_ne (i := 9) (by decide)).symm.trans h) | rfl), fun h => (by first | exact F5.out ((putL_ne (i := 9) (by decide)).symm.trans h) | rfl), fun h => (by first | exact F6.out ((putL_ne (i := 9) (by decide)).symm.trans h) | rfl), fun h => (fun q => ⟨(by first | exact q.1 | rfl), q.2.oth ho BS (by decide)⟩) (F7.out ((putL_ne (i := 9) (by decide)).symm.trans h)), fun h => (by first | exact F8.out ((putL_ne (i := 9) (by decide)).symm.trans h) | rfl), fun _ => BP, fun h => (by first | exact F10.out ((putL_ne (i := 9) (by decide)).symm.trans h) | rfl), fun h => (by first | exact F11.out ((putL_ne (i := 9) (by decide)).symm.trans h) | rfl)⟩
    · refine YieldsIf.wpOp (S := fun _ => True) (v := .slice none 0 0) (by rfl) (.inl ⟨rfl, fun w _ => rfl⟩) trivial ?_
      simp only [Act.put, List.setIfInBounds_toArray, List.set_cons_zero, List.set_cons_succ]
      have hb : Below wx.heap.size wx wx := Below.refl _ _
      show I (putL L 10) _ _
      exact (HI.out (putL L 10) _ _).2 ⟨_, _, _, _, _, _, _, _, _, _, _, al9, cl9, nl9, rfl, below_next HS.out hb, fun h => (E0.out ((putL_ne (i := 10) (by decide)).symm.trans h)).later hb, E1.out.later hb, fun h => (by first | exact F0.out ((putL_ne (i := 10) (by decide)).symm.trans h) | rfl), fun h => (by first | exact F1.out ((putL_ne (i := 10) (by decide)).symm.trans h) | rfl), fun h => (by first | exact F2.out ((putL_ne (i := 10) (by decide)).symm.trans h) | rfl), fun h => (by first | exact F3.out ((putL_ne (i := 10) (by decide)).symm.trans h) | rfl), fun h => (by first | exact F4.out ((putL_ne (i := 10) (by decide)).symm.trans h) | rfl), fun h => (by first | exact F5.out ((putL_ne (i := 10) (by decide)).symm.trans h) | rfl), fun h => (by first | exact F6.out ((putL_ne (i := 10) (by decide)).symm.trans h) | rfl), fun h => (fun q => ⟨(by first | exact q.1 | rfl), q.2.later hb⟩) (F7.out ((putL_ne (i := 10) (by decide)).symm.trans h)), fun h => (by first | exact F8.out ((putL_ne (i := 10) (by decide)).symm.trans h) | rfl), fun h => (fun q => q.later hb) (F9.out ((putL_ne (i := 10) (by decide)).symm.trans h)), fun _ => rfl, fun h => (by first | exact F11.out ((putL_ne (i := 10) (by decide)).symm.trans h) | rfl)⟩
    · refine YieldsIf.wpOp (S := fun _ => True) (v := .bool true) (by rfl) (.inl ⟨rfl, fun w _ => rfl⟩) trivial ?_
      simp only [Act.put, List.setIfInBounds_toArray, List.set_cons_zero, List.set_cons_succ]
      have hb : Below wx.heap.size wx wx := Below.refl _ _
      show I (putL L 11) _ _
      exact (HI.out (putL L 11) _ _).2 ⟨_, _, _, _, _, _, _, _, _, _, _, al9, cl9, nl9, rfl, below_next HS.out hb, fun h => (E0.out ((putL_ne (i := 11) (by decide)).symm.trans h)).later hb, E1.out.later hb, fun h => (by first | exact F0.out ((putL_ne (i := 11) (by decide)).symm.trans h) | rfl), fun h => (by first | exact F1.out ((putL_ne (i := 11) (by decide)).symm.trans h) | rfl), fun h => (by first | exact F2.out ((putL_ne (i := 11) (by decide)).symm.trans h) | rfl), fun h => (by first | exact F3.out ((putL_ne (i := 11) (by decide)).symm.trans h) | rfl), fun h => (by first | exact F4.out ((putL_ne (i := 11) (by decide)).symm.trans h) | rfl), fun h => (by first | exact F5.out ((putL_ne (i := 11) (by decide)).symm.trans h) | rfl), fun h => (by first | exact F6.out ((putL_ne (i := 11) (by decide)).symm.trans h) | rfl), fun h => (fun q => ⟨(by first | exact q.1 | rfl), q.2.later hb⟩) (F7.out ((putL_ne (i := 11) (by decide)).symm.trans h)), fun h => (by first | exact F8.out ((putL_ne (i := 11) (by decide)).symm.trans h) | rfl), fun h => (fun q => q.later hb) (F9.out ((putL_ne (i := 11) (by decide)).symm.trans h)), fun h => (by first | exact F10.out ((putL_ne (i := 11) (by decide)).symm.trans h) | rfl), fun _ => rfl⟩
  · intro L act wx hall hIa
    obtain ⟨t23, t24, t25, t26, t27, t28, t29, t30, t31, t9, t10, al9, cl9, nl9, rfl, HS, E0, E1, F0, F1, F2, F3, F4, F5, F6, F7, F8, F9, F10, F11⟩ := (HI.out _ _ _).1 hIa
    have f0 := F0.out (hall 0 (by decide))
    have f1 := F1.out (hall 1 (by decide))
    have f2 := F2.out (hall 2 (by decide))
    have f3 := F3.out (hall 3 (by decide))
    have f4 := F4.out (hall 4 (by decide))
    have f5 := F5.out (hall 5 (by decide))
    have f6 := F6.out (hall 6 (by decide))
    have f7 := F7.out (hall 7 (by decide))
    have f8 := F8.out (hall 8 (by decide))
    have f9 := F9.out (hall 9 (by decide))
    have f10 := F10.out (hall 10 (by decide))
    have f11 := F11.out (hall 11 (by decide))
    clear hIa HI F0 F1 F2 F3 F4 F5 F6 F7 F8 F9 F10 F11
    show K9 _ _
    apply hK9
    clear hK9
    have HD : Hid (Blk wx r (stC m noV (.slice al9 nl9 cl9)) 28) := f9
    have HU : Hid (OwnV wx w.heap.size (.slice al9 nl9 cl9) (l ++ [x])) := f7.2
    have ga := f10
    subst ga
    have gb := f11
    subst gb
    clear E0 E1 f0 f1 f2 f3 f4 f5 f6 f7 f8 f9 f10 f11
    go_wp2
    refine ret_blk3 rfl r (stC m noV (.slice al9 nl9 cl9)) 28 _ nilS (.bool true) Tryd.underlying28 rfl infoSt rfl HD.out rfl rfl rfl ?_
    exact ⟨nilS, _, rfl, hO1 ▸ OwnV.nil _ _, hN1 ▸ (HU.out.held.base hB), (fun g hg => by cases hg), HS.out⟩
set_option maxRecDepth 100000 in
set_option maxHeartbeats 16000000 in
theorem step_pop (m : Int) (B : Nat) (c : Val) (al : Option Addr) (n cl : Nat) (l : List Val) (va : Value) (xs : List Val) (w : World) (hm : ownQ m = true) (hB : B ≤ w.heap.size) (ht : Tb w) (hl : HeldV w B (.slice al n cl) l) (hl1 : l.length = n) (hn : n ≤ 1000) (hv : VSl w va xs) (hz : SzV xs) (hc : c.2.2.size ≤ 4611686018427387904) (hd : mayD m ⟨c, 10, xs⟩ = true) :
    Calls Tryd.prog 12 #[.agg (stC m noV (.slice al n cl)).toArray, .agg #[.int .i64 c.1, .int .i64 c.2.1, .string c.2.2], .int .i64 10, va] w fun e w' => RStepQ m B l ⟨c, 10, xs⟩ w e w' := by
  have mixed : Tryd.prog.follows .mixedOrders = true := by kernel_rfl
  have hM := fun w' (hb : Below w.heap.size w w') => may_anyQ m c 10 va xs w' (ht.later hb) (hv.later hb) hz hc
  rw [hd, hm] at hM
  have HM : Hid (∀ w', Below w.heap.size w w' → Calls Tryd.prog 22 #[.int .i64 m, .agg #[.int .i64 c.1, .int .i64 c.2.1, .string c.2.2], .int .i64 10, va] w' fun e w1 => e = .returned (.bool true) ∧ Below w'.heap.size w' w1) := hM
  have hN1 : nxQ m l ⟨c, 10, xs⟩ = popQ m l := nxQ_10 rfl
  have hO1 : outQ m l ⟨c, 10, xs⟩ = [topQ m l] := outQ_10 rfl
  have hp9 : ([popQ m l] : List (List Val)).flatten.length ≤ 900000 := by have := popQ_len m l; rw [List.flatten_singleton]; omega
  have HP : Hid (∀ w', Below w.heap.size w w' → Calls Tryd.prog 24 #[.int .i64 m, .slice al n cl] w' fun e w1 => ∃ u, e = .returned (.tuple #[.agg (encV (topQ m l)).toArray, u]) ∧ VSl w1 u (popQ m l) ∧ Below w'.heap.size w' w1) := fun w' hb => pop_any m al n cl l w' hm (hl.vsl.later hb) hl1 (by omega)
  have HP9 : Hid (([popQ m l] : List (List Val)).flatten.length ≤ 900000) := hp9
  obtain ⟨a0, c0, hva, _, _, _⟩ := hv.form
  subst hva
  obtain ⟨x, hx⟩ : ∃ x, topQ m l = x := ⟨_, rfl⟩
  obtain ⟨pl, hpl⟩ : ∃ pl, popQ m l = pl := ⟨_, rfl⟩
  rw [hx] at HP hO1
  rw [hpl] at HP HP9 hN1
  clear hM hx hpl hp9 hl hl1 hv hz ht hc hd hn
  have T := three_laid w (stC m noV (.slice al n cl)) (encV c) (stC 0 noV nilS) 28 25 28
  have HT : Hid _ := T
  simp only [stC]
  clear T
  go_enter Tryd.func12, Tryd.ntmps12
  go_wp2_with fail
  refine (HM.out _ HT.out.2.2.2).mono ?_
  rintro e w4 ⟨rfl, hb4⟩
  have HR4 : Hid (Blk w4 (w.heap.size + 1 + 1) (stC 0 noV nilS) 28) := HT.out.2.2.1.later hb4
  have HS4 : Hid (Blk w4 w.heap.size (stC m noV (.slice al n cl)) 28) := HT.out.1.later hb4
  have HB4 : Hid (Below w.heap.size w w4) := below_next HT.out.2.2.2 hb4
  have HQ : Hid (w.heap.size ≤ w.heap.size + 1 + 1 ∧ w.heap.size ≠ w.heap.size + 1 + 1) := (by omega : w.heap.size ≤ w.heap.size + 1 + 1 ∧ w.heap.size ≠ w.heap.size + 1 + 1)
  clear HT hb4 HM
  generalize w.heap.size + 1 + 1 = r at *
  obtain ⟨s0, _, _, _, _, s5⟩ := st_cells HS4.out
  go_wp2_with fail
  refine (HP.out w4 HB4.out).mono ?_
  rintro e w5 ⟨u, rfl, hu, hb5⟩
  obtain ⟨a6, c6, hu1, _, _, _⟩ := hu.form
  generalize pl.length = n6 at hu1
  subst hu1
  simp only [encV]
  have HR6 : Hid (Blk (w5.alloc (.cells #[.int .i64 0, .int .i64 0, .string ⟨#[]⟩] 25)) r (stC 0 noV nilS) 28) := (HR4.out.later hb5).alloc _
  have HS6 : Hid (Blk (w5.alloc (.cells #[.int .i64 0, .int .i64 0, .string ⟨#[]⟩] 25)) w.heap.size (stC m noV (.slice al n cl)) 28) := (HS4.out.later hb5).alloc _
  have HB6 : Hid (Below w.heap.size w (w5.alloc (.cells #[.int .i64 0, .int .i64 0, .string ⟨#[]⟩] 25))) := below_next (below_next HB4.out hb5) (below_box _ _)
  have HU6 : Hid (VSl (w5.alloc (.cells #[.int .i64 0, .int .i64 0, .string ⟨#[]⟩] 25)) (.slice a6 n6 c6) pl) := hu.later (below_box _ _)
  have HUL : Hid (0 < pl.length → ∀ g, (Value.slice a6 n6 c6).ownBlock = some g → g < w5.heap.size) := fun h0 => vsl_lt hu h0
  have HV6 : Hid (Blk (w5.alloc (.cells #[.int .i64 0, .int .i64 0, .string ⟨#[]⟩] 25)) w5.heap.size (encV noV) 25) := Blk.new w5 _ _
  have HQ5 : Hid (w.heap.size ≤ w5.heap.size ∧ r < w5.heap.size ∧ w.heap.size < w5.heap.size) := ⟨(below_next HB4.out hb5).size, Nat.lt_of_lt_of_le HR4.out.lt hb5.size, Nat.lt_of_lt_of_le HS4.out.lt hb5.size⟩
  clear hu hb5 HB4 HR4 HS4 HP
  go_wp2_with (first
    | ((with_reducible refine wp_storeB 25 (.tmp 11) (.tmp 38) w5.heap.size 0 (encV x) (encV noV) 25 ?_ ?_ (encV_one _) ?_ ?_ ?_ HV6.out ?_); (exact infoVv); (exact (show 0 + 3 ≤ 3 by decide)); (exact ⟨rfl, rfl⟩); (exact rfl); (exact rfl); (intro w7 D1 o7); (replace D1 : Blk w7 w5.heap.size (encV x) 25 := D1); (have HV7 : Hid (Blk w7 w5.heap.size (encV x) 25) := D1); (have HB7 : Hid (Below w.heap.size w w7) := below_oth HB6.out o7 HQ5.out.1 HQ5.out.1 HB6.out.size); (have HR7 : Hid (Blk w7 r (stC 0 noV nilS) 28) := HR6.out.oth o7 (Nat.ne_of_lt HQ5.out.2.1) (Nat.ne_of_lt HQ5.out.2.1)); (have HS7 : Hid (Blk w7 w.heap.size (stC m noV (.slice al n cl)) 28) := HS6.out.oth o7 (Nat.ne_of_lt HQ5.out.2.2) (Nat.ne_of_lt HQ5.out.2.2)); (have HU7 : Hid (VSl w7 (.slice a6 n6 c6) pl) := vsl_grown HU6.out o7.grown (fun h0 g hg e => Nat.lt_irrefl w5.heap.size (HUL.out h0 w5.heap.size (hg ▸ e)))); (clear D1 o7)))
  clear HR6 HS6 HB6 HU6 HV6 HUL
  generalize w5.heap.size = q at *
  have HQR : Hid (q ≠ r) := fun e => absurd HQ5.out.2.1 (by omega)
  rename_i K9 hK9
  obtain ⟨I, hI⟩ : ∃ I : (Nat → Bool) → Act → World → Prop, ∀ L act wx, I L act wx ↔ (fun (L : Nat → Bool) (act : Act) (wx : World) => ∃ (t40 : Value) (t41 : Value) (t42 : Value) (t43 : Value) (t44 : Value) (t45 : Value) (t46 : Value) (t47 : Value) (t9 : Value) (t10 : Value) (al9 : Option Addr) (cl9 : Nat) (nl9 : Nat) (q3 : Nat) (q8 : Nat), act = ⟨#[Value.agg #[Value.int .i64 m, Value.int .i64 0, Value.int .i64 0, Value.string noB, Value.int .i64 0, Value.slice al n cl], Value.agg #[Value.int .i64 c.1, Value.int .i64 c.2.1, Value.string c.2.2], Value.int .i64 10, Value.slice a0 xs.length c0, Value.pointer (some ⟨w.heap.size, 0, none⟩), Value.pointer (some ⟨w.heap.size + 1, 0, none⟩), undef, undef, Value.pointer (some ⟨r, 0, none⟩), t9, t10, Value.pointer (some ⟨q, 0, none⟩), Value.slice a6 n6 c6, Value.pointer (some ⟨w.heap.size, 0, none⟩), Value.int .i64 m, Value.agg #[Value.int .i64 c.1, Value.int .i64 c.2.1, Value.string c.2.2], Value.int .i64 10, Value.slice a0 xs.length c0, Value.bool true, Value.bool false, undef, Value.int .i64 10, Value.bool false, undef, undef, undef, undef, undef, undef, undef, undef, undef, Value.tuple #[Value.agg #[Value.int .i64 x.1, Value.int .i64 x.2.1, Value.string x.2.2], Value.slice a6 n6 c6], Value.pointer (some ⟨w.heap.size, 0, none⟩), Value.int .i64 m, Value.pointer (some ⟨w.heap.size, 5, none⟩), Value.slice al n cl, Value.tuple #[Value.agg #[Value.int .i64 x.1, Value.int .i64 x.2.1, Value.string x.2.2], Value.slice a6 n6 c6], Value.agg #[Value.int .i64 x.1, Value.int .i64 x.2.1, Value.string x.2.2], Value.slice a6 n6 c6, t40, t41, t42, t43, t44, t45, t46, t47], []⟩ ∧ Hid (Below w.heap.size w wx) ∧ Hid (L 8 = false → Blk wx r (stC 0 noV nilS) 28) ∧ Hid (Blk wx w.heap.size (stC m noV (.slice al n cl)) 28) ∧ Hid (Blk wx q (encV x) 25) ∧ Hid (L 8 = false → VSl wx (.slice a6 n6 c6) pl) ∧ Hid (L 4 = true → L 7 = true → ∀ g, (Value.slice al9 nl9 cl9).ownBlock = some g → g ≠ q8) ∧ Hid (L 0 = true → t40 = .pointer (some ⟨w.heap.size, 0, none⟩)) ∧ Hid (L 1 = true → t41 = .int .i64 m) ∧ Hid (L 2 = true → t42 = .slice a6 n6 c6) ∧ Hid (L 3 = true → t43 = .slice (some ⟨q3, 0, none⟩) 1 1 ∧ (L 8 = false → RSl wx (.slice (some ⟨q3, 0, none⟩) 1 1) [pl])) ∧ Hid (L 4 = true → t44 = .slice al9 nl9 cl9 ∧ OwnV wx w.heap.size (.slice al9 nl9 cl9) pl) ∧ Hid (L 5 = true → t45 = .agg (stC m noV (.slice al9 nl9 cl9)).toArray) ∧ Hid (L 6 = true → t46 = .agg #[.int .i64 x.1, .int .i64 x.2.1, .string x.2.2]) ∧ Hid (L 7 = true → t47 = .slice (some ⟨q8, 0, none⟩) 1 1 ∧ OwnV wx w.heap.size (.slice (some ⟨q8, 0, none⟩) 1 1) [x]) ∧ Hid (L 8 = true → Blk wx r (stC m noV (.slice al9 nl9 cl9)) 28) ∧ Hid (L 9 = true → t9 = .slice (some ⟨q8, 0, none⟩) 1 1) ∧ Hid (L 10 = true → t10 = .bool true)) L act wx := ⟨_, fun _ _ _ => Iff.rfl⟩
  dsimp only at hI
  have HI : Hid (∀ L act wx, I L act wx ↔ _) := hI
  clear hI
  refine wp_region_inv mixed [[], [0], [], [2], [2, 3], [0, 1, 2, 3, 4], [], [6], [0, 1, 2, 3, 4, 5], [6, 7], []] (by kernel_rfl) I ?_ ?_ ?_
  · refine (HI.out _ _ _).2 ⟨_, _, _, _, _, _, _, _, _, _, none, 0, 0, 0, 0, rfl, ?_, ?_, ?_, ?_, ?_, ?_, fun h => Bool.noConfusion h, fun h => Bool.noConfusion h, fun h => Bool.noConfusion h, fun h => Bool.noConfusion h, fun h => Bool.noConfusion h, fun h => Bool.noConfusion h, fun h => Bool.noConfusion h, fun h => Bool.noConfusion h, fun h => Bool.noConfusion h, fun h => Bool.noConfusion h, fun h => Bool.noConfusion h⟩
    · exact below_next HB7.out (Stay.drew _)
    · exact fun _ => HR7.out.later (Stay.drew _)
    · exact HS7.out.later (Stay.drew _)
    · exact HV7.out.later (Stay.drew _)
    · exact fun _ => HU7.out.later (Stay.drew _)
    · exact fun h => Bool.noConfusion h
  · intro i hi L act wx hIa hLi hcl hanc
    obtain ⟨t40, t41, t42, t43, t44, t45, t46, t47, t9, t10, al9, cl9, nl9, q3, q8, rfl, HS, E0, E1, E2, E3, E4, F0, F1, F2, F3, F4, F5, F6, F7, F8, F9, F10⟩ := (HI.out _ _ _).1 hIa
    clear hIa
    have hi' : i = 0 ∨ i = 1 ∨ i = 2 ∨ i = 3 ∨ i = 4 ∨ i = 5 ∨ i = 6 ∨ i = 7 ∨ i = 8 ∨ i = 9 ∨ i = 10 := by have hi : i < 11 := hi; omega
    clear hi
    rcases hi' with rfl | rfl | rfl | rfl | rfl | rfl | rfl | rfl | rfl | rfl | rfl
    · refine wpOp_doG 0 (by rfl) (by rfl) ?_
      go_wp2_with fail
      have hb : Below wx.heap.size wx wx := Below.refl _ _
      show I (putL L 0) _ _
      exact (HI.out (putL L 0) _ _).2 ⟨_, _, _, _, _, _, _, _, _, _, al9, cl9, nl9, q3, q8, rfl, below_next HS.out hb, fun h => (E0.out ((putL_ne (i := 0) (by decide)).symm.trans h)).later hb, E1.out.later hb, E2.out.later hb, fun h => (E3.out ((putL_ne (i := 0) (by decide)).symm.trans h)).later hb, fun h h2 => E4.out ((putL_ne (i := 0) (by decide)).symm.trans h) ((putL_ne (i := 0) (by decide)).symm.trans h2), fun _ => rfl, fun h => absurd (hcl 1 ((putL_ne (i := 0) (by decide)).symm.trans h) 0 (by decide)) (by rw [hLi]; decide), fun h => (by first | exact F2.out ((putL_ne (i := 0) (by decide)).symm.trans h) | rfl), fun h => (fun q => ⟨(by first | exact q.1 | rfl), fun h8 => (q.2 ((putL_ne (i := 0) (by decide)).symm.trans h8)).later hb⟩) (F3.out ((putL_ne (i := 0) (by decide)).symm.trans h)), fun h => (fun q => ⟨(by first | exact q.1 | rfl), q.2.later hb⟩) (F4.out ((putL_ne (i := 0) (by decide)).symm.trans h)), fun h => absurd (hcl 5 ((putL_ne (i := 0) (by decide)).symm.trans h) 0 (by decide)) (by rw [hLi]; decide), fun h => (by first | exact F6.out ((putL_ne (i := 0) (by decide)).symm.trans h) | rfl), fun h => (fun q => ⟨(by first | exact q.1 | rfl), q.2.later hb⟩) (F7.out ((putL_ne (i := 0) (by decide)).symm.trans h)), fun h => absurd (hcl 8 ((putL_ne (i := 0) (by decide)).symm.trans h) 0 (by decide)) (by rw [hLi]; decide), fun h => (by first | exact F9.out ((putL_ne (i := 0) (by decide)).symm.trans h) | rfl), fun h => (by first | exact F10.out ((putL_ne (i := 0) (by decide)).symm.trans h) | rfl)⟩
    · have f0 := F0.out (hanc 0 (by decide))
      have g0 := f0
      subst g0
      refine wpOp_doG 1 (by rfl) (by rfl) ?_
      obtain ⟨s0, _, _, _, _, s5⟩ := st_cells E1.out
      go_wp2_with fail
      have hb : Below wx.heap.size wx wx := Below.refl _ _
      show I (putL L 1) _ _
      exact (HI.out (putL L 1) _ _).2 ⟨_, _, _, _, _, _, _, _, _, _, al9, cl9, nl9, q3, q8, rfl, below_next HS.out hb, fun h => (E0.out ((putL_ne (i := 1) (by decide)).symm.trans h)).later hb, E1.out.later hb, E2.out.later hb, fun h => (E3.out ((putL_ne (i := 1) (by decide)).symm.trans h)).later hb, fun h h2 => E4.out ((putL_ne (i := 1) (by decide)).symm.trans h) ((putL_ne (i := 1) (by decide)).symm.trans h2), fun h => (by first | exact F0.out ((putL_ne (i := 1) (by decide)).symm.trans h) | rfl), fun _ => rfl, fun h => (by first | exact F2.out ((putL_ne (i := 1) (by decide)).symm.trans h) | rfl), fun h => (fun q => ⟨(by first | exact q.1 | rfl), fun h8 => (q.2 ((putL_ne (i := 1) (by decide)).symm.trans h8)).later hb⟩) (F3.out ((putL_ne (i := 1) (by decide)).symm.trans h)), fun h => (fun q => ⟨(by first | exact q.1 | rfl), q.2.later hb⟩) (F4.out ((putL_ne (i := 1) (by decide)).symm.trans h)), fun h => absurd (hcl 5 ((putL_ne (i := 1) (by decide)).symm.trans h) 1 (by decide)) (by rw [hLi]; decide), fun h => (by first | exact F6.out ((putL_ne (i := 1) (by decide)).symm.trans h) | rfl), fun h => (fun q => ⟨(by first | exact q.1 | rfl), q.2.later hb⟩) (F7.out ((putL_ne (i := 1) (by decide)).symm.trans h)), fun h => absurd (hcl 8 ((putL_ne (i := 1) (by decide)).symm.trans h) 1 (by decide)) (by rw [hLi]; decide), fun h => (by first | exact F9.out ((putL_ne (i := 1) (by decide)).symm.trans h) | rfl), fun h => (by first | exact F10.out ((putL_ne (i := 1) (by decide)).symm.trans h) | rfl)⟩
    · refine YieldsIf.wpOp (S := fun _ => True) (v := .slice a6 n6 c6) (by rfl) (.inl ⟨rfl, fun w _ => rfl⟩) trivial ?_
      simp only [Act.put, List.setIfInBounds_toArray, List.set_cons_zero, List.set_cons_succ]
      have hb : Below wx.heap.size wx wx := Below.refl _ _
      show I (putL L 2) _ _
      exact (HI.out (putL L 2) _ _).2 ⟨_, _, _, _, _, _, _, _, _, _, al9, cl9, nl9, q3, q8, rfl, below_next HS.out hb, fun h => (E0.out ((putL_ne (i := 2) (by decide)).symm.trans h)).later hb, E1.out.later hb, E2.out.later hb, fun h => (E3.out ((putL_ne (i := 2) (by decide)).symm.trans h)).later hb, fun h h2 => E4.out ((putL_ne (i := 2) (by decide)).symm.trans h) ((putL_ne (i := 2) (by decide)).symm.trans h2), fun h => (by first | exact F0.out ((putL_ne (i := 2) (by decide)).symm.trans h) | rfl), fun h => (by first | exact F1.out ((putL_ne (i := 2) (by decide)).symm.trans h) | rfl), fun _ => rfl, fun h => absurd (hcl 3 ((putL_ne (i := 2) (by decide)).symm.trans h) 2 (by decide)) (by rw [hLi]; decide), fun h => absurd (hcl 4 ((putL_ne (i := 2) (by decide)).symm.trans h) 2 (by decide)) (by rw [hLi]; decide), fun h => absurd (hcl 5 ((putL_ne (i := 2) (by decide)).symm.trans h) 2 (by decide)) (by rw [hLi]; decide), fun h => (by first | exact F6.out ((putL_ne (i := 2) (by decide)).symm.trans h) | rfl), fun h => (fun q => ⟨(by first | exact q.1 | rfl), q.2.later hb⟩) (F7.out ((putL_ne (i := 2) (by decide)).symm.trans h)), fun h => absurd (hcl 8 ((putL_ne (i := 2) (by decide)).symm.trans h) 2 (by decide)) (by rw [hLi]; decide), fun h => (by first | exact F9.out ((putL_ne (i := 2) (by decide)).symm.trans h) | rfl), fun h => (by first | exact F10.out ((putL_ne (i := 2) (by decide)).symm.trans h) | rfl)⟩
    · have f2 := F2.out (hanc 2 (by decide))
      have hun : L 8 = false := by
        cases h : L 8
        · rfl
        · exact absurd (hcl 8 h 3 (by decide)) (by rw [hLi]; decide)
      have g2 := f2
      subst g2
      refine wpOp_doG 3 (by rfl) (by rfl) ?_
      have hrs := rsl_one (E3.out hun) 26
      go_wp2_with fail
      have hb := below_box wx (.cells #[.slice a6 n6 c6] 26)
      change RSl (wx.alloc (.cells #[.slice a6 n6 c6] 26)) _ _ at hrs
      show I (putL L 3) _ _
      exact (HI.out (putL L 3) _ _).2 ⟨_, _, _, _, _, _, _, _, _, _, al9, cl9, nl9, wx.heap.size, q8, rfl, below_next HS.out hb, fun h => (E0.out ((putL_ne (i := 3) (by decide)).symm.trans h)).later hb, E1.out.later hb, E2.out.later hb, fun h => (E3.out ((putL_ne (i := 3) (by decide)).symm.trans h)).later hb, fun h h2 => E4.out ((putL_ne (i := 3) (by decide)).symm.trans h) ((putL_ne (i := 3) (by decide)).symm.trans h2), fun h => (by first | exact F0.out ((putL_ne (i := 3) (by decide)).symm.trans h) | rfl), fun h => (by first | exact F1.out ((putL_ne (i := 3) (by decide)).symm.trans h) | rfl), fun h => (by first | exact F2.out ((putL_ne (i := 3) (by decide)).symm.trans h) | rfl), fun _ => ⟨rfl, fun _ => hrs⟩, fun h => absurd (hcl 4 ((putL_ne (i := 3) (by decide)).symm.trans h) 3 (by decide)) (by rw [hLi]; decide), fun h => absurd (hcl 5 ((putL_ne (i := 3) (by decide)).symm.trans h) 3 (by decide)) (by rw [hLi]; decide), fun h => (by first | exact F6.out ((putL_ne (i := 3) (by decide)).symm.trans h) | rfl), fun h => (fun q => ⟨(by first | exact q.1 | rfl), q.2.later hb⟩) (F7.out ((putL_ne (i := 3) (by decide)).symm.trans h)), fun h => absurd (hcl 8 ((putL_ne (i := 3) (by decide)).symm.trans h) 3 (by decide)) (by rw [hLi]; decide), fun h => (by first | exact F9.out ((putL_ne (i := 3) (by decide)).symm.trans h) | rfl), fun h => (by first | exact F10.out ((putL_ne (i := 3) (by decide)).symm.trans h) | rfl)⟩
    · have f2 := F2.out (hanc 2 (by decide))
      have f3 := F3.out (hanc 3 (by decide))
      have hun : L 8 = false := by
        cases h : L 8
        · rfl
        · exact absurd (hcl 8 h 4 (by decide)) (by rw [hLi]; decide)
      have g3 := f3.1
      have hrs := f3.2
      subst g3
      refine wpOp_doG 4 (by rfl) (by rfl) ?_
      go_wp2_with fail
      refine (concat_any _ _ wx (hrs hun) HP9.out).mono ?_
      rintro e9 wn ⟨u, rfl, ho9, hb⟩
      rw [List.flatten_singleton] at ho9
      have hap := ho9.lt
      have ho9 := ho9.base HS.out.size
      obtain ⟨al8, cl8, hf9⟩ := ho9.held.form
      obtain ⟨nl8, hn8⟩ : ∃ nl8, pl.length = nl8 := ⟨_, rfl⟩
      rw [hn8] at hf9
      subst hf9
      clear hn8
      show I (putL L 4) _ _
      exact (HI.out (putL L 4) _ _).2 ⟨_, _, _, _, _, _, _, _, _, _, al8, cl8, nl8, q3, q8, rfl, below_next HS.out hb, fun h => (E0.out ((putL_ne (i := 4) (by decide)).symm.trans h)).later hb, E1.out.later hb, E2.out.later hb, fun h => (E3.out ((putL_ne (i := 4) (by decide)).symm.trans h)).later hb, fun _ h2 g hg eg => (by have k7 := (F7.out ((putL_ne (i := 4) (by decide)).symm.trans h2)).2.lt q8 rfl; have k8 := (hap g hg).1; subst eg; omega), fun h => (by first | exact F0.out ((putL_ne (i := 4) (by decide)).symm.trans h) | rfl), fun h => (by first | exact F1.out ((putL_ne (i := 4) (by decide)).symm.trans h) | rfl), fun h => (by first | exact F2.out ((putL_ne (i := 4) (by decide)).symm.trans h) | rfl), fun h => (fun q => ⟨(by first | exact q.1 | rfl), fun h8 => (q.2 ((putL_ne (i := 4) (by decide)).symm.trans h8)).later hb⟩) (F3.out ((putL_ne (i := 4) (by decide)).symm.trans h)), fun _ => ⟨rfl, ho9⟩, fun h => absurd (hcl 5 ((putL_ne (i := 4) (by decide)).symm.trans h) 4 (by decide)) (by rw [hLi]; decide), fun h => (by first | exact F6.out ((putL_ne (i := 4) (by decide)).symm.trans h) | rfl), fun h => (fun q => ⟨(by first | exact q.1 | rfl), q.2.later hb⟩) (F7.out ((putL_ne (i := 4) (by decide)).symm.trans h)), fun h => absurd (hcl 8 ((putL_ne (i := 4) (by decide)).symm.trans h) 4 (by decide)) (by rw [hLi]; decide), fun h => (by first | exact F9.out ((putL_ne (i := 4) (by decide)).symm.trans h) | rfl), fun h => (by first | exact F10.out ((putL_ne (i := 4) (by decide)).symm.trans h) | rfl)⟩
    · have f0 := F0.out (hanc 0 (by decide))
      have f1 := F1.out (hanc 1 (by decide))
      have f2 := F2.out (hanc 2 (by decide))
      have f3 := F3.out (hanc 3 (by decide))
      have f4 := F4.out (hanc 4 (by decide))
      have g1 := f1
      subst g1
      have g4 := f4.1
      subst g4
      refine wpOp_doG 5 (by rfl) (by rfl) ?_
      go_wp2_with fail
      have hb : Below wx.heap.size wx wx := Below.refl _ _
      show I (putL L 5) _ _
      exact (HI.out (putL L 5) _ _).2 ⟨_, _, _, _, _, _, _, _, _, _, al9, cl9, nl9, q3, q8, rfl, below_next HS.out hb, fun h => (E0.out ((putL_ne (i := 5) (by decide)).symm.trans h)).later hb, E1.out.later hb, E2.out.later hb, fun h => (E3.out ((putL_ne (i := 5) (by decide)).symm.trans h)).later hb, fun h h2 => E4.out ((putL_ne (i := 5) (by decide)).symm.trans h) ((putL_ne (i := 5) (by decide)).symm.trans h2), fun h => (by first | exact F0.out ((putL_ne (i := 5) (by decide)).symm.trans h) | rfl), fun h => (by first | exact F1.out ((putL_ne (i := 5) (by decide)).symm.trans h) | rfl), fun h => (by first | exact F2.out ((putL_ne (i := 5) (by decide)).symm.trans h) | rfl), fun h => (fun q => ⟨(by first | exact q.1 | rfl), fun h8 => (q.2 ((putL_ne (i := 5) (by decide)).symm.trans h8)).later hb⟩) (F3.out ((putL_ne (i := 5) (by decide)).symm.trans h)), fun h => (fun q => ⟨(by first | exact q.1 | rfl), q.2.later hb⟩) (F4.out ((putL_ne (i := 5) (by decide)).symm.trans h)), fun _ => rfl, fun h => (by first | exact F6.out ((putL_ne (i := 5) (by decide)).symm.trans h) | rfl), fun h => (fun q => ⟨(by first | exact q.1 | rfl), q.2.later hb⟩) (F7.out ((putL_ne (i := 5) (by decide)).symm.trans h)), fun h => absurd (hcl 8 ((putL_ne (i := 5) (by decide)).symm.trans h) 5 (by decide)) (by rw [hLi]; decide), fun h => (by first | exact F9.out ((putL_ne (i := 5) (by decide)).symm.trans h) | rfl), fun h => (by first | exact F10.out ((putL_ne (i := 5) (by decide)).symm.trans h) | rfl)⟩
    · refine wpOp_doG 6 (by rfl) (by rfl) ?_
      refine wp_load_mid 25 (.tmp 11) rfl q 0 rfl (encV x) _ (Blk.all E2.out) Tryd.underlying25 rfl infoVv ?_
      simp only [Act.put, List.setIfInBounds_toArray, List.set_cons_zero, List.set_cons_succ]
      have hb : Below wx.heap.size wx wx := Below.refl _ _
      show I (putL L 6) _ _
      exact (HI.out (putL L 6) _ _).2 ⟨_, _, _, _, _, _, _, _, _, _, al9, cl9, nl9, q3, q8, rfl, below_next HS.out hb, fun h => (E0.out ((putL_ne (i := 6) (by decide)).symm.trans h)).later hb, E1.out.later hb, E2.out.later hb, fun h => (E3.out ((putL_ne (i := 6) (by decide)).symm.trans h)).later hb, fun h h2 => E4.out ((putL_ne (i := 6) (by decide)).symm.trans h) ((putL_ne (i := 6) (by decide)).symm.trans h2), fun h => (by first | exact F0.out ((putL_ne (i := 6) (by decide)).symm.trans h) | rfl), fun h => (by first | exact F1.out ((putL_ne (i := 6) (by decide)).symm.trans h) | rfl), fun h => (by first | exact F2.out ((putL_ne (i := 6) (by decide)).symm.trans h) | rfl), fun h => (fun q => ⟨(by first | exact q.1 | rfl), fun h8 => (q.2 ((putL_ne (i := 6) (by decide)).symm.trans h8)).later hb⟩) (F3.out ((putL_ne (i := 6) (by decide)).symm.trans h)), fun h => (fun q => ⟨(by first | exact q.1 | rfl), q.2.later hb⟩) (F4.out ((putL_ne (i := 6) (by decide)).symm.trans h)), fun h => (by first | exact F5.out ((putL_ne (i := 6) (by decide)).symm.trans h) | rfl), fun _ => rfl, fun h => absurd (hcl 7 ((putL_ne (i := 6) (by decide)).symm.trans h) 6 (by decide)) (by rw [hLi]; decide), fun h => (fun q => q.later hb) (F8.out ((putL_ne (i := 6) (by decide)).symm.trans h)), fun h => absurd (hcl 9 ((putL_ne (i := 6) (by decide)).symm.trans h) 6 (by decide)) (by rw [hLi]; decide), fun h => (by first | exact F10.out ((putL_ne (i := 6) (by decide)).symm.trans h) | rfl)⟩
    · have f6 := F6.out (hanc 6 (by decide))
      have g6 := f6
      subst g6
      refine wpOp_doG 7 (by rfl) (by rfl) ?_
      go_wp2_with fail
      have HV9 := own_one wx w.heap.size HS.out.size x
      have hb := below_box wx (.cells (encV x).toArray 25)
      change OwnV (wx.alloc (.cells #[.int .i64 x.1, .int .i64 x.2.1, .string x.2.2] 25)) _ _ _ at HV9
      change Below _ wx (wx.alloc (.cells #[.int .i64 x.1, .int .i64 x.2.1, .string x.2.2] 25)) at hb
      show I (putL L 7) _ _
      exact (HI.out (putL L 7) _ _).2 ⟨_, _, _, _, _, _, _, _, _, _, al9, cl9, nl9, q3, wx.heap.size, rfl, below_next HS.out hb, fun h => (E0.out ((putL_ne (i := 7) (by decide)).symm.trans h)).later hb, E1.out.later hb, E2.out.later hb, fun h => (E3.out ((putL_ne (i := 7) (by decide)).symm.trans h)).later hb, fun h _ g hg eg => (by have k8 := ((F4.out ((putL_ne (i := 7) (by decide)).symm.trans h)).2.lt g hg).2; subst eg; exact Nat.lt_irrefl _ k8), fun h => (by first | exact F0.out ((putL_ne (i := 7) (by decide)).symm.trans h) | rfl), fun h => (by first | exact F1.out ((putL_ne (i := 7) (by decide)).symm.trans h) | rfl), fun h => (by first | exact F2.out ((putL_ne (i := 7) (by decide)).symm.trans h) | rfl), fun h => (fun q => ⟨(by first | exact q.1 | rfl), fun h8 => (q.2 ((putL_ne (i := 7) (by decide)).symm.trans h8)).later hb⟩) (F3.out ((putL_ne (i := 7) (by decide)).symm.trans h)), fun h => (fun q => ⟨(by first | exact q.1 | rfl), q.2.later hb⟩) (F4.out ((putL_ne (i := 7) (by decide)).symm.trans h)), fun h => (by first | exact F5.out ((putL_ne (i := 7) (by decide)).symm.trans h) | rfl), fun h => (by first | exact F6.out ((putL_ne (i := 7) (by decide)).symm.trans h) | rfl), fun _ => ⟨rfl, HV9⟩, fun h => (fun q => q.later hb) (F8.out ((putL_ne (i := 7) (by decide)).symm.trans h)), fun h => absurd (hcl 9 ((putL_ne (i := 7) (by decide)).symm.trans h) 7 (by decide)) (by rw [hLi]; decide), fun h => (by first | exact F10.out ((putL_ne (i := 7) (by decide)).symm.trans h) | rfl)⟩
    · have f0 := F0.out (hanc 0 (by decide))
      have f1 := F1.out (hanc 1 (by decide))
      have f2 := F2.out (hanc 2 (by decide))
      have f3 := F3.out (hanc 3 (by decide))
      have f4 := F4.out (hanc 4 (by decide))
      have f5 := F5.out (hanc 5 (by decide))
      have g5 := f5
      subst g5
      have BS := E0.out hLi
      refine wpOp_doG 8 (by rfl) (by rfl) ?_
      refine wpo_storeB 28 (.tmp 8) (.tmp 45) r 0 (stC m noV (.slice al9 nl9 cl9)) (stC 0 noV nilS) 28 infoSt (show 0 + 6 ≤ 6 by decide) (stC_one _ _ rfl) rfl rfl rfl BS ?_
      intro wn BP ho
      replace BP : Blk wn r (stC m noV (.slice al9 nl9 cl9)) 28 := BP
      simp only [Act.put, List.setIfInBounds_toArray, List.set_cons_zero, List.set_cons_succ]
      show I (putL L 8) _ _
      exact (HI.out (putL L 8) _ _).2 ⟨_, _, _, _, _, _, _, _, _, _, al9, cl9, nl9, q3, q8, rfl, below_oth HS.out ho HQ.out.1 HQ.out.1 HS.out.size, fun h => (by rw [putL_self] at h; cases h), E1.out.oth ho HQ.out.2 HQ.out.2, E2.out.oth ho HQR.out HQR.out, fun h => (by rw [putL_self] at h; cases h), fun h h2 => E4.out ((putL_ne (i := 8) (by decide)).symm.trans h) ((putL_ne (i := 8) (by decide)).symm.trans h2), fun h => (by first | exact F0.out ((putL_ne (i := 8) (by decide)).symm.trans h) | rfl), fun h => (by first | exact F1.out ((putL_ne (i := 8) (by decide)).symm.trans h) | rfl), fun h => (by first | exact F2.out ((putL_ne (i := 8) (by decide)).symm.trans h) | rfl), fun h => (fun q => ⟨(by first | exact q.1 | rfl), fun h8 => (by rw [putL_self] at h8; cases h8)⟩) (F3.out ((putL_ne (i := 8) (by decide)).symm.trans h)), fun h => (fun q => ⟨(by first | exact q.1 | rfl), q.2.oth ho BS (by decide)⟩) (F4.out ((putL_ne (i := 8) (by decide)).symm.trans h)), fun h => (by first | exact F5.out ((putL_ne (i := 8) (by decide)).symm.trans h) | rfl), fun h => (by first | exact F6.out ((putL_ne (i := 8) (by decide)).symm.trans h) | rfl), fun h => (fun q => ⟨(by first | exact q.1 | rfl), q.2.oth ho BS (by decide)⟩) (F7.out ((putL_ne (i := 8) (by decide)).symm.trans h)), fun _ => BP, fun h => (by first | exact F9.out ((putL_ne (i := 8) (by decide)).symm.trans h) | rfl), fun h => (by first | exact F10.out ((putL_ne (i := 8) (by decide)).symm.trans h) | rfl)⟩
    · have f6 := F6.out (hanc 6 (by decide))
      have f7 := F7.out (hanc 7 (by decide))
      have g7 := f7.1
      subst g7
      refine wpOp_doG 9 (by rfl) (by rfl) ?_
      go_wp2_with fail
      have hb : Below wx.heap.size wx wx := Below.refl _ _
      show I (putL L 9) _ _
      exact (HI.out (putL L 9) _ _).2 ⟨_, _, _, _, _, _, _, _, _, _, al9, cl9, nl9, q3, q8, rfl, below_next HS.out hb, fun h => (E0.out ((putL_ne (i := 9) (by decide)).symm.trans h)).later hb, E1.out.later hb, E2.out.later hb, fun h => (E3.out ((putL_ne (i := 9) (by decide)).symm.trans h)).later hb, fun h h2 => E4.out ((putL_ne (i := 9) (by decide)).symm.trans h) ((putL_ne (i := 9) (by decide)).symm.trans h2), fun h => (by first | exact F0.out ((putL_ne (i := 9) (by decide)).symm.trans h) | rfl), fun h => (by first | exact F1.out ((putL_ne (i := 9) (by decide)).symm.trans h) | rfl), fun h => (by first | exact F2.out ((putL_ne (i := 9) (by decide)).symm.trans h) | rfl), fun h => (fun q => ⟨(by first | exact q.1 | rfl), fun h8 => (q.2 ((putL_ne (i := 9) (by decide)).symm.trans h8)).later hb⟩) (F3.out ((putL_ne (i := 9) (by decide)).symm.trans h)), fun h => (fun q => ⟨(by first | exact q.1 | rfl), q.2.later hb⟩) (F4.out ((putL_ne (i := 9) (by decide)).symm.trans h)), fun h => (by first | exact F5.out ((putL_ne (i := 9) (by decide)).symm.trans h) | rfl), fun h => (by first | exact F6.out ((putL_ne (i := 9) (by decide)).symm.trans h) | rfl), fun h => (fun q => ⟨(by first | exact q.1 | rfl), q.2.later hb⟩) (F7.out ((putL_ne (i := 9) (by decide)).symm.trans h)), fun h => (fun q => q.later hb) (F8.out ((putL_ne (i := 9) (by decide)).symm.trans h)), fun _ => rfl, fun h => (by first | exact F10.out ((putL_ne (i := 9) (by decide)).symm.trans h) | rfl)⟩
    · refine YieldsIf.wpOp (S := fun _ => True) (v := .bool true) (by rfl) (.inl ⟨rfl, fun w _ => rfl⟩) trivial ?_
      simp only [Act.put, List.setIfInBounds_toArray, List.set_cons_zero, List.set_cons_succ]
      have hb : Below wx.heap.size wx wx := Below.refl _ _
      show I (putL L 10) _ _
      exact (HI.out (putL L 10) _ _).2 ⟨_, _, _, _, _, _, _, _, _, _, al9, cl9, nl9, q3, q8, rfl, below_next HS.out hb, fun h => (E0.out ((putL_ne (i := 10) (by decide)).symm.trans h)).later hb, E1.out.later hb, E2.out.later hb, fun h => (E3.out ((putL_ne (i := 10) (by decide)).symm.trans h)).later hb, fun h h2 => E4.out ((putL_ne (i := 10) (by decide)).symm.trans h) ((putL_ne (i := 10) (by decide)).symm.trans h2), fun h => (by first | exact F0.out ((putL_ne (i := 10) (by decide)).symm.trans h) | rfl), fun h => (by first | exact F1.out ((putL_ne (i := 10) (by decide)).symm.trans h) | rfl), fun h => (by first | exact F2.out ((putL_ne (i := 10) (by decide)).symm.trans h) | rfl), fun h => (fun q => ⟨(by first | exact q.1 | rfl), fun h8 => (q.2 ((putL_ne (i := 10) (by decide)).symm.trans h8)).later hb⟩) (F3.out ((putL_ne (i := 10) (by decide)).symm.trans h)), fun h => (fun q => ⟨(by first | exact q.1 | rfl), q.2.later hb⟩) (F4.out ((putL_ne (i := 10) (by decide)).symm.trans h)), fun h => (by first | exact F5.out ((putL_ne (i := 10) (by decide)).symm.trans h) | rfl), fun h => (by first | exact F6.out ((putL_ne (i := 10) (by decide)).symm.trans h) | rfl), fun h => (fun q => ⟨(by first | exact q.1 | rfl), q.2.later hb⟩) (F7.out ((putL_ne (i := 10) (by decide)).symm.trans h)), fun h => (fun q => q.later hb) (F8.out ((putL_ne (i := 10) (by decide)).symm.trans h)), fun h => (by first | exact F9.out ((putL_ne (i := 10) (by decide)).symm.trans h) | rfl), fun _ => rfl⟩
  · intro L act wx hall hIa
    obtain ⟨t40, t41, t42, t43, t44, t45, t46, t47, t9, t10, al9, cl9, nl9, q3, q8, rfl, HS, E0, E1, E2, E3, E4, F0, F1, F2, F3, F4, F5, F6, F7, F8, F9, F10⟩ := (HI.out _ _ _).1 hIa
    have f0 := F0.out (hall 0 (by decide))
    have f1 := F1.out (hall 1 (by decide))
    have f2 := F2.out (hall 2 (by decide))
    have f3 := F3.out (hall 3 (by decide))
    have f4 := F4.out (hall 4 (by decide))
    have f5 := F5.out (hall 5 (by decide))
    have f6 := F6.out (hall 6 (by decide))
    have f7 := F7.out (hall 7 (by decide))
    have f8 := F8.out (hall 8 (by decide))
    have f9 := F9.out (hall 9 (by decide))
    have f10 := F10.out (hall 10 (by decide))
    clear hIa HI F0 F1 F2 F3 F4 F5 F6 F7 F8 F9 F10
    show K9 _ _
    apply hK9
    clear hK9
    have HD : Hid (Blk wx r (stC m noV (.slice al9 nl9 cl9)) 28) := f8
    have HU : Hid (OwnV wx w.heap.size (.slice al9 nl9 cl9) pl) := f4.2
    have HY : Hid (OwnV wx w.heap.size (.slice (some ⟨q8, 0, none⟩) 1 1) [x]) := f7.2
    have HA := E4.out (hall 4 (by decide)) (hall 7 (by decide))
    have ga := f9
    subst ga
    have gb := f10
    subst gb
    clear E0 E1 E2 E3 E4 f0 f1 f2 f3 f4 f5 f6 f7 f8 f9 f10
    go_wp2
    refine ret_blk3 rfl r (stC m noV (.slice al9 nl9 cl9)) 28 _ (.slice (some ⟨q8, 0, none⟩) 1 1) (.bool true) Tryd.underlying28 rfl infoSt rfl HD.out rfl rfl rfl ?_
    refine ⟨_, _, rfl, hO1 ▸ HY.out, hN1 ▸ (HU.out.held.base hB), (fun g hg eg => ?_), HS.out⟩
    injection hg with hg
    exact HA g eg hg.symm
theorem step_yesQ (m : Int) (B : Nat) (c : Val) (vl : Value) (l : List Val) (o : Int) (va : Value) (xs : List Val) (w : World) (hm : ownQ m = true) (hB : B ≤ w.heap.size) (ht : Tb w) (hl : HeldV w B vl l) (hn : l.length ≤ 1000) (hv : VSl w va xs) (hz : SzV xs) (hc : c.2.2.size ≤ 4611686018427387904) (hd : mayD m ⟨c, o, xs⟩ = true) :
    Calls Tryd.prog 12 #[.agg (stC m noV vl).toArray, .agg #[.int .i64 c.1, .int .i64 c.2.1, .string c.2.2], .int .i64 o, va] w fun e w' => RStepQ m B l ⟨c, o, xs⟩ w e w' := by
  obtain ⟨al, cl, rfl⟩ := hl.form
  have ho : o = 9 ∨ o = 10 := by
    rcases (may_casesQ hm hd).1 with h | h
    · exact .inl h.1
    · exact .inr h.1
  rcases ho with rfl | rfl
  · exact step_push m B c al l.length cl l va xs w hm hB ht hl rfl hn hv hz hc hd
  · exact step_pop m B c al l.length cl l va xs w hm hB ht hl rfl hn hv hz hc hd
theorem queue_ok : QueueOK := ⟨new_anyQ, fun m c vl l o va xs w ht hl hv hz hc h => step_noQ m noV c vl o va xs w ht hv hz hc h, fun m B c vl l o va xs w hm hB ht hl hn hv hz hc hd => step_yesQ m B c vl l o va xs w hm hB ht hl hn hv hz hc hd⟩
end Go.Proofs.YthgafmhpajikdaaDoor
