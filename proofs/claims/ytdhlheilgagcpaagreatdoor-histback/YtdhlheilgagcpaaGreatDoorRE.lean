/- The contract of Print. Conditions: the tables and the event's lists lie in memory; the event's numbers are of 64 bits, its texts at most 2^62 bytes, its values few enough. -/
import Derived.Test.YtdhlheilgagcpaaGreatDoorBX
namespace Go.Proofs.YtdhlheilgagcpaaGreatDoor
open Go.RowKit Go.PlainAid Ln
set_option linter.unusedVariables false
set_option linter.unusedSimpArgs false

theorem join_snoc (W : List (List UInt8)) (l : List UInt8) (h : W ≠ []) : Lib.join (W ++ [l]) [32] = Lib.join W [32] ++ 32 :: l := by
  obtain ⟨W', z, rfl⟩ : ∃ W' z, W = W' ++ [z] := ⟨W.dropLast, W.getLast h, (List.dropLast_concat_getLast h).symm⟩
  rw [join_flat, join_flat, flatC_snoc]; simp
/-- the first words of an event -/
def l0 (x : Ev) : List (List UInt8) := tx (txt x.t) :: pv x.c :: tx (tn x.y) :: (if x.y = 1 then [tx (mn x.m), pv x.k, tx (on x.o)] else [])
theorem lst_wds (x : Ev) : lst (l0 x) x = wds x ++ (if x.nd = true then [59 :: tx x.n] else []) := by
  unfold lst l0 wds; simp
theorem join_lst (x : Ev) : Lib.join (lst (l0 x) x) [32] = lineE x := by
  rw [lst_wds]
  unfold lineE
  cases x.nd
  · simp
  · rw [if_pos rfl, if_pos rfl, join_snoc _ _ (by unfold wds; simp)]
theorem right_n {x : Ev} (h : rightE x = true) : x.n.size ≤ 100 := by
  simp only [rightE, Bool.and_eq_true] at h
  have := h.1.2
  unfold noteB at this
  split at this
  · exact (of_decide_eq_true this).1
  · have := of_decide_eq_true this; omega
theorem right_y {x : Ev} (h : rightE x = true) : ∃ k : Nat, x.y = (k : Int) ∧ 0 < k ∧ k < 5 := by
  simp only [rightE, Bool.and_eq_true] at h
  have := h.2
  unfold typB at this
  split at this
  · exact ⟨1, by omega, by decide, by decide⟩
  · split at this
    · exact ⟨2, by omega, by decide, by decide⟩
    · split at this
      · rename_i h
        rcases h with h | h
        · exact ⟨3, by omega, by decide, by decide⟩
        · exact ⟨4, by omega, by decide, by decide⟩
      · cases this
theorem right_t {x : Ev} (h : rightE x = true) : 0 ≤ x.t := by
  simp only [rightE, Bool.and_eq_true, decide_eq_true_eq] at h
  exact h.1.1.1
theorem lst_len {x : Ev} (h : rightE x = true) (hb : bdE x) (lr : x.r.length ≤ 900000) : (Lib.join (lst (l0 x) x) [32]).length ≤ 1099511627776 := by
  obtain ⟨h1, h2⟩ := wds_len h hb
  have h3 := join_len (wds x) h1
  have h4 : (wds x).length * (61 + 1) ≤ 900008 * 62 := Nat.mul_le_mul_right _ (by omega)
  have h5 := right_n h
  rw [join_lst]
  unfold lineE
  rw [List.length_append]
  split
  · simp only [List.length_cons, tx_len]; omega
  · simp only [List.length_nil]; omega
theorem evC_c (x : Ev) (va vr : Value) : ∀ (j : Nat) (v : Value), (vls x.c.1 x.c.2.1 x.c.2.2)[j]? = some v → (evC x va vr)[1 + j]? = some v := by
  intro j v h
  rcases j with _ | _ | _ | j
  · exact h
  · exact h
  · exact h
  · exact absurd h (by simp [vls])
theorem evC_k (x : Ev) (va vr : Value) : ∀ (j : Nat) (v : Value), (vls x.k.1 x.k.2.1 x.k.2.2)[j]? = some v → (evC x va vr)[6 + j]? = some v := by
  intro j v h
  rcases j with _ | _ | _ | j
  · exact h
  · exact h
  · exact h
  · exact absurd h (by simp [vls])
/-- what stays as it is while the words are made -/
def SPr (p k : Nat) (x : Ev) (va vr : Value) (w w' : World) : Prop := Blk w' p (evC x va vr) 37 ∧ Below w.heap.size w w' ∧ w'.cell? ⟨0, k, none⟩ = some (.string (tn (k : Int)))
theorem SPr.later {p k : Nat} {x : Ev} {va vr : Value} {w w' w2 : World} (h : SPr p k x va vr w w') (ht : Tbs w) (hk : k < 5) (hb : Below w'.heap.size w' w2) : SPr p k x va vr w w2 :=
  ⟨h.1.later hb, below_next h.2.1 hb, (ht.later (below_next h.2.1 hb)).2.2.2.cell hk⟩
set_option maxRecDepth 100000 in
set_option maxHeartbeats 4000000 in
theorem eprint_any (x : Ev) (va vr : Value) (w : World) (ht : Tbs w) (hp : Pt w) (h1 : VSl w va x.a) (h2 : VSl w vr x.r) (hz : SzE x) (hb : bdE x) (lr : x.r.length ≤ 900000) :
    Calls Tryz.prog 14 #[.agg (evC x va vr).toArray] w fun e w' => e = .returned (.string (if rightE x = true then bs (lineE x) else ⟨#[]⟩)) ∧ Below w.heap.size w w' := by
  have mixed : Tryz.prog.follows .mixedOrders = true := by kernel_rfl
  have hR := fun w' (hb : Below w.heap.size w w') => eright_any x va vr w' (ht.1.later hb) (h1.later hb) (h2.later hb) hz
  obtain ⟨w1, hw1⟩ : ∃ w1, w.alloc (.cells (evC x va vr).toArray 37) = w1 := ⟨_, rfl⟩
  have B1 := Blk.new w (evC x va vr) 37
  rw [hw1] at B1
  have b1 : Below w.heap.size w w1 := by rw [← hw1]; exact below_more (Below.refl _ _) _
  have ea := hw1
  simp only [evC] at ea
  obtain ⟨p, hpp⟩ : ∃ p, w.heap.size = p := ⟨_, rfl⟩
  have Hpp : Hid (w.heap.size = p) := hpp
  rw [hpp] at B1
  have HB : Hid (Blk w1 p (evC x va vr) 37) := B1
  have Hb1 : Hid (Below w.heap.size w w1) := b1
  obtain ⟨a0, a1, a2, a3, a4, a5, a6, a7, a8, a9, a10, a11, a12, a13⟩ := ev_cells B1
  have HT : Hid (Tbs w) := ht
  have HP : Hid (Pt w) := hp
  have H1 : Hid (VSl w va x.a) := h1
  have H2 : Hid (VSl w vr x.r) := h2
  have HZ : Hid (SzE x) := hz
  have Hb : Hid (bdE x) := hb
  have HLr : Hid (x.r.length ≤ 900000) := lr
  have HR : Hid (∀ w', Below w.heap.size w w' → _) := hR
  clear hw1 B1 b1 ht hp h1 h2 hz hb lr hR
  cases hr : rightE x
  · rw [if_neg (by decide)]
    simp only [evC]
    go_enter Tryz.func14, Tryz.ntmps14
    go_wp2_with fail
    refine (HR.out _ Hb1.out).mono ?_
    rintro e w2 ⟨rfl, b2⟩
    rw [hr]
    go_wp2_with fail
    go_ret
    exact ⟨rfl, by first | exact below_next Hb1.out b2 | (rw [← hpp]; exact below_next Hb1.out b2)⟩
  · rw [if_pos rfl, ← join_lst]
    obtain ⟨k, hy, hk0, hk⟩ := right_y hr
    have HH : Hid (0 ≤ x.t ∧ x.t ≤ 9223372036854775807 ∧ x.n.size ≤ 100 ∧ x.a.length ≤ 2 ∧ (Lib.join (lst (l0 x) x) [32]).length ≤ 1099511627776) := ⟨right_t hr, Hb.out.1, right_n hr, a_len hr, lst_len hr Hb.out HLr.out⟩
    have HK : Hid (k < 5) := hk
    have HY : Hid (x.y = (k : Int)) := hy
    clear hy
    have hk1 : (0 : Int) ≤ (k : Int) := by omega
    have hk2 : (k : Int) < 5 := by omega
    simp only [evC]
    go_enter Tryz.func14, Tryz.ntmps14
    go_wp2_with fail
    refine (HR.out _ Hb1.out).mono ?_
    rintro e w2 ⟨rfl, b2⟩
    rw [hr]
    have HB2 : Hid (Blk w2 p (evC x va vr) 37) := HB.out.later b2
    have HBel2 : Hid (Below w.heap.size w w2) := below_next Hb1.out b2
    clear b2 a0 a1 a2 a3 a4 a5 a6 a7 a8 a9 a10 a11 a12 a13 ea
    go_wp2_with fail
    rename_i K hKK
    have BRd : SPr p k x va vr w { w2 with drawn := w2.drawn + 1 } := ⟨HB2.out.drew, ⟨HBel2.out.os, HBel2.out.tape, HBel2.out.output, HBel2.out.size, HBel2.out.block⟩, (HT.out.later HBel2.out).2.2.2.cell hk⟩
    refine wp_region_held (S := SPr p k x va vr w) mixed ?_
    generalize ({ w2 with drawn := w2.drawn + 1 } : World) = w3 at BRd ⊢
    have HW := BRd
    clear BRd
    refine takeH 0 7 (.pointer (some ⟨p, 0, none⟩)) rfl rfl (by kernel_rfl) (by kernel_rfl) (by kernel_rfl) (fun c a w h => h) (.inl ⟨rfl, fun w _ => by go_simp⟩) HW ?_
    simp only [List.setIfInBounds_toArray, List.set_cons_zero, List.set_cons_succ]
    refine takeH 1 8 (.int .i64 x.t) rfl rfl (by kernel_rfl) (by kernel_rfl) (by kernel_rfl) (fun c a w h => h) (.inl ⟨rfl, fun wx hx => by have c := hx.1.cell 0 (.int .i64 x.t) rfl; go_simp⟩) HW ?_
    simp only [List.setIfInBounds_toArray, List.set_cons_zero, List.set_cons_succ]
    refine takeH 3 10 (.pointer (some ⟨p, 1, none⟩)) rfl rfl (by kernel_rfl) (by kernel_rfl) (by kernel_rfl) (fun c a w h => h) (.inl ⟨rfl, fun w _ => by go_simp⟩) HW ?_
    simp only [List.setIfInBounds_toArray, List.set_cons_zero, List.set_cons_succ]
    refine takeH 4 11 (.agg (vls x.c.1 x.c.2.1 x.c.2.2).toArray) rfl rfl (by kernel_rfl) (by kernel_rfl) (by kernel_rfl) (fun c a w h => h) (yieldsIf_load_mid rfl 34 (.tmp 10) rfl p 1 rfl (vls x.c.1 x.c.2.1 x.c.2.2) _ (fun wx hx => hx.1.range 1 _ (evC_c x va vr)) Tryz.underlying34 rfl sizeV) HW ?_
    simp only [List.setIfInBounds_toArray, List.set_cons_zero, List.set_cons_succ]
    refine takeH 6 13 (.pointer (some ⟨p, 4, none⟩)) rfl rfl (by kernel_rfl) (by kernel_rfl) (by kernel_rfl) (fun c a w h => h) (.inl ⟨rfl, fun w _ => by go_simp⟩) HW ?_
    simp only [List.setIfInBounds_toArray, List.set_cons_zero, List.set_cons_succ]
    refine takeH 7 14 (.int .i64 (k : Int)) rfl rfl (by kernel_rfl) (by kernel_rfl) (by kernel_rfl) (fun c a w h => h) (.inl ⟨rfl, fun wx hx => by have c := hx.1.cell 4 (.int .i64 x.y) rfl; rw [HY.out] at c; go_simp⟩) HW ?_
    simp only [List.setIfInBounds_toArray, List.set_cons_zero, List.set_cons_succ]
    refine takeH 8 15 (.pointer (some ⟨0, k, none⟩)) rfl rfl (by kernel_rfl) (by kernel_rfl) (by kernel_rfl) (fun c a w h => h) (.inl ⟨rfl, fun wx hx => by go_simp⟩) HW ?_
    simp only [List.setIfInBounds_toArray, List.set_cons_zero, List.set_cons_succ]
    refine takeH 9 16 (.string (tn (k : Int))) rfl rfl (by kernel_rfl) (by kernel_rfl) (by kernel_rfl) (fun c a w h => h) (.inl ⟨rfl, fun wx hx => by have c := hx.2.2; go_simp⟩) HW ?_
    simp only [List.setIfInBounds_toArray, List.set_cons_zero, List.set_cons_succ]
    refine wpAnyH_all (rs := [2]) (by kernel_rfl) (by simp) (fun i hi => ?_)
    obtain rfl : i = 2 := by simpa using hi
    refine wpOp_doG 2 (by rfl) (by rfl) ?_
    go_wp2_with fail
    refine (print_any x.t w3 (by have := HH.out.1; omega) HH.out.2.1 (HP.out.later HW.2.1)).mono ?_
    rintro e n1 ⟨rfl, hb⟩
    refine ⟨HW.later HT.out HK.out hb, ?_⟩
    replace HW := HW.later HT.out HK.out hb
    clear hb
    refine wpAnyH_all (rs := [5]) (by kernel_rfl) (by simp) (fun i hi => ?_)
    obtain rfl : i = 5 := by simpa using hi
    refine wpOp_doG 5 (by rfl) (by rfl) ?_
    go_wp2_with fail
    refine (vprint_any x.c.1 x.c.2.1 x.c.2.2 n1 HZ.out.1 Hb.out.2.1 (HP.out.later HW.2.1)).mono ?_
    rintro e n2 ⟨rfl, hb⟩
    refine ⟨HW.later HT.out HK.out hb, ?_⟩
    replace HW := HW.later HT.out HK.out hb
    clear hb
    refine wpAnyH_all (rs := [10]) (by kernel_rfl) (by simp) (fun i hi => ?_)
    obtain rfl : i = 10 := by simpa using hi
    refine wpOp_doG 10 (by rfl) (by rfl) ?_
    go_wp2_with fail
    have ho := own_three n2 (p + 1) (txt x.t) (prt x.c.1 x.c.2.1 x.c.2.2) (tn (k : Int)) (by have := HW.1.lt; omega)
    have hb : Below n2.heap.size n2 (n2.alloc (.cells #[.string (txt x.t), .string (prt x.c.1 x.c.2.1 x.c.2.2), .string (tn (k : Int))] 9)) := (Below.refl _ _).alloc (Nat.le_refl _) _
    generalize n2.alloc (.cells #[.string (txt x.t), .string (prt x.c.1 x.c.2.1 x.c.2.2), .string (tn (k : Int))] 9) = n3 at ho hb ⊢
    refine ⟨HW.later HT.out HK.out hb, ?_⟩
    replace HW := HW.later HT.out HK.out hb
    clear hb
    refine takeH 11 3 (.slice (some ⟨n2.heap.size, 0, none⟩) 3 3) rfl rfl (by kernel_rfl) (by kernel_rfl) (by kernel_rfl) (fun c a w h => h) (.inl ⟨rfl, fun w _ => rfl⟩) HW ?_
    simp only [List.setIfInBounds_toArray, List.set_cons_zero, List.set_cons_succ]
    refine wpAnyH_done (by kernel_rfl) ?_ _
    show K _ _
    apply hKK
    clear hKK
    obtain ⟨g, hg⟩ : ∃ g, n2.heap.size = g := ⟨_, rfl⟩
    rw [hg] at ho ⊢
    clear hg
    obtain ⟨a0, a1, a2, a3, a4, a5, a6, a7, a8, a9, a10, a11, a12, a13⟩ := ev_cells HW.1
    by_cases e1 : k = 1
    · have hy1 : (x.y == 1) = true := by rw [HY.out, e1]; rfl
      have hy2 : x.y = 1 := by rw [HY.out, e1]; rfl
      have HY2 : Hid (x.y = 1) := hy2
      clear hy2
      have HE1 : Hid (k = 1) := e1
      clear e1
      go_step
      rename_i K1 hK1
      have HK1 : Hid (∀ a w, _ → K1 a w) := hK1
      clear hK1
      go_wp2_with fail
      have BRd : SPr p k x va vr w { n3 with drawn := n3.drawn + 1 } := ⟨HW.1.drew, ⟨HW.2.1.os, HW.2.1.tape, HW.2.1.output, HW.2.1.size, HW.2.1.block⟩, HW.2.2⟩
      have ho2 : OwnS { n3 with drawn := n3.drawn + 1 } (p + 1) (.slice (some ⟨g, 0, none⟩) 3 3) _ := ho
      clear HW ho
      refine wp_region_held (S := SPr p k x va vr w) mixed ?_
      generalize ({ n3 with drawn := n3.drawn + 1 } : World) = m3 at BRd ho2 ⊢
      have HW := BRd
      have ho := ho2
      clear BRd ho2 a0 a1 a2 a3 a4 a5 a6 a7 a8 a9 a10 a11 a12 a13
      refine takeH 0 21 (.slice (some ⟨g, 0, none⟩) 3 3) rfl rfl (by kernel_rfl) (by kernel_rfl) (by kernel_rfl) (fun c a w h => h) (.inl ⟨rfl, fun w _ => rfl⟩) HW ?_
      simp only [List.setIfInBounds_toArray, List.set_cons_zero, List.set_cons_succ]
      refine takeH 1 22 (.pointer (some ⟨p, 5, none⟩)) rfl rfl (by kernel_rfl) (by kernel_rfl) (by kernel_rfl) (fun c a w h => h) (.inl ⟨rfl, fun w _ => by go_simp⟩) HW ?_
      simp only [List.setIfInBounds_toArray, List.set_cons_zero, List.set_cons_succ]
      refine takeH 2 23 (.int .i64 x.m) rfl rfl (by kernel_rfl) (by kernel_rfl) (by kernel_rfl) (fun c a w h => h) (.inl ⟨rfl, fun wx hx => by have c := hx.1.cell 5 (.int .i64 x.m) rfl; go_simp⟩) HW ?_
      simp only [List.setIfInBounds_toArray, List.set_cons_zero, List.set_cons_succ]
      refine takeH 4 25 (.pointer (some ⟨p, 6, none⟩)) rfl rfl (by kernel_rfl) (by kernel_rfl) (by kernel_rfl) (fun c a w h => h) (.inl ⟨rfl, fun w _ => by go_simp⟩) HW ?_
      simp only [List.setIfInBounds_toArray, List.set_cons_zero, List.set_cons_succ]
      refine takeH 5 26 (.agg (vls x.k.1 x.k.2.1 x.k.2.2).toArray) rfl rfl (by kernel_rfl) (by kernel_rfl) (by kernel_rfl) (fun c a w h => h) (yieldsIf_load_mid rfl 34 (.tmp 25) rfl p 6 rfl (vls x.k.1 x.k.2.1 x.k.2.2) _ (fun wx hx => hx.1.range 6 _ (evC_k x va vr)) Tryz.underlying34 rfl sizeV) HW ?_
      simp only [List.setIfInBounds_toArray, List.set_cons_zero, List.set_cons_succ]
      refine takeH 7 28 (.pointer (some ⟨p, 9, none⟩)) rfl rfl (by kernel_rfl) (by kernel_rfl) (by kernel_rfl) (fun c a w h => h) (.inl ⟨rfl, fun w _ => by go_simp⟩) HW ?_
      simp only [List.setIfInBounds_toArray, List.set_cons_zero, List.set_cons_succ]
      refine takeH 8 29 (.int .i64 x.o) rfl rfl (by kernel_rfl) (by kernel_rfl) (by kernel_rfl) (fun c a w h => h) (.inl ⟨rfl, fun wx hx => by have c := hx.1.cell 9 (.int .i64 x.o) rfl; go_simp⟩) HW ?_
      simp only [List.setIfInBounds_toArray, List.set_cons_zero, List.set_cons_succ]
      refine wpAnyH_all (rs := [3]) (by kernel_rfl) (by simp) (fun i hi => ?_)
      obtain rfl : i = 3 := by simpa using hi
      refine wpOp_doG 3 (by rfl) (by rfl) ?_
      go_wp2_with fail
      refine (modelName_any x.m m3 (HT.out.later HW.2.1).2.1).mono ?_
      rintro e q1 ⟨rfl, hb⟩
      refine ⟨HW.later HT.out HK.out hb, ?_⟩
      replace HW := HW.later HT.out HK.out hb
      replace ho := ho.later hb
      clear hb
      refine wpAnyH_all (rs := [6]) (by kernel_rfl) (by simp) (fun i hi => ?_)
      obtain rfl : i = 6 := by simpa using hi
      refine wpOp_doG 6 (by rfl) (by rfl) ?_
      go_wp2_with fail
      refine (vprint_any x.k.1 x.k.2.1 x.k.2.2 q1 HZ.out.2.1 Hb.out.2.2.1 (HP.out.later HW.2.1)).mono ?_
      rintro e q2 ⟨rfl, hb⟩
      refine ⟨HW.later HT.out HK.out hb, ?_⟩
      replace HW := HW.later HT.out HK.out hb
      replace ho := ho.later hb
      clear hb
      refine wpAnyH_all (rs := [9]) (by kernel_rfl) (by simp) (fun i hi => ?_)
      obtain rfl : i = 9 := by simpa using hi
      refine wpOp_doG 9 (by rfl) (by rfl) ?_
      go_wp2_with fail
      refine (opName_any x.o q2 (HT.out.later HW.2.1).2.2.1).mono ?_
      rintro e q3 ⟨rfl, hb⟩
      refine ⟨HW.later HT.out HK.out hb, ?_⟩
      replace HW := HW.later HT.out HK.out hb
      replace ho := ho.later hb
      clear hb
      refine wpAnyH_all (rs := [10]) (by kernel_rfl) (by simp) (fun i hi => ?_)
      obtain rfl : i = 10 := by simpa using hi
      refine wpOp_doG 10 (by rfl) (by rfl) ?_
      go_wp2_with fail
      have hs := own_three q3 0 (mn x.m) (prt x.k.1 x.k.2.1 x.k.2.2) (on x.o) (Nat.zero_le _)
      have hb : Below q3.heap.size q3 (q3.alloc (.cells #[.string (mn x.m), .string (prt x.k.1 x.k.2.1 x.k.2.2), .string (on x.o)] 9)) := (Below.refl _ _).alloc (Nat.le_refl _) _
      generalize q3.alloc (.cells #[.string (mn x.m), .string (prt x.k.1 x.k.2.1 x.k.2.2), .string (on x.o)] 9) = q4 at hs hb ⊢
      refine ⟨HW.later HT.out HK.out hb, ?_⟩
      replace HW := HW.later HT.out HK.out hb
      replace ho := ho.later hb
      clear hb
      refine wpAnyH_all (rs := [11]) (by kernel_rfl) (by simp) (fun i hi => ?_)
      obtain rfl : i = 11 := by simpa using hi
      refine wpOp_doG 11 (by rfl) (by rfl) ?_
      refine wpo_appendS (.tmp 21) (.tmp 31) rfl (p + 1) _ _ _ _ rfl ho rfl hs.ssl (by simp) (by simp) (by have := HW.1.lt; omega) ?_
      intro v6 n6 o6 g6 _
      have bel6 : Below w.heap.size w n6 := below_row HW.2.1 g6 ho (by have := Hpp.out; omega)
      have HW6 : SPr p k x va vr w n6 := ⟨HW.1.row g6 ho (Nat.lt_succ_self p), bel6, (HT.out.later bel6).2.2.2.cell HK.out⟩
      refine ⟨HW6, ?_⟩
      clear HW ho hs g6
      have HW := HW6
      have ho := o6
      clear HW6 o6
      refine takeH 12 3 v6 rfl rfl (by kernel_rfl) (by kernel_rfl) (by kernel_rfl) (fun c a w h => h) (.inl ⟨rfl, fun w _ => rfl⟩) HW ?_
      simp only [List.setIfInBounds_toArray, List.set_cons_zero, List.set_cons_succ]
      refine wpAnyH_done (by kernel_rfl) ?_ _
      show K1 _ _
      refine HK1.out _ _ ?_
      have hl : l0 x = [tx (txt x.t), pv x.c, tx (tn x.y), tx (mn x.m), pv x.k, tx (on x.o)] := by unfold l0; rw [if_pos HY2.out]
      rw [← HY.out] at ho
      replace ho : OwnS n6 (p + 1) v6 (l0 x) := by rw [hl]; exact ho
      exact ep_tail x va vr _ w n6 p (p + 1) (l0 x) _ _ _ _ _ _ _ _ _ _ _ _ _ _ _ _ _ _ _ _ _ _ _ _ _ _ _ _ _ _ _ _ _ _ _ _ _ _ _ _ _ _ _ _ _ _ _ _ _ HW.1 (Nat.lt_succ_self p) (by have := Hpp.out; omega) (by have := HW.1.lt; omega) ho (by rw [hl]; simp) HW.2.1 HP.out H1.out H2.out HZ.out Hb.out HH.out.2.2.2.1 HLr.out HH.out.2.2.1 HH.out.2.2.2.2
    · have hy1 : (x.y == 1) = false := by rw [HY.out]; simp; omega
      go_step
      rename_i K1 hK1
      have HK1 : Hid (∀ a w, _ → K1 a w) := hK1
      clear hK1
      go_wp2_with fail
      refine HK1.out _ _ ?_
      have hl : l0 x = [tx (txt x.t), pv x.c, tx (tn x.y)] := by unfold l0; rw [if_neg (by rw [HY.out]; omega)]
      rw [← HY.out] at ho
      replace ho : OwnS n3 (p + 1) (.slice (some ⟨g, 0, none⟩) 3 3) (l0 x) := by rw [hl]; exact ho
      exact ep_tail x va vr _ w n3 p (p + 1) (l0 x) _ _ _ _ _ _ _ _ _ _ _ _ _ _ _ _ _ _ _ _ _ _ _ _ _ _ _ _ _ _ _ _ _ _ _ _ _ _ _ _ _ _ _ _ _ _ _ _ _ HW.1 (Nat.lt_succ_self p) (by have := Hpp.out; omega) (by have := HW.1.lt; omega) ho (by rw [hl]; simp) HW.2.1 HP.out H1.out H2.out HZ.out Hb.out HH.out.2.2.2.1 HLr.out HH.out.2.2.1 HH.out.2.2.2.2
end Go.Proofs.YtdhlheilgagcpaaGreatDoor
