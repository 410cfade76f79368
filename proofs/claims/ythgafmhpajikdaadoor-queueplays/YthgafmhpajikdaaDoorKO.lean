/- The contracts of the document's State and Out of a queue and a stack. Conditions: those of left. -/
import Derived.Test.YthgafmhpajikdaaDoorKG
import Derived.Test.YthgafmhpajikdaaDoorUI
namespace Go.Proofs.YthgafmhpajikdaaDoor
open Go.RowKit Go.PlainAid Ln Go.Sort
set_option linter.unusedVariables false
set_option linter.unusedSimpArgs false

set_option maxHeartbeats 4000000 in
theorem state_anyQ (m : Int) (v : Value) (ys : List YD) (w : World) (hv : DSl w v ys) (hi : InD w ys) (hk : ∀ i, i < ys.length → OkQ (yd ys i).1) (hl : ys.length ≤ 1000) :
    Calls Tryd.prog 11 #[.int .i64 m, v] w fun e w' => ∃ l, e = .returned (.agg (stC m noV l).toArray) ∧ OwnV w' w.heap.size l (keptQ m (ys.map (·.1))) ∧ Below w.heap.size w w' := by
  have bx := below_box w (.cells (stC 0 noV nilS).toArray 28)
  have hL := left_any m v ys (w.alloc (.cells (stC 0 noV nilS).toArray 28)) (hv.later bx) (hi.later bx) hk hl
  have HR0 : Hid (Blk (w.alloc (.cells (stC 0 noV nilS).toArray 28)) w.heap.size (stC 0 noV nilS) 28) := Blk.new w _ _
  have HB0 : Hid (Below w.heap.size w (w.alloc (.cells (stC 0 noV nilS).toArray 28))) := bx
  clear hv hi hk bx
  generalize keptQ m (ys.map (·.1)) = kb at *
  go_enter Tryd.func11, Tryd.ntmps11
  go_wp2_with fail
  refine hL.mono ?_
  rintro e w7 ⟨vs, rfl, hvs, hb7⟩
  have HR7 : Hid (Blk w7 w.heap.size (stC 0 noV nilS) 28) := HR0.out.later hb7
  have HB7 : Hid (Below w.heap.size w w7) := below_next HB0.out hb7
  obtain ⟨a7, c7, hf⟩ := hvs.form
  have HV7 : Hid (OwnV w7 w.heap.size vs kb) := hvs.base HB0.out.size
  generalize kb.length = nk at hf
  subst hf
  clear hvs hb7 HR0 HB0 hL
  go_wp2_with ((with_reducible refine wp_storeB 28 (.tmp 4) (.tmp 9) w.heap.size 0 (stC m noV (.slice a7 nk c7)) (stC 0 noV nilS) 28 ?_ ?_ (stC_one _ _ rfl) ?_ ?_ ?_ HR7.out ?_); (exact infoSt); (exact (show 0 + 6 ≤ 6 by decide)); (exact ⟨rfl, rfl⟩); (exact rfl); (exact rfl); (intro w8 D1 o8); (replace D1 : Blk w8 w.heap.size (stC m noV (.slice a7 nk c7)) 28 := D1); (have HR8 : Hid (Blk w8 w.heap.size (stC m noV (.slice a7 nk c7)) 28) := D1); (have HB8 : Hid (Below w.heap.size w w8) := below_oth HB7.out o8 (Nat.le_refl _) (Nat.le_refl _) HB7.out.size); (have HV8 : Hid (OwnV w8 w.heap.size (.slice a7 nk c7) kb) := HV7.out.oth o8 HR7.out (by decide)); (clear D1 o8))
  refine ret_blk rfl w.heap.size (stC m noV (.slice a7 nk c7)) 28 _ Tryd.underlying28 rfl infoSt rfl HR8.out rfl ?_
  exact ⟨_, rfl, HV8.out, HB8.out⟩
set_option maxHeartbeats 4000000 in
theorem out_anyQ (m : Int) (v : Value) (ys : List YD) (d : Dd) (va : Value) (w : World) (hv : DSl w v ys) (hi : InD w ys) (hk : ∀ i, i < ys.length → OkQ (yd ys i).1) (hl : ys.length ≤ 1000) :
    Calls Tryd.prog 15 #[.int .i64 m, v, .agg (ddC d va).toArray] w fun e w' => ∃ vo, e = .returned vo ∧ VSl w' vo (outQ m (keptQ m (ys.map (·.1))) d) ∧ Below w.heap.size w w' := by
  obtain ⟨yc, yo, ya⟩ := d
  have HL : Hid (∀ w', Below w.heap.size w w' → Calls Tryd.prog 21 #[.int .i64 m, v] w' fun e w'' => ∃ l, e = .returned l ∧ OwnV w'' w'.heap.size l (keptQ m (ys.map (·.1))) ∧ Below w'.heap.size w' w'') := fun w' hb => left_any m v ys w' (hv.later hb) (hi.later hb) hk hl
  clear hv hi hk
  have HKl : Hid ((keptQ m (ys.map (·.1))).length ≤ 1000) := by
    have := keptQ_len m (ys.map (·.1))
    rw [List.length_map] at this
    exact Nat.le_trans this hl
  generalize keptQ m (ys.map (·.1)) = kb at *
  simp only [ddC]
  by_cases h10 : yo = 10
  · subst h10
    rw [outQ_10 rfl]
    have bx := below_box w (.cells (ddC ⟨yc, 10, ya⟩ va).toArray 36)
    go_enter Tryd.func15, Tryd.ntmps15
    go_wp2_with fail
    refine (HL.out _ bx).mono ?_
    rintro e w2 ⟨l, rfl, hl2, hb2⟩
    have HB2 : Hid (Below w.heap.size w w2) := below_next bx hb2
    have HV2 : Hid (VSl w2 l kb) := hl2.vsl
    obtain ⟨a, c, rfl⟩ := hl2.form
    clear hl2 hb2 bx HL
    by_cases h0 : kb = []
    · subst h0
      have HTop : Hid (topQ m [] = noV) := if_pos rfl
      go_wp2
      go_ret
      exact ⟨_, rfl, by rw [HTop.out]; exact (own_one w2 w2.heap.size (Nat.le_refl _) noV).vsl, below_more HB2.out _⟩
    · have hp : 0 < kb.length := List.length_pos_iff.2 h0
      obtain ⟨bv, ov, cv, hv1, hvb, hcv, hvat⟩ := vsl_first HV2.out hp
      injection hv1 with hv1 hv2 hv3
      subst hv1 hv3
      clear hv2
      have hn0 : ((kb.length : Int) == 0) = false := by simp; omega
      by_cases h6 : m = 6
      · have ht : topQ m kb = nv kb (kb.length - 1) := by unfold topQ; rw [if_neg h0, if_pos h6]; rfl
        subst h6
        obtain ⟨c0, c1, c2⟩ := hvat (kb.length - 1) (by omega)
        obtain ⟨r, hr⟩ : ∃ r, r = kb.length - 1 := ⟨_, rfl⟩
        rw [← hr] at c0 c1 c2
        rw [← hr] at ht
        obtain ⟨u, hu⟩ : ∃ u, nv kb r = u := ⟨_, rfl⟩
        rw [hu] at c0 c1 c2 ht
        have HTop : Hid (topQ 6 kb = u) := ht
        have hn10 : kb.length ≤ 1000 := HKl.out
        obtain ⟨n, hn⟩ : ∃ n, kb.length = n := ⟨_, rfl⟩
        rw [hn] at hn0 hcv hr hn10 hp ⊢
        have hrs : (n : Int) - 1 = (r : Int) := by omega
        have hrl : (r : Int) < (n : Int) := by omega
        clear hn hr
        clear hvat hu ht h0 hp HKl
        go_wp2
        go_ret
        exact ⟨_, rfl, by rw [HTop.out]; exact (own_one w2 w2.heap.size (Nat.le_refl _) u).vsl, below_more HB2.out _⟩
      · have e6 : (m == 6) = false := by simp [h6]
        have ht : topQ m kb = nv kb 0 := by unfold topQ; rw [if_neg h0, if_neg h6]
        obtain ⟨c0, c1, c2⟩ := hvat 0 hp
        rw [Nat.zero_mul, Nat.add_zero] at c0 c1 c2
        obtain ⟨u, hu⟩ : ∃ u, nv kb 0 = u := ⟨_, rfl⟩
        rw [hu] at c0 c1 c2 ht
        have HTop : Hid (topQ m kb = u) := ht
        obtain ⟨n, hn⟩ : ∃ n, kb.length = n := ⟨_, rfl⟩
        rw [hn] at hn0 hcv hp ⊢
        have hp' : (0 : Int) < (n : Int) := by omega
        clear hvat hu ht h0 hn HKl
        go_wp2
        go_ret
        exact ⟨_, rfl, by rw [HTop.out]; exact (own_one w2 w2.heap.size (Nat.le_refl _) u).vsl, below_more HB2.out _⟩
  · have e10 : (yo != 10) = true := by simp [h10]
    have ho : outQ m kb ⟨yc, yo, ya⟩ = [] := if_neg h10
    rw [ho]
    go_enter Tryd.func15, Tryd.ntmps15
    go_wp2
    go_ret
    exact ⟨_, rfl, vsl_nil0 _, below_box _ _⟩
end Go.Proofs.YthgafmhpajikdaaDoor
