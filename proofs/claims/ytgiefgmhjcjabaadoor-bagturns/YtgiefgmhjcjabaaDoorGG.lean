/- The contract of the document's State: what is in a set behind all that was done. Conditions: those of has; at most a thousand deeds. -/
import Derived.Test.YtgiefgmhjcjabaaDoorGH
import Derived.Test.YtgiefgmhjcjabaaDoorGF
namespace Go.Proofs.YtgiefgmhjcjabaaDoor
open Go.RowKit Go.PlainAid Ln Go.Sort
set_option linter.unusedVariables false
set_option linter.unusedSimpArgs false

theorem lsF_len (f : Val → Bool) (past : List Dd) : (lsF f past).length ≤ past.length := by
  refine list_snoc (p := fun past => (lsF f past).length ≤ past.length) (Nat.le_refl _) (fun l d ih => ?_) past
  rw [lsF_snoc, List.length_append]
  unfold lsS
  split
  · simp; omega
  · rw [List.length_append]; simp; omega
theorem lsF_take (f : Val → Bool) (ys : List YD) (k : Nat) (h : k < ys.length) : lsF f ((ys.map (·.1)).take (k + 1)) = lsS f (lsF f ((ys.map (·.1)).take k)) (yd ys k).1 := by
  rw [List.take_add_one, map_yd ys k h]
  exact lsF_snoc _ _ _
theorem inB_nil (x : Val) : inB x [] = false := rfl
theorem inB_take (x : Val) (l : List Val) (r : Nat) (h : r < l.length) : inB x (l.take (r + 1)) = (inB x (l.take r) || decide (nv l r = x)) := by
  unfold inB
  rw [List.take_succ_eq_append_getElem h, List.any_append, nv_eq l r h]
  simp
set_option maxRecDepth 100000 in
set_option maxHeartbeats 16000000 in
theorem state_anyB (m : Int) (v : Value) (ys : List YD) (w : World) (hv : DSl w v ys) (hi : InD w ys) (hk : ∀ i, i < ys.length → OkB (yd ys i).1) (hl : ys.length ≤ 1000) :
    Calls Tryd.prog 11 #[.int .i64 m, v] w fun e w' => ∃ l, e = .returned (.agg (stC m noV l).toArray) ∧ OwnV w' w.heap.size l (keptB (ys.map (·.1))) ∧ Below w.heap.size w w' := by
  have mixed : Tryd.prog.follows .mixedOrders = true := by kernel_rfl
  have HHas : Hid (∀ x w', Below w.heap.size w w' → Calls Tryd.prog 21 #[v, .agg #[.int .i64 x.1, .int .i64 x.2.1, .string x.2.2]] w' fun e w'' => e = .returned (.bool (hasE (ys.map (·.1)) x)) ∧ Below w'.heap.size w' w'') := fun x w' hb => has_any v ys x w' (hv.later hb) (hi.later hb) hk (by omega)
  obtain ⟨a, c, rfl, hc1, hc2, _⟩ := hv.form
  have HV : Hid (DSl w (.slice a ys.length c) ys) := hv
  have HI : Hid (InD w ys) := hi
  have HK : Hid (∀ i, i < ys.length → OkB (yd ys i).1) := hk
  obtain ⟨f, hf⟩ : ∃ f, hasE (ys.map (·.1)) = f := ⟨_, rfl⟩
  have HKept : Hid (srtN (lsF f (ys.map (·.1))) (lsF f (ys.map (·.1))).length = keptB (ys.map (·.1))) := by
    show _ = _
    rw [← hf]
    refine state_kept _ fun d hd => ?_
    obtain ⟨i, hi', rfl⟩ := List.getElem_of_mem hd
    rw [List.length_map] at hi'
    rw [List.getElem_map, ← yd_eq ys i hi']
    exact hk i hi'
  have HX : Hid (∀ k, k < ys.length → lsF f ((ys.map (·.1)).take (k + 1)) = lsS f (lsF f ((ys.map (·.1)).take k)) (yd ys k).1) := fun k h => lsF_take f ys k h
  have HLen : Hid (∀ k, (lsF f ((ys.map (·.1)).take k)).length ≤ 1000) := fun k => by
    have h1 := lsF_len f ((ys.map (·.1)).take k)
    rw [List.length_take, List.length_map] at h1
    omega
  have HE : Hid (lsF f ((ys.map (·.1)).take ys.length) = lsF f (ys.map (·.1))) := by
    show _ = _
    rw [List.take_of_length_le (by simp)]
  rw [hf] at HHas
  clear hv hi hk hf
  generalize keptB (ys.map (·.1)) = kb at *
  generalize hks : (fun k => lsF f ((ys.map (·.1)).take k)) = ks
  have HKS : Hid (∀ k, lsF f ((ys.map (·.1)).take k) = ks k) := fun k => congrFun hks k
  clear hks
  have HKs0 : Hid (ks 0 = []) := by show _ = _; rw [← HKS.out 0]; rfl
  have HKl : Hid (∀ k, (ks k).length ≤ 1000) := fun k => by rw [← HKS.out k]; exact HLen.out k
  have HKx : Hid (∀ k, k < ys.length → ks (k + 1) = lsS f (ks k) (yd ys k).1) := fun k h => by rw [← HKS.out k, ← HKS.out (k + 1)]; exact HX.out k h
  have HKe : Hid (srtN (ks ys.length) (ks ys.length).length = kb) := by show _ = _; rw [← HKS.out ys.length, HE.out]; exact HKept.out
  clear HKept HX HLen HE HKS
  obtain ⟨n, hn⟩ : ∃ n, ys.length = n := ⟨_, rfl⟩
  have HN : Hid (ys.length = n) := hn
  rw [hn] at hc1 HV HK HKx HKe HHas hl ⊢
  clear hn
  have HR : Hid (Blk (w.alloc (.cells (stC 0 noV nilS).toArray 28)) w.heap.size (stC 0 noV nilS) 28) := Blk.new w _ _
  have HBa : Hid (Below w.heap.size w (w.alloc (.cells (stC 0 noV nilS).toArray 28))) := below_box _ _
  go_enter Tryd.func11, Tryd.ntmps11
  go_wp2
  go_loopw [6, 5] (fun i lv wr => ∃ k : Nat, k ≤ n ∧ i = .int .i64 (k : Int) ∧ OwnV wr (w.heap.size + 1) lv (ks k) ∧ Blk wr w.heap.size (stC 0 noV nilS) 28 ∧ Below w.heap.size w wr) (fun i lv wr => n - (intOf i).toNat)
  case atStart => exact ⟨0, by omega, rfl, by rw [HKs0.out]; exact OwnV.nil _ _, HR.out, HBa.out⟩
  case round =>
    obtain ⟨k, hk, rfl, ho, hr, hb⟩ := hrel
    have HO : Hid (OwnV wr (w.heap.size + 1) _ (ks k)) := ho
    have HRr : Hid (Blk wr w.heap.size (stC 0 noV nilS) 28) := hr
    have HB : Hid (Below w.heap.size w wr) := hb
    obtain ⟨al, cl, hlv⟩ := ho.form
    subst hlv
    clear ho hr hb HR HBa
    by_cases hlt : k < n
    · have hlt' : (k : Int) < (n : Int) := by omega
      have hkm : (k : Int) + 1 ≤ 9223372036854775807 := by omega
      obtain ⟨b, o, rfl, hbl, hat⟩ := HV.out.near (by rw [HN.out]; omega)
      obtain ⟨c0, c1, c2, c3, c4⟩ := dd_at (hat k (by rw [HN.out]; omega))
      have hva := HI.out k (by rw [HN.out]; omega)
      have hok := HK.out k hlt
      have hnx := HKx.out k hlt
      have d4 := (HB.out.cell (p := ⟨b, o + k * 5 + 4, none⟩) hbl).trans c4
      clear c0 c1 c2 c3 c4 hat hbl
      obtain ⟨⟨⟨yc, yo, ya⟩, vy⟩, hy⟩ : ∃ y, yd ys k = y := ⟨_, rfl⟩
      rw [hy] at d4 hva hok hnx
      dsimp only at d4 hva
      clear hy
      have hlen : 0 < ya.length := by have : ya.length = 1 := hok.2; omega
      obtain ⟨bv, ov, cv, rfl, hvb, hcv, hvat⟩ := vsl_first hva hlen
      have hv0 := (hvat 0 hlen).later hvb HB.out
      rw [Nat.zero_mul, Nat.add_zero] at hv0
      obtain ⟨g0, g1, g2⟩ := hv0
      clear hvat hva hvb hok
      obtain ⟨u, hu⟩ : ∃ u, nv ya 0 = u := ⟨_, rfl⟩
      have HNX : Hid (ks (k + 1) = if inB u (ks k) = true ∨ f u = false then ks k else ks k ++ [u]) := by show _ = _; rw [hnx]; unfold lsS; dsimp only; rw [hu]
      rw [hu] at g0 g1 g2
      clear hu hnx
      obtain ⟨na, hna⟩ : ∃ na, ya.length = na := ⟨_, rfl⟩
      rw [hna] at hlen hcv d4
      clear hna
      obtain ⟨L, hL⟩ : ∃ L, ks k = L := ⟨_, rfl⟩
      obtain ⟨L', hL'⟩ : ∃ L', ks (k + 1) = L' := ⟨_, rfl⟩
      have HL' : Hid (ks (k + 1) = L') := hL'
      have hl1000 := HKl.out k
      rw [hL] at HO HNX hl1000 ⊢
      rw [hL'] at HNX
      clear hL hL'
      have HQ : Hid (Blk (wr.alloc (.cells (encV u).toArray 25)) wr.heap.size (encV u) 25) := Blk.new wr _ _
      have hbx := below_box wr (.cells (encV u).toArray 25)
      have HO2 : Hid (OwnV (wr.alloc (.cells (encV u).toArray 25)) (w.heap.size + 1) (.slice al L.length cl) L) := HO.out.later hbx
      have HR2 : Hid (Blk (wr.alloc (.cells (encV u).toArray 25)) w.heap.size (stC 0 noV nilS) 28) := HRr.out.later hbx
      have HB2 : Hid (Below w.heap.size w (wr.alloc (.cells (encV u).toArray 25))) := below_next HB.out hbx
      clear hbx HO HRr HB
      go_wp2_with fail
      change Code.wp _ _ _ _ (wr.alloc (.cells (encV u).toArray 25))
      obtain ⟨q, hq⟩ : ∃ q, wr.heap.size = q := ⟨_, rfl⟩
      generalize wr.alloc (.cells (encV u).toArray 25) = w5 at HQ HO2 HR2 HB2 ⊢
      rw [hq] at HQ
      simp only [hq]
      clear hq d4 g0 g1 g2
      obtain ⟨nl, hnl⟩ : ∃ nl, L.length = nl := ⟨_, rfl⟩
      have HNl : Hid (L.length = nl) := hnl
      rw [hnl] at HO2 hl1000 ⊢
      have hnlb : (nl : Int) ≤ 1000 := by omega
      clear hnl
      go_loopw [9, 8] (fun j th wj => ∃ r : Nat, r ≤ nl ∧ j = .int .i64 (r : Int) ∧ th = .bool (inB u (L.take r)) ∧ Below w5.heap.size w5 wj) (fun j th wj => nl - (intOf j).toNat)
      case atStart => exact ⟨0, Nat.zero_le _, rfl, rfl, Below.refl _ _⟩
      case round =>
        obtain ⟨r, hr, rfl, rfl, hbj⟩ := hrel
        have HBj : Hid (Below w5.heap.size w5 wr) := hbj
        clear hbj
        by_cases hrl : r < nl
        · have hrl' : (r : Int) < (nl : Int) := by omega
          obtain ⟨bl, ol, cl', hv1, hblt, _, hlat⟩ := vsl_first HO2.out.vsl (by rw [HNl.out]; omega)
          injection hv1 with hv1 hv2 hv3
          subst hv1 hv3
          clear hv2
          obtain ⟨e0, e1, e2⟩ := (hlat r (by rw [HNl.out]; exact hrl)).later hblt HBj.out
          clear hlat hblt
          have HTk := inB_take u L r (by rw [HNl.out]; exact hrl)
          obtain ⟨am, ham⟩ : ∃ am, inB u (L.take r) = am := ⟨_, rfl⟩
          obtain ⟨am', ham'⟩ : ∃ am', inB u (L.take (r + 1)) = am' := ⟨_, rfl⟩
          have HAr : Hid (inB u (L.take (r + 1)) = am') := ham'
          rw [ham, ham'] at HTk
          rw [ham]
          have HAx : Hid (am' = (am || decide (nv L r = u))) := HTk
          clear ham ham' HTk
          generalize nv L r = e at *
          have hq := fun w => eqV e.1 e.2.1 u.1 u.2.1 e.2.2 u.2.2 w
          have hg := eqgV
          have HEq : Hid (decide (e = u) = eqvB e.1 e.2.1 e.2.2 u.1 u.2.1 u.2.2) := by
            show _ = _
            by_cases h : e = u
            · rw [decide_eq_true h]; exact ((eqvB_iff _ _ _ _ _ _).2 h).symm
            · rw [decide_eq_false h]; exact (Bool.eq_false_iff.2 fun k => h ((eqvB_iff _ _ _ _ _ _).1 k)).symm
          generalize eqvB e.1 e.2.1 e.2.2 u.1 u.2.1 u.2.2 = be at hq HEq
          have e0' := fun d os => cell_regrown e0 d os
          have e1' := fun d os => cell_regrown e1 d os
          have e2' := fun d os => cell_regrown e2 d os
          have u0' := fun d os => cell_regrown (v_cells (HQ.out.later HBj.out)).1 d os
          have u1' := fun d os => cell_regrown (v_cells (HQ.out.later HBj.out)).2.1 d os
          have u2' := fun d os => cell_regrown (v_cells (HQ.out.later HBj.out)).2.2 d os
          clear e0 e1 e2
          cases am
          · go_wp2_with fail
            refine wp_region_quiet_below (by assumption) (by kernel_rfl) ?_
            repeat (go_big_quiet_step (fail))
            refine wpQuiet_nil ?_
            intro _ hw'
            obtain ⟨⟨dq, osq⟩, hw''⟩ := hw'
            subst hw''
            have HBq : Hid (Below w5.heap.size w5 (grow (redrawn wr dq) osq)) := below_next HBj.out (below_regrown wr dq osq)
            clear e0' e1' e2' u0' u1' u2' hq hg
            generalize grow (redrawn wr dq) osq = w16 at *
            go_wp2
            go_roundw
            case rel => exact ⟨r + 1, by omega, by go_num, by rw [HAr.out, HAx.out, HEq.out, Bool.false_or], HBq.out⟩
            case measure => simp [intOf] <;> omega
          · go_wp2_with fail
            refine wp_region_quiet_below (by assumption) (by kernel_rfl) ?_
            repeat (go_big_quiet_step (fail))
            refine wpQuiet_nil ?_
            intro _ hw'
            obtain ⟨⟨dq, osq⟩, hw''⟩ := hw'
            subst hw''
            have HBq : Hid (Below w5.heap.size w5 (grow (redrawn wr dq) osq)) := below_next HBj.out (below_regrown wr dq osq)
            clear e0' e1' e2' u0' u1' u2' hq hg
            generalize grow (redrawn wr dq) osq = w16 at *
            go_wp2
            go_roundw
            case rel => exact ⟨r + 1, by omega, by go_num, by rw [HAr.out, HAx.out, Bool.true_or], HBq.out⟩
            case measure => simp [intOf] <;> omega
        · have er : r = nl := by omega
          subst er
          have hin : inB u (L.take r) = inB u L := by rw [← HNl.out, List.take_length]
          rw [hin]
          have HO6 : Hid (OwnV wr (w.heap.size + 1) (.slice al r cl) L) := HO2.out.later HBj.out
          have HR6 : Hid (Blk wr w.heap.size (stC 0 noV nilS) 28) := HR2.out.later HBj.out
          have HB6 : Hid (Below w.heap.size w wr) := below_next HB2.out HBj.out
          have HQ6 : Hid (Blk wr q (encV u) 25) := HQ.out.later HBj.out
          have HHu := HHas.out u
          obtain ⟨u0, u1, u2⟩ := v_cells HQ6.out
          clear hin HO2 HR2 HB2 HQ HBj
          obtain ⟨ib, hib⟩ : ∃ ib, inB u L = ib := ⟨_, rfl⟩
          rw [hib] at HNX ⊢
          clear hib
          cases ib
          · go_wp2_with fail
            refine (HHu wr HB6.out).mono ?_
            rintro e w7 ⟨rfl, hb7⟩
            have HO7 : Hid (OwnV w7 (w.heap.size + 1) (.slice al r cl) L) := HO6.out.later hb7
            have HR7 : Hid (Blk w7 w.heap.size (stC 0 noV nilS) 28) := HR6.out.later hb7
            have HB7 : Hid (Below w.heap.size w w7) := below_next HB6.out hb7
            obtain ⟨t0, t1, t2⟩ := v_cells (HQ6.out.later hb7)
            clear hb7 HO6 HR6 HB6 HQ6 u0 u1 u2 HHu
            obtain ⟨fu, hfu⟩ : ∃ fu, f u = fu := ⟨_, rfl⟩
            rw [hfu] at HNX ⊢
            clear hfu
            cases fu
            · have HLL : Hid (L' = L) := by show _ = _; rw [HNX.out, if_pos (.inr rfl)]
              go_wp2
              go_roundw
              case rel => exact ⟨k + 1, by omega, by go_num, by rw [HL'.out, HLL.out]; exact HO7.out, HR7.out, HB7.out⟩
              case measure => simp [intOf] <;> omega
            · have HLL : Hid (L' = L ++ [u]) := by show _ = _; rw [HNX.out, if_neg (fun h => by rcases h with h | h <;> cases h)]
              have bx := below_box w7 (.cells (encV u).toArray 25)
              have HO8 : Hid (OwnV (w7.alloc (.cells (encV u).toArray 25)) (w.heap.size + 1) (.slice al r cl) L) := HO7.out.later bx
              have HR8 : Hid (Blk (w7.alloc (.cells (encV u).toArray 25)) w.heap.size (stC 0 noV nilS) 28) := HR7.out.later bx
              have HB8 : Hid (Below w.heap.size w (w7.alloc (.cells (encV u).toArray 25))) := below_next HB7.out bx
              have HU8 : Hid (VSl (w7.alloc (.cells (encV u).toArray 25)) (.slice (some ⟨w7.heap.size, 0, none⟩) 1 1) [u]) := (own_one w7 w7.heap.size (Nat.le_refl _) u).vsl
              have HZw : Hid (w.heap.size + 1 ≤ (w7.alloc (.cells (encV u).toArray 25)).heap.size) := by have := HR8.out.lt; show _ ≤ _; omega
              clear bx HO7 HR7 HB7
              go_wp2_with (at_builtin; refine wpList_appendV rfl (.tmp 45) (.tmp 47) rfl (w.heap.size + 1) (.slice al r cl) L rfl HO8.out (.slice (some ⟨w7.heap.size, 0, none⟩) 1 1) [u] rfl HU8.out (by have := HNl.out; simp; omega) HZw.out ?_; intro v9 w9 o9 g9 hat9; have HO9 : Hid (OwnV w9 (w.heap.size + 1) v9 (L ++ [u])) := o9; have HB9 : Hid (Below w.heap.size w w9) := Below.grown HB8.out g9 HB8.out.size (fun p h => by have := (HO8.out.lt p h).1; omega); have HR9 : Hid (Blk w9 w.heap.size (stC 0 noV nilS) 28) := HR8.out.kept g9 (HR8.out.not_row (by decide) HO8.out); clear o9 g9 hat9)
              go_roundw
              case rel => exact ⟨k + 1, by omega, by go_num, by rw [HL'.out, HLL.out]; exact HO9.out, HR9.out, HB9.out⟩
              case measure => simp [intOf] <;> omega
          · have HLL : Hid (L' = L) := by show _ = _; rw [HNX.out, if_pos (.inl rfl)]
            clear HHu
            go_wp2
            go_roundw
            case rel => exact ⟨k + 1, by omega, by go_num, by rw [HL'.out, HLL.out]; exact HO6.out, HR6.out, HB6.out⟩
            case measure => simp [intOf] <;> omega
    · have e : k = n := by omega
      subst e
      have hke := HKe.out
      have hl1000 := HKl.out k
      have HSo := rsort_any _ (ks k) wr HO.out.vsl hl1000
      rw [hke] at HSo
      clear hke HV HI HK HKl HKx HKe
      go_wp2_with fail
      refine HSo.mono ?_
      rintro e w7 ⟨vs, rfl, hvs, hb7⟩
      have HR7 : Hid (Blk w7 w.heap.size (stC 0 noV nilS) 28) := HRr.out.later hb7
      have HB7 : Hid (Below w.heap.size w w7) := below_next HB.out hb7
      have HV7 : Hid (OwnV w7 wr.heap.size vs kb) := hvs
      obtain ⟨a7, c7, rfl⟩ := hvs.form
      have HBw : Hid (w.heap.size ≤ wr.heap.size) := HB.out.size
      clear hvs hb7 HRr HB HO HSo
      go_wp2_with ((with_reducible refine wp_storeB 28 (.tmp 4) (.tmp 52) w.heap.size 0 (stC m noV (.slice a7 kb.length c7)) (stC 0 noV nilS) 28 ?_ ?_ (stC_one _ _ rfl) ?_ ?_ ?_ HR7.out ?_); (exact infoSt); (exact (show 0 + 6 ≤ 6 by decide)); (exact ⟨rfl, rfl⟩); (exact rfl); (exact rfl); (intro w8 D1 o8); (replace D1 : Blk w8 w.heap.size (stC m noV (.slice a7 kb.length c7)) 28 := D1); (have HR8 : Hid (Blk w8 w.heap.size (stC m noV (.slice a7 kb.length c7)) 28) := D1); (have HB8 : Hid (Below w.heap.size w w8) := below_oth HB7.out o8 (Nat.le_refl _) (Nat.le_refl _) HB7.out.size); (have HV8 : Hid (OwnV w8 w.heap.size (.slice a7 kb.length c7) kb) := (HV7.out.oth o8 HR7.out (by decide)).base HBw.out); (clear D1 o8))
      refine ret_blk rfl w.heap.size (stC m noV (.slice a7 kb.length c7)) 28 _ Tryd.underlying28 rfl infoSt rfl HR8.out rfl ?_
      exact ⟨_, rfl, HV8.out, HB8.out⟩
end Go.Proofs.YtgiefgmhjcjabaaDoor
