/- Contracts of the statements' own, great, num; of the document's Yes, Same, Copy. No conditions but sizes. -/
import Derived.Test.YtpboleifllcehaaDoorUE
namespace Go.Proofs.YtpboleifllcehaaDoor
open Go.RowKit Go.PlainAid Ln Go.Sort
set_option linter.unusedVariables false
set_option linter.unusedSimpArgs false

theorem yes_any (b : Bool) (w : World) : Calls Tryd.prog 26 #[.bool b] w fun e w' => e = .returned (.agg (encV (yesV b)).toArray) ∧ Below w.heap.size w w' := by
  cases b
  · go_enter Tryd.func26, Tryd.ntmps26
    go_wp2
    refine bodyPost_ret (v := .agg (encV (yesV false)).toArray) (by simp [results, Tryd.f26, go_sem]; rfl) rfl ?_
    exact ⟨rfl, by first | exact below_more (Below.refl _ _) _ | skip⟩
  · go_enter Tryd.func26, Tryd.ntmps26
    go_wp2
    refine bodyPost_ret (v := .agg (encV (yesV true)).toArray) (by simp [results, Tryd.f26, go_sem]; rfl) rfl ?_
    exact ⟨rfl, by first | exact below_more (Below.refl _ _) _ | skip⟩
theorem two_laid (w : World) (a b : List Value) (s t : TypeId) :
    Blk ((w.alloc (.cells a.toArray s)).alloc (.cells b.toArray t)) w.heap.size a s ∧ Blk ((w.alloc (.cells a.toArray s)).alloc (.cells b.toArray t)) (w.heap.size + 1) b t ∧ Below w.heap.size w ((w.alloc (.cells a.toArray s)).alloc (.cells b.toArray t)) := by
  refine ⟨(Blk.new w a s).alloc _, ?_, below_more (below_more (Below.refl _ _) _) _⟩
  have := Blk.new (w.alloc (.cells a.toArray s)) b t
  simpa using this
set_option maxHeartbeats 4000000 in
theorem same_st (m m' : Int) (v v' : Val) (l l' : Value) (w : World) (hl : VSl w l []) (hl' : VSl w l' []) :
    Calls Tryd.prog 11 #[.agg (stC m v l).toArray, .agg (stC m' v' l').toArray] w fun e w' => e = .returned (.bool (decide (m = m') && decide (v = v'))) ∧ Below w.heap.size w w' := by
  have HS : Hid (∀ w', Below w.heap.size w w' → Calls Tryd.prog 15 #[l, l'] w' fun e w'' => e = .returned (.bool true) ∧ Below w'.heap.size w' w'') :=
    fun w' hb => same_any l l' [] [] w' (hl.later hb) (hl'.later hb) (Nat.zero_le _)
  have hq := fun w => eqV v.1 v.2.1 v'.1 v'.2.1 v.2.2 v'.2.2 w
  have hg := eqgV
  clear hl hl'
  have T := two_laid w (stC m v l) (stC m' v' l') 28 28
  have HT : Hid _ := T
  obtain ⟨s0, s1, s2, s3, s4, s5⟩ := st_cells T.1
  obtain ⟨t0, t1, t2, t3, t4, t5⟩ := st_cells T.2.1
  clear T
  simp only [stC] at s0 s1 s2 s3 s4 s5 t0 t1 t2 t3 t4 t5 ⊢
  by_cases hm : m = m'
  · by_cases hv : v = v'
    · have e : eqvB v.1 v.2.1 v.2.2 v'.1 v'.2.1 v'.2.2 = true := (eqvB_iff _ _ _ _ _ _).2 hv
      have em : (m == m') = true := by simp [hm]
      rw [decide_eq_true hm, decide_eq_true hv]
      rw [e] at hq
      clear hm hv e
      go_enter Tryd.func11, Tryd.ntmps11
      go_wp2_with (go_at_call 15; refine (HS.out _ HT.out.2.2).mono ?_; rintro e w2 ⟨rfl, hb2⟩)
      go_ret
      exact ⟨rfl, below_next HT.out.2.2 hb2⟩
    · have e : eqvB v.1 v.2.1 v.2.2 v'.1 v'.2.1 v'.2.2 = false := Bool.eq_false_iff.2 fun k => hv ((eqvB_iff _ _ _ _ _ _).1 k)
      have em : (m == m') = true := by simp [hm]
      rw [decide_eq_true hm, decide_eq_false hv]
      rw [e] at hq
      clear hm hv e
      go_enter Tryd.func11, Tryd.ntmps11
      go_wp2
      go_ret
      exact ⟨rfl, HT.out.2.2⟩
  · have em : (m == m') = false := by simp [hm]
    rw [decide_eq_false hm]
    clear hm
    go_enter Tryd.func11, Tryd.ntmps11
    go_wp2
    go_ret
    exact ⟨rfl, HT.out.2.2⟩
/-- an empty row in new memory -/
theorem own_emptyV (w : World) (B : Nat) (hB : B ≤ w.heap.size) : OwnV (w.alloc (.cells #[] 25)) B (.slice (some ⟨w.heap.size, 0, none⟩) 0 0) [] :=
  ⟨rfl, .inr ⟨w.heap.size, 0, #[], rfl, hB, World.alloc_heap_new w _, Nat.le_refl _, Nat.zero_le _, rfl, rfl⟩⟩
set_option maxHeartbeats 4000000 in
theorem copy_any (m : Int) (v : Val) (w : World) :
    Calls Tryd.prog 17 #[.agg (stC m v nilS).toArray] w fun e w' => ∃ l, e = .returned (.agg (stC m v l).toArray) ∧ VSl w' l [] ∧ Below w.heap.size w w' := by
  have T := two_laid w (stC m v nilS) (stC 0 noV nilS) 28 28
  have HT : Hid _ := T
  obtain ⟨s0, s1, s2, s3, s4, s5⟩ := st_cells T.1
  clear T
  simp only [stC] at s0 s1 s2 s3 s4 s5 ⊢
  go_enter Tryd.func17, Tryd.ntmps17
  go_wp2
  refine bodyPost_ret (v := .agg (stC m v (.slice (some ⟨w.heap.size + 1 + 1, 0, none⟩) 0 0)).toArray) (by simp [results, Tryd.f17, go_sem, stC]) rfl ?_
  exact ⟨_, rfl, ⟨_, 0, rfl, Nat.le_refl _, by omega, .inl ⟨rfl, fun e => by cases e⟩⟩, below_box3 _ _ _ _⟩
/-- a deed is few, its texts short -/
def FewD (d : Dd) : Prop := d.a.length ≤ 10 ∧ d.c.2.2.size ≤ 100 ∧ ∀ j, j < d.a.length → (nv d.a j).2.2.size ≤ 100
def FewDs (ys : List YD) : Prop := ys.length ≤ 40 ∧ ∀ i, i < ys.length → FewD (yd ys i).1
theorem few_sz {d : Dd} (h : FewD d) : SzV d.a ∧ d.c.2.2.size ≤ 4611686018427387904 := ⟨⟨fun i hi => by have := h.2.2 i hi; omega, by have := h.1; omega⟩, by have := h.2.1; omega⟩
/-- the cells of a deed within a row -/
theorem dd_at {w : World} {b k : Nat} {y : YD} (h : w.rangeAt b k (encD y)) : w.cell? ⟨b, k, none⟩ = some (.int .i64 y.1.c.1) ∧ w.cell? ⟨b, k + 1, none⟩ = some (.int .i64 y.1.c.2.1) ∧ w.cell? ⟨b, k + 2, none⟩ = some (.string y.1.c.2.2) ∧ w.cell? ⟨b, k + 3, none⟩ = some (.int .i64 y.1.o) ∧ w.cell? ⟨b, k + 4, none⟩ = some y.2 :=
  ⟨h 0 _ rfl, h 1 _ rfl, h 2 _ rfl, h 3 _ rfl, h 4 _ rfl⟩
theorem DSl.near {w : World} {a : Option Addr} {n c : Nat} {ys : List YD} (h : DSl w (.slice a n c) ys) (hp : 0 < ys.length) : ∃ b o, a = some ⟨b, o, none⟩ ∧ b < w.heap.size ∧ ∀ i, i < ys.length → w.rangeAt b (o + i * 5) (encD (yd ys i)) := by
  obtain ⟨b, o, rfl, hb⟩ := h.block hp
  exact ⟨b, o, rfl, hb, fun i hi => h.at hi⟩
def RGreatD (w : World) (ys : List YD) (e : Ending) (w' : World) : Prop := ∃ b, e = .returned (.bool b) ∧ (b = false → FewDs ys) ∧ Below w.heap.size w w'
set_option maxHeartbeats 8000000 in
theorem lgreat_any (v : Value) (ys : List YD) (w : World) (hv : DSl w v ys) (hi : InD w ys) : Calls Tryd.prog 10 #[v] w fun e w' => RGreatD w ys e w' := by
  obtain ⟨a, c, rfl, hc1, hc2, _⟩ := hv.form
  have HV : Hid (DSl w (.slice a ys.length c) ys) := hv
  have HI : Hid (InD w ys) := hi
  clear hv hi
  obtain ⟨n, hn⟩ : ∃ n, ys.length = n := ⟨_, rfl⟩
  have HN : Hid (ys.length = n) := hn
  rw [hn] at hc1 HV ⊢
  clear hn
  go_enter Tryd.func10, Tryd.ntmps10
  go_wp2
  go_loopw [9] (fun i w' => ∃ k : Nat, k ≤ n ∧ i = .int .i64 (k : Int) ∧ Below w.heap.size w w' ∧ ∀ i, i < k → FewD (yd ys i).1) (fun i w' => n - (intOf i).toNat)
  case atStart => exact ⟨0, by omega, rfl, Below.refl _ _, fun i h => by omega⟩
  case round =>
    obtain ⟨k, hk, rfl, hb, hall⟩ := hrel
    have HA : Hid (∀ i, i < k → FewD (yd ys i).1) := hall
    clear hall
    by_cases hlt : k < n
    · have hlt' : (k : Int) < (n : Int) := by omega
      obtain ⟨b, o, rfl, hbl, hat⟩ := HV.out.near (by rw [HN.out]; omega)
      have hd := dd_at (hat k (by rw [HN.out]; exact hlt))
      have hva := HI.out k (by rw [HN.out]; exact hlt)
      obtain ⟨c0, c1, c2, c3, c4⟩ := hd
      have d0 := (hb.cell (p := ⟨b, o + k * 5, none⟩) hbl).trans c0
      have d1 := (hb.cell (p := ⟨b, o + k * 5 + 1, none⟩) hbl).trans c1
      have d2 := (hb.cell (p := ⟨b, o + k * 5 + 2, none⟩) hbl).trans c2
      have d3 := (hb.cell (p := ⟨b, o + k * 5 + 3, none⟩) hbl).trans c3
      have d4 := (hb.cell (p := ⟨b, o + k * 5 + 4, none⟩) hbl).trans c4
      clear c0 c1 c2 c3 c4 hat
      obtain ⟨y, hy⟩ : ∃ y, yd ys k = y := ⟨_, rfl⟩
      have HY : Hid (yd ys k = y) := hy
      rw [hy] at d0 d1 d2 d3 d4 hva
      clear hy
      obtain ⟨⟨⟨y1, y2, y3⟩, yo, ya⟩, vy⟩ := y
      dsimp only at d0 d1 d2 d3 d4 hva
      obtain ⟨av, cv, rfl, hcv1, hcv2, _⟩ := hva.form
      have HVA : Hid (VSl w (.slice av ya.length cv) ya) := hva
      have HB : Hid (Below w.heap.size w wr) := hb
      have HBL : Hid (b < w.heap.size) := hbl
      clear hva hb hbl
      by_cases hs1 : 10 < ya.length
      · have hs1' : (10 : Int) < (ya.length : Int) := by omega
        go_wp2
        go_ret
        exact ⟨true, rfl, (fun h => Bool.noConfusion h), below_more HB.out _⟩
      have hs1' : ¬ (10 : Int) < (ya.length : Int) := by omega
      by_cases hs2 : 100 < y3.size
      · have hs2' : (100 : Int) < (y3.size : Int) := by omega
        go_wp2
        go_ret
        exact ⟨true, rfl, (fun h => Bool.noConfusion h), below_more HB.out _⟩
      have hs2' : ¬ (100 : Int) < (y3.size : Int) := by omega
      go_wp2
      go_loopw [27] (fun j wj => ∃ q : Nat, q ≤ ya.length ∧ j = .int .i64 (q : Int) ∧ Below w.heap.size w wj ∧ ∀ i, i < q → (nv ya i).2.2.size ≤ 100) (fun j wj => ya.length - (intOf j).toNat)
      case atStart => exact ⟨0, by omega, rfl, below_more HB.out _, fun i h => by omega⟩
      case round =>
        obtain ⟨q, hq, rfl, hbj, hall⟩ := hrel
        have HAL : Hid (∀ i, i < q → (nv ya i).2.2.size ≤ 100) := hall
        clear hall d0 d1 d2 d3 d4
        by_cases hql : q < ya.length
        · have hql' : (q : Int) < (ya.length : Int) := by omega
          obtain ⟨bv, ov, _, hv1, hvb, _, hvat⟩ := vsl_first HVA.out (by omega)
          injection hv1 with hv1 _ hv3
          subst hv1 hv3
          obtain ⟨e0, e1, e2⟩ := (hvat q hql).later hvb hbj
          clear hvat
          by_cases hs3 : 100 < (nv ya q).2.2.size
          · have hs3' : (100 : Int) < ((nv ya q).2.2.size : Int) := by omega
            go_wp2
            go_ret
            exact ⟨true, rfl, (fun h => Bool.noConfusion h), below_more hbj _⟩
          · have hs3' : ¬ (100 : Int) < ((nv ya q).2.2.size : Int) := by omega
            go_wp2
            go_roundw
            case rel =>
              refine ⟨q + 1, by omega, by go_num, below_more hbj _, fun i hi => ?_⟩
              by_cases e : i = q
              · subst e; omega
              · exact HAL.out i (by omega)
            case measure => simp [intOf]; omega
        · have e : q = ya.length := by omega
          subst e
          go_wp2
          go_roundw
          case rel =>
            refine ⟨k + 1, by omega, by go_num, hbj, fun i hi => ?_⟩
            by_cases e : i = k
            · subst e
              rw [HY.out]
              exact ⟨(by omega : ya.length ≤ 10), (by omega : y3.size ≤ 100), HAL.out⟩
            · exact HA.out i (by omega)
          case measure => simp [intOf]; omega
    · have e : k = n := by omega
      subst e
      by_cases hs : 40 < k
      · have hs' : (40 : Int) < (k : Int) := by omega
        go_wp2
        go_ret
        exact ⟨_, rfl, (fun h => Bool.noConfusion h), hb⟩
      · have hs' : ¬ (40 : Int) < (k : Int) := by omega
        go_wp2
        go_ret
        exact ⟨_, rfl, fun _ => ⟨by rw [HN.out]; omega, by rw [HN.out]; exact HA.out⟩, hb⟩
end Go.Proofs.YtpboleifllcehaaDoor
