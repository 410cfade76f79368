/- The document's Same and Copy at states of whatever number and list. No conditions but sizes. -/
import Derived.Test.YtpboleifllcehaaDoorGE
import Derived.Test.YtpboleifllcehaaDoorUI
import Derived.Test.YtpboleifllcehaaDoorJM
namespace Go.Proofs.YtpboleifllcehaaDoor
open Go.RowKit Go.PlainAid Ln Go.Sort
set_option linter.unusedVariables false
set_option linter.unusedSimpArgs false

/-- a state's cells: the model, what is kept, the number, the list -/
def stN (m : Int) (v : Val) (n : Int) (l : Value) : List Value := [.int .i64 m, .int .i64 v.1, .int .i64 v.2.1, .string v.2.2, .int .i64 n, l]
theorem stN_zero (m : Int) (v : Val) (l : Value) : stN m v 0 l = stC m v l := rfl
theorem stN_one (m : Int) (v : Val) (n : Int) {l : Value} (h : l.oneCell' = true) : ∀ u ∈ stN m v n l, u.oneCell' = true := by
  intro u hu
  simp only [stN, List.mem_cons, List.not_mem_nil, or_false] at hu
  rcases hu with rfl | rfl | rfl | rfl | rfl | rfl <;> first | rfl | exact h
theorem stn_cells {w : World} {q : Nat} {m : Int} {v : Val} {n : Int} {l : Value} {t : TypeId} (h : Blk w q (stN m v n l) t) : w.cell? ⟨q, 0, none⟩ = some (.int .i64 m) ∧ w.cell? ⟨q, 1, none⟩ = some (.int .i64 v.1) ∧ w.cell? ⟨q, 2, none⟩ = some (.int .i64 v.2.1) ∧ w.cell? ⟨q, 3, none⟩ = some (.string v.2.2) ∧ w.cell? ⟨q, 4, none⟩ = some (.int .i64 n) ∧ w.cell? ⟨q, 5, none⟩ = some l :=
  ⟨h.cell 0 _ rfl, h.cell 1 _ rfl, h.cell 2 _ rfl, h.cell 3 _ rfl, h.cell 4 _ rfl, h.cell 5 _ rfl⟩
def stH (m : Int) (x : VN) (l : Value) : List Value := stN m x.1 x.2 l
theorem stH_one (m : Int) (x : VN) {l : Value} (h : l.oneCell' = true) : ∀ u ∈ stH m x l, u.oneCell' = true := stN_one m x.1 x.2 h
theorem sth_cells {w : World} {q : Nat} {m : Int} {x : VN} {l : Value} {t : TypeId} (h : Blk w q (stH m x l) t) : w.cell? ⟨q, 0, none⟩ = some (.int .i64 m) ∧ w.cell? ⟨q, 1, none⟩ = some (.int .i64 x.1.1) ∧ w.cell? ⟨q, 2, none⟩ = some (.int .i64 x.1.2.1) ∧ w.cell? ⟨q, 3, none⟩ = some (.string x.1.2.2) ∧ w.cell? ⟨q, 4, none⟩ = some (.int .i64 x.2) ∧ w.cell? ⟨q, 5, none⟩ = some l := stn_cells h
set_option maxHeartbeats 4000000 in
theorem same_stN (m m' : Int) (v v' : Val) (n n' : Int) (l l' : Value) (xs ys : List Val) (w : World) (hl : VSl w l xs) (hl' : VSl w l' ys) (hn : xs.length ≤ 1000000) :
    Calls Tryd.prog 11 #[.agg (stN m v n l).toArray, .agg (stN m' v' n' l').toArray] w fun e w' => e = .returned (.bool (decide (m = m') && (decide (v = v') && (decide (n = n') && sameL xs ys)))) ∧ Below w.heap.size w w' := by
  have HS : Hid (∀ w', Below w.heap.size w w' → Calls Tryd.prog 15 #[l, l'] w' fun e w'' => e = .returned (.bool (sameL xs ys)) ∧ Below w'.heap.size w' w'') :=
    fun w' hb => same_any l l' xs ys w' (hl.later hb) (hl'.later hb) hn
  have hq := fun w => eqV v.1 v.2.1 v'.1 v'.2.1 v.2.2 v'.2.2 w
  have hg := eqgV
  clear hl hl' hn
  generalize sameL xs ys = sb at *
  have T := two_laid w (stN m v n l) (stN m' v' n' l') 28 28
  have HT : Hid _ := T
  obtain ⟨s0, s1, s2, s3, s4, s5⟩ := stn_cells T.1
  obtain ⟨t0, t1, t2, t3, t4, t5⟩ := stn_cells T.2.1
  clear T
  simp only [stN] at s0 s1 s2 s3 s4 s5 t0 t1 t2 t3 t4 t5 ⊢
  by_cases hm : m = m'
  · by_cases hv : v = v'
    · have e : eqvB v.1 v.2.1 v.2.2 v'.1 v'.2.1 v'.2.2 = true := (eqvB_iff _ _ _ _ _ _).2 hv
      have em : (m == m') = true := by simp [hm]
      rw [decide_eq_true hm, decide_eq_true hv, Bool.true_and, Bool.true_and]
      rw [e] at hq
      by_cases hn : n = n'
      · have en : (n == n') = true := by simp [hn]
        rw [decide_eq_true hn, Bool.true_and]
        clear hm hv e hn
        go_enter Tryd.func11, Tryd.ntmps11
        go_wp2_with (go_at_call 15; refine (HS.out _ HT.out.2.2).mono ?_; rintro e w2 ⟨rfl, hb2⟩)
        go_ret
        exact ⟨by cases sb <;> rfl, below_next HT.out.2.2 hb2⟩
      · have en : (n == n') = false := by simp [hn]
        rw [decide_eq_false hn, Bool.false_and]
        clear hm hv e hn
        go_enter Tryd.func11, Tryd.ntmps11
        go_wp2
        go_ret
        exact ⟨rfl, HT.out.2.2⟩
    · have e : eqvB v.1 v.2.1 v.2.2 v'.1 v'.2.1 v'.2.2 = false := Bool.eq_false_iff.2 fun k => hv ((eqvB_iff _ _ _ _ _ _).1 k)
      have em : (m == m') = true := by simp [hm]
      rw [decide_eq_true hm, decide_eq_false hv, Bool.false_and, Bool.true_and]
      rw [e] at hq
      clear hm hv e
      go_enter Tryd.func11, Tryd.ntmps11
      go_wp2
      go_ret
      exact ⟨rfl, HT.out.2.2⟩
  · have em : (m == m') = false := by simp [hm]
    rw [decide_eq_false hm, Bool.false_and]
    clear hm
    go_enter Tryd.func11, Tryd.ntmps11
    go_wp2
    go_ret
    exact ⟨rfl, HT.out.2.2⟩
theorem same_yesN (m : Int) (v : Val) (sn : Int) (l l' : Value) (xs : List Val) (w : World) (hl : VSl w l xs) (hl' : VSl w l' xs) (hn : xs.length ≤ 1000000) :
    Calls Tryd.prog 11 #[.agg (stN m v sn l).toArray, .agg (stN m v sn l').toArray] w fun e w' => e = .returned (.bool true) ∧ Below w.heap.size w w' := by
  have := same_stN m m v v sn sn l l' xs xs w hl hl' hn
  rw [decide_eq_true rfl, decide_eq_true rfl, decide_eq_true rfl, sameL_self] at this
  exact this
theorem same_yesH (m : Int) (x : VN) (w : World) : Calls Tryd.prog 11 #[.agg (stH m x nilS).toArray, .agg (stH m x nilS).toArray] w fun e w' => e = .returned (.bool true) ∧ Below w.heap.size w w' :=
  same_yesN m x.1 x.2 nilS nilS [] w (vsl_nil0 w) (vsl_nil0 w) (Nat.zero_le _)
set_option maxRecDepth 100000 in
set_option maxHeartbeats 4000000 in
theorem copy_anyN (m : Int) (v : Val) (sn : Int) (l : Value) (xs : List Val) (w : World) (hl : VSl w l xs) (hn : xs.length ≤ 1000000) :
    Calls Tryd.prog 17 #[.agg (stN m v sn l).toArray] w fun e w' => ∃ l', e = .returned (.agg (stN m v sn l').toArray) ∧ OwnV w' w.heap.size l' xs ∧ Below w.heap.size w w' := by
  have HL : Hid (VSl w l xs) := hl
  have HNn : Hid (xs.length ≤ 1000000) := hn
  have T := two_laid w (stN m v sn l) (stC 0 noV nilS) 28 28
  have T1 : Hid (Blk ((w.alloc (.cells (stN m v sn l).toArray 28)).alloc (.cells (stC 0 noV nilS).toArray 28)) w.heap.size (stN m v sn l) 28) := T.1
  have T2 : Hid (Blk ((w.alloc (.cells (stN m v sn l).toArray 28)).alloc (.cells (stC 0 noV nilS).toArray 28)) (w.heap.size + 1) (stC 0 noV nilS) 28) := T.2.1
  have T3 : Hid (Below w.heap.size w ((w.alloc (.cells (stN m v sn l).toArray 28)).alloc (.cells (stC 0 noV nilS).toArray 28))) := T.2.2
  obtain ⟨al, cl, rfl, _, _, _⟩ := hl.form
  obtain ⟨s0, s1, s2, s3, s4, s5⟩ := stn_cells T.1
  clear T hl hn
  have hE0 := own_emptyV ((w.alloc (.cells (stN m v sn (.slice al xs.length cl)).toArray 28)).alloc (.cells (stC 0 noV nilS).toArray 28)) w.heap.size T3.out.size
  have e2 : ((w.alloc (.cells (stN m v sn (.slice al xs.length cl)).toArray 28)).alloc (.cells (stC 0 noV nilS).toArray 28)).heap.size = w.heap.size + 1 + 1 := by simp
  rw [e2] at hE0
  clear e2
  have bx := below_box ((w.alloc (.cells (stN m v sn (.slice al xs.length cl)).toArray 28)).alloc (.cells (stC 0 noV nilS).toArray 28)) (.cells #[] 25)
  have HE : Hid (OwnV _ w.heap.size (.slice (some ⟨w.heap.size + 1 + 1, 0, none⟩) 0 0) []) := hE0
  have HB3 : Hid (Below w.heap.size w _) := below_next T3.out bx
  have HS3 : Hid (Blk _ w.heap.size (stN m v sn (.slice al xs.length cl)) 28) := T1.out.later bx
  have HR3 : Hid (Blk _ (w.heap.size + 1) (stC 0 noV nilS) 28) := T2.out.later bx
  have HL3 : Hid (VSl _ (.slice al xs.length cl) xs) := HL.out.later (below_next T3.out bx)
  clear hE0 bx T1 T2 T3 HL
  obtain ⟨n, hn⟩ : ∃ n, xs.length = n := ⟨_, rfl⟩
  have HN : Hid (xs.length = n) := hn
  rw [hn] at HE HB3 HS3 HR3 HL3 s0 s1 s2 s3 s4 s5 ⊢
  clear hn
  simp only [stN] at s0 s1 s2 s3 s4 s5 ⊢
  go_enter Tryd.func17, Tryd.ntmps17
  go_wp2_with (first
    | (at_builtin; refine wpList_appendV rfl (.tmp 3) (.tmp 5) rfl w.heap.size (.slice (some ⟨w.heap.size + 1 + 1, 0, none⟩) 0 0) [] rfl HE.out (.slice al n cl) xs rfl HL3.out (by have := HNn.out; simpa using this) HB3.out.size ?_; intro v9 w9 o9 g9 hat9; have HO9 : Hid (OwnV w9 w.heap.size v9 xs) := o9; obtain ⟨a9, c9, hv9⟩ := HO9.out.form; rw [HN.out] at hv9; subst hv9; have HB9 : Hid (Below w.heap.size w w9) := below_own HE.out g9 HB3.out HB3.out.size; have HS9 : Hid (Blk w9 w.heap.size (stN m v sn (.slice al n cl)) 28) := HS3.out.kept g9 (by simp [Value.ownBlock]; try omega); have HR9 : Hid (Blk w9 (w.heap.size + 1) (stC 0 noV nilS) 28) := HR3.out.kept g9 (by simp [Value.ownBlock]; try omega); clear o9 g9 hat9)
    | ((with_reducible refine wp_storeC 26 (.tmp 7) (.tmp 6) w.heap.size 5 (.slice a9 n c9) (stN m v sn (.slice al n cl)) 28 ?_ ?_ rfl rfl ?_ ?_ ?_ HS9.out ?_); (exact infoLV); (exact (show 5 < 6 by decide)); (exact ⟨rfl, rfl⟩); (exact rfl); (exact rfl); (intro w10 D1 o10); (have HS10 : Hid (Blk w10 w.heap.size (stN m v sn (.slice a9 n c9)) 28) := D1); (have HR10 : Hid (Blk w10 (w.heap.size + 1) (stC 0 noV nilS) 28) := HR9.out.oth o10 (by omega) (by omega)); (have HO10 : Hid (OwnV w10 w.heap.size (.slice a9 n c9) xs) := HO9.out.oth o10 HS9.out (by decide)); (have HB10 : Hid (Below w.heap.size w w10) := below_oth HB9.out o10 (Nat.le_refl _) (Nat.le_refl _) HB9.out.size); (obtain ⟨t0, t1, t2, t3, t4, t5⟩ := stn_cells HS10.out); (clear D1 o10))
    | ((with_reducible refine wp_storeB 28 (.tmp 2) (.tmp 8) (w.heap.size + 1) 0 (stN m v sn (.slice a9 n c9)) (stC 0 noV nilS) 28 ?_ ?_ (stN_one _ _ _ rfl) ?_ ?_ ?_ HR10.out ?_); (exact infoSt); (exact (show 0 + 6 ≤ 6 by decide)); (exact ⟨rfl, rfl⟩); (exact rfl); (exact rfl); (intro w11 D1 o11); (replace D1 : Blk w11 (w.heap.size + 1) (stN m v sn (.slice a9 n c9)) 28 := D1); (have HR11 : Hid (Blk w11 (w.heap.size + 1) (stN m v sn (.slice a9 n c9)) 28) := D1); (have HO11 : Hid (OwnV w11 w.heap.size (.slice a9 n c9) xs) := HO10.out.oth o11 HR10.out (by decide)); (have HB11 : Hid (Below w.heap.size w w11) := below_oth HB10.out o11 (Nat.le_succ _) (Nat.le_succ _) HB10.out.size); (clear D1 o11)))
  refine ret_blk rfl (w.heap.size + 1) (stN m v sn (.slice a9 n c9)) 28 _ Tryd.underlying28 rfl infoSt rfl HR11.out rfl ?_
  exact ⟨_, rfl, HO11.out, HB11.out⟩
end Go.Proofs.YtpboleifllcehaaDoor
