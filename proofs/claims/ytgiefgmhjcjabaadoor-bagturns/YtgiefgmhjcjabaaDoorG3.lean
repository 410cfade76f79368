/- Where a value stands in a set: the contracts. Conditions: the set is in order; sizes. -/
import Derived.Test.YtgiefgmhjcjabaaDoorG2
import Derived.Lib.QuietBelow
import Derived.BigQuiet
namespace Go.Proofs.YtgiefgmhjcjabaaDoor
open Go.RowKit Go.PlainAid Ln Go.Sort
set_option linter.unusedVariables false
set_option linter.unusedSimpArgs false

/-- where it stands among them, or would -/
def kB (v : Val) : List Val → Nat
  | [] => 0
  | x :: l => if cv x v < 0 then kB v l + 1 else 0
theorem kB_pos (v : Val) : ∀ l : List Val, Srt l → PosB l v (kB v l)
  | [], _ => ⟨Nat.le_refl _, fun i h => absurd h (Nat.not_lt_zero _), fun i _ h => absurd h (Nat.not_lt_zero _)⟩
  | x :: l, hs => by
    obtain ⟨hx, hl⟩ := List.pairwise_cons.1 hs
    obtain ⟨i0, i1, i2⟩ := kB_pos v l hl
    unfold kB
    by_cases h : cv x v < 0
    · rw [if_pos h]
      refine ⟨by simp only [List.length_cons]; omega, fun i hi => ?_, fun i h1 h2 => ?_⟩
      · cases i with
        | zero => rw [nv_zero]; exact h
        | succ j => rw [nv_cons]; exact i1 j (by omega)
      · cases i with
        | zero => omega
        | succ j => rw [nv_cons]; exact i2 j (by omega) (by simpa using h2)
    · rw [if_neg h]
      refine ⟨Nat.zero_le _, fun i h => absurd h (Nat.not_lt_zero _), fun i h1 h2 => ?_⟩
      cases i with
      | zero => rw [nv_zero]; exact h
      | succ j =>
        rw [nv_cons]
        have hj : j < l.length := by simpa using h2
        have hm : nv l j ∈ l := by rw [nv_eq l j hj]; exact List.getElem_mem _
        exact fun k => h (lt_cv.1 (lt_trans3 (hx _ hm) (lt_cv.2 k)))
theorem kB_lt {v : Val} {l : List Val} (hs : Srt l) {i : Nat} (hi : i < l.length) : cv (nv l i) v < 0 ↔ i < kB v l := by
  obtain ⟨_, h1, h2⟩ := kB_pos v l hs
  constructor
  · intro h
    by_cases c : i < kB v l
    · exact c
    · exact absurd h (h2 i (by omega) hi)
  · exact h1 i
theorem vv_cells {w : World} {q : Nat} {x : Val} {t : TypeId} (h : Blk w q (encV x) t) : w.cell? ⟨q, 0, none⟩ = some (.int .i64 x.1) ∧ w.cell? ⟨q, 1, none⟩ = some (.int .i64 x.2.1) ∧ w.cell? ⟨q, 2, none⟩ = some (.string x.2.2) :=
  ⟨h.cell 0 _ rfl, h.cell 1 _ rfl, h.cell 2 _ rfl⟩
theorem comp_any (x y : Val) (w : World) : Calls Tryd.prog 37 #[.agg #[.int .i64 x.1, .int .i64 x.2.1, .string x.2.2], .agg #[.int .i64 y.1, .int .i64 y.2.1, .string y.2.2]] w fun e w' => e = .returned (.int .i64 (cv x y)) ∧ Below w.heap.size w w' := by
  refine (compare_any _ _ _ _ _ _ w).mono ?_
  rintro e w' ⟨h1, h2⟩
  exact ⟨h1, below_pushed h2⟩
set_option maxRecDepth 100000 in
set_option maxHeartbeats 8000000 in
theorem place_any (vl : Value) (l : List Val) (v : Val) (w : World) (hv : VSl w vl l) (hs : Srt l) (hn : l.length ≤ 1000000) :
    Calls Tryd.prog 36 #[vl, .agg #[.int .i64 v.1, .int .i64 v.2.1, .string v.2.2], .func (.func 37) #[] #[]] w fun e w' => e = .returned (.tuple #[.int .i64 (kB v l : Int), .bool (hitB l v (kB v l))]) ∧ Below w.heap.size w w' := by
  have mixed : Tryd.prog.follows .mixedOrders = true := by kernel_rfl
  have HX : Hid (Blk (w.alloc (.cells #[.int .i64 v.1, .int .i64 v.2.1, .string v.2.2] 25)) w.heap.size (encV v) 25) := Blk.new w (encV v) _
  have HB : Hid (Below w.heap.size w (w.alloc (.cells #[.int .i64 v.1, .int .i64 v.2.1, .string v.2.2] 25))) := below_box w _
  have HV : Hid (VSl w vl l) := hv
  obtain ⟨a, c, rfl, hlc, hc, _⟩ := hv.form
  have HK : Hid (∀ i, i < l.length → (cv (nv l i) v < 0 ↔ i < kB v l)) := fun i hi => kB_lt hs hi
  have hkn : kB v l ≤ l.length := (kB_pos v l hs).1
  have HH : Hid (hitB l v (kB v l) = (decide (kB v l < l.length) && decide (cv (nv l (kB v l)) v = 0))) := rfl
  clear hv hs
  generalize hitB l v (kB v l) = hit at *
  obtain ⟨k, hk⟩ : ∃ k, kB v l = k := ⟨_, rfl⟩
  rw [hk] at HK HH hkn ⊢
  clear hk
  obtain ⟨n, hN⟩ : ∃ n, l.length = n := ⟨_, rfl⟩
  rw [hN] at HK HH hkn hn hlc HV ⊢
  have HN : Hid (l.length = n) := hN
  clear hN
  go_enter Tryd.func36, Tryd.ntmps36
  go_wp2
  go_loopw [8, 9] (fun x y w' => ∃ i j : Nat, i ≤ k ∧ k ≤ j ∧ j ≤ n ∧ x = .int .i64 (i : Int) ∧ y = .int .i64 (j : Int) ∧ Hid (Below w.heap.size w w') ∧ Hid (Blk w' w.heap.size (encV v) 25)) (fun x y w' => (intOf y).toNat - (intOf x).toNat)
  case atStart => exact ⟨0, n, by omega, by omega, by omega, rfl, rfl, HB, HX⟩
  case round =>
    clear HB HX
    obtain ⟨i, j, hi, hj, hjn, rfl, rfl, HB, HX⟩ := hrel
    obtain ⟨x0, x1, x2⟩ := vv_cells HX.out
    by_cases hlt : i < j
    · have hlt' : (i : Int) < (j : Int) := by omega
      obtain ⟨m, hm⟩ : ∃ m : Nat, m = i + (j - i) / 2 := ⟨_, rfl⟩
      have hm1 : m < j := by omega
      have hm2 : i ≤ m := by omega
      have hV2 := HV.out.later HB.out
      obtain ⟨b, o, rfl⟩ := at_block hV2 (by rw [HN.out]; omega)
      obtain ⟨q0, q1, q2⟩ := at_cells hV2 (i := m) (by rw [HN.out]; omega)
      have x0' := fun d os => cell_regrown x0 d os
      have x1' := fun d os => cell_regrown x1 d os
      have x2' := fun d os => cell_regrown x2 d os
      have q0' := fun d os => cell_regrown q0 d os
      have q1' := fun d os => cell_regrown q1 d os
      have q2' := fun d os => cell_regrown q2 d os
      clear x0 x1 x2 q0 q1 q2 hV2
      go_wp2_with fail
      have e : (i : Int) + ((j : Int) - (i : Int)) / 2 = (m : Int) := by omega
      simp only [e]
      clear e hm
      have hmn : m < n := by omega
      have hmn' : (m : Int) < (n : Int) := by omega
      have HS : Hid (cv (nv l m) v < 0 ↔ m < k) := HK.out m hmn
      have hC := fun w => comp_any (nv l m) v w
      generalize nv l m = y at q0' q1' q2' hC HS
      generalize cv y v = s at hC HS
      refine wp_region_quiet_below (by assumption) (by kernel_rfl) ?_
      repeat (go_big_quiet_step (first | (go_at_call 37; with_reducible exact Calls.regrown_of (hC _))))
      refine wpQuiet_nil ?_
      intro _ hw'
      obtain ⟨⟨dq, osq⟩, hw''⟩ := hw'
      subst hw''
      have hbq := below_regrown wr dq osq
      have HB2 : Hid (Below w.heap.size w (grow (redrawn wr dq) osq)) := below_next HB.out hbq
      have HX2 : Hid (Blk (grow (redrawn wr dq) osq) w.heap.size (encV v) 25) := HX.out.later hbq
      clear q0' q1' q2' x0' x1' x2' hC hbq HB HX
      by_cases hs : s < 0
      · have hk : m < k := HS.out.1 hs
        clear HS
        go_wp2
        go_roundw
        case rel => exact ⟨m + 1, j, by omega, by omega, by omega, by go_num, rfl, HB2, HX2⟩
        case measure => simp [intOf]; omega
      · have hk : k ≤ m := by have := HS.out; omega
        clear HS
        go_wp2
        go_roundw
        case rel => exact ⟨i, m, by omega, by omega, by omega, rfl, rfl, HB2, HX2⟩
        case measure => simp [intOf]; omega
    · have hik : i = k := by omega
      have hjk : j = k := by omega
      subst hik hjk
      have hlt' : ¬ (j : Int) < (j : Int) := by omega
      have x0' := fun d os => cell_regrown x0 d os
      have x1' := fun d os => cell_regrown x1 d os
      have x2' := fun d os => cell_regrown x2 d os
      clear x0 x1 x2 hi hj hjn
      by_cases hkn' : j < n
      · have hki : (j : Int) < (n : Int) := by omega
        have hV2 := HV.out.later HB.out
        obtain ⟨b, o, rfl⟩ := at_block hV2 (by rw [HN.out]; omega)
        obtain ⟨q0, q1, q2⟩ := at_cells hV2 (i := j) (by rw [HN.out]; omega)
        have q0' := fun d os => cell_regrown q0 d os
        have q1' := fun d os => cell_regrown q1 d os
        have q2' := fun d os => cell_regrown q2 d os
        clear q0 q1 q2 hV2
        have HS : Hid (hit = decide (cv (nv l j) v = 0)) := by show _ = _; rw [HH.out, decide_eq_true hkn', Bool.true_and]
        have hC := fun w => comp_any (nv l j) v w
        generalize nv l j = y at q0' q1' q2' hC HS
        generalize cv y v = s at hC HS
        go_wp2_with fail
        refine wp_region_quiet_below (by assumption) (by kernel_rfl) ?_
        repeat (go_big_quiet_step (first | (go_at_call 37; with_reducible exact Calls.regrown_of (hC _))))
        refine wpQuiet_nil ?_
        intro _ hw'
        obtain ⟨⟨dq, osq⟩, hw''⟩ := hw'
        subst hw''
        have HB2 : Hid (Below w.heap.size w (grow (redrawn wr dq) osq)) := below_next HB.out (below_regrown wr dq osq)
        clear q0' q1' q2' x0' x1' x2' hC HB HX
        go_wp2
        refine bodyPost_ret (v := .tuple #[.int .i64 (j : Int), .bool (decide (s = 0))]) (by simp [results, Tryd.f36, go_sem]; rfl) rfl ?_
        exact ⟨by rw [HS.out], HB2.out⟩
      · have hki : ¬ (j : Int) < (n : Int) := by omega
        have HS : Hid (hit = false) := by show _ = _; rw [HH.out, decide_eq_false hkn', Bool.false_and]
        go_wp2_with fail
        refine wp_region_quiet_below (by assumption) (by kernel_rfl) ?_
        repeat (go_big_quiet_step (fail))
        refine wpQuiet_nil ?_
        intro _ hw'
        obtain ⟨⟨dq, osq⟩, hw''⟩ := hw'
        subst hw''
        have HB2 : Hid (Below w.heap.size w (grow (redrawn wr dq) osq)) := below_next HB.out (below_regrown wr dq osq)
        clear x0' x1' x2' HB HX
        go_wp2
        refine bodyPost_ret (v := .tuple #[.int .i64 (j : Int), .bool false]) (by simp [results, Tryd.f36, go_sem]) rfl ?_
        exact ⟨by rw [HS.out], HB2.out⟩
/-- what is ahead of it and what is behind it -/
def cutB (a : Option Addr) (n c : Nat) (k : Nat) (hit : Bool) : Value := sliced a (if hit = true then k + 1 else k) n c 3
set_option maxRecDepth 100000 in
set_option maxHeartbeats 4000000 in
theorem part_any (a : Option Addr) (c : Nat) (l : List Val) (v : Val) (w : World) (hv : VSl w (.slice a l.length c) l) (hs : Srt l) (hn : l.length ≤ 1000000) :
    Calls Tryd.prog 24 #[.slice a l.length c, .agg #[.int .i64 v.1, .int .i64 v.2.1, .string v.2.2]] w fun e w' => e = .returned (.tuple #[.slice a (kB v l) c, cutB a l.length c (kB v l) (hitB l v (kB v l)), .bool (hitB l v (kB v l))]) ∧ Below w.heap.size w w' := by
  have mixed : Tryd.prog.follows .mixedOrders = true := by kernel_rfl
  have HP : Hid (∀ w', Below w.heap.size w w' → Calls Tryd.prog 36 #[.slice a l.length c, .agg #[.int .i64 v.1, .int .i64 v.2.1, .string v.2.2], .func (.func 37) #[] #[]] w' fun e w'' => e = .returned (.tuple #[.int .i64 (kB v l : Int), .bool (hitB l v (kB v l))]) ∧ Below w'.heap.size w' w'') :=
    fun w' hb => place_any _ l v w' (hv.later hb) hs hn
  have hkn : kB v l ≤ l.length := (kB_pos v l hs).1
  have hit1 : hitB l v (kB v l) = true → kB v l + 1 ≤ l.length := fun h => by have := (hit_split h).1; omega
  obtain ⟨a', c', he, hlc, hc, _⟩ := hv.form
  injection he with he1 he2 he3
  subst he1 he3
  clear hv hs he2
  generalize hitB l v (kB v l) = hit at *
  generalize kB v l = k at *
  generalize l.length = n at *
  have h0 : ∀ w, (Instr.sliceAt 26 (.slice a n c) none (some (.int .i64 (k : Int))) none).run Tryd.prog w = .ok (.slice a k c) w := fun w => by rw [run_cut_h .i64 a n c k (by omega) w, sliced0]
  cases hit with
  | true =>
    have hk1 := hit1 rfl
    obtain ⟨a4, n4, c4, h4⟩ : ∃ a4 n4 c4, sliced a (k + 1) n c 3 = .slice a4 n4 c4 := ⟨_, _, _, rfl⟩
    have e1 : (k : Int) + 1 = ((k + 1 : Nat) : Int) := by omega
    have h1 : ∀ w, (Instr.sliceAt 26 (.slice a n c) (some (.int .i64 ((k : Int) + 1))) none none).run Tryd.prog w = .ok (.slice a4 n4 c4) w := fun w => by rw [e1, run_cut_l .i64 a n c (k + 1) hk1 w, h4]
    have HE : Hid (cutB a n c k true = .slice a4 n4 c4) := h4
    rw [HE.out]
    clear h4 e1 hit1
    go_enter Tryd.func24, Tryd.ntmps24
    go_wp2_with (go_at_call 36; refine (HP.out _ (below_box _ _)).mono ?_; rintro e w2 ⟨rfl, hb2⟩; have HB : Hid (Below w.heap.size w w2) := below_next (below_box _ _) hb2; clear hb2)
    refine wp_region_quiet_below (by assumption) (by kernel_rfl) ?_
    repeat (go_big_quiet_step (fail))
    refine wpQuiet_nil ?_
    intro _ hw'
    obtain ⟨⟨dq, osq⟩, hw''⟩ := hw'
    subst hw''
    have HB2 : Hid (Below w.heap.size w (grow (redrawn w2 dq) osq)) := below_next HB.out (below_regrown w2 dq osq)
    clear HB
    go_wp2
    refine bodyPost_ret (v := .tuple #[.slice a k c, .slice a4 n4 c4, .bool true]) (by simp [results, Tryd.f24, go_sem]) rfl ?_
    exact ⟨rfl, HB2.out⟩
  | false =>
    obtain ⟨a4, n4, c4, h4⟩ : ∃ a4 n4 c4, sliced a k n c 3 = .slice a4 n4 c4 := ⟨_, _, _, rfl⟩
    have h1 : ∀ w, (Instr.sliceAt 26 (.slice a n c) (some (.int .i64 (k : Int))) none none).run Tryd.prog w = .ok (.slice a4 n4 c4) w := fun w => by rw [run_cut_l .i64 a n c k hkn w, h4]
    have HE : Hid (cutB a n c k false = .slice a4 n4 c4) := h4
    rw [HE.out]
    clear h4 hit1
    go_enter Tryd.func24, Tryd.ntmps24
    go_wp2_with (go_at_call 36; refine (HP.out _ (below_box _ _)).mono ?_; rintro e w2 ⟨rfl, hb2⟩; have HB : Hid (Below w.heap.size w w2) := below_next (below_box _ _) hb2; clear hb2)
    refine wp_region_quiet_below (by assumption) (by kernel_rfl) ?_
    repeat (go_big_quiet_step (fail))
    refine wpQuiet_nil ?_
    intro _ hw'
    obtain ⟨⟨dq, osq⟩, hw''⟩ := hw'
    subst hw''
    have HB2 : Hid (Below w.heap.size w (grow (redrawn w2 dq) osq)) := below_next HB.out (below_regrown w2 dq osq)
    clear HB
    go_wp2
    refine bodyPost_ret (v := .tuple #[.slice a k c, .slice a4 n4 c4, .bool false]) (by simp [results, Tryd.f24, go_sem]) rfl ?_
    exact ⟨rfl, HB2.out⟩
end Go.Proofs.YtgiefgmhjcjabaaDoor
