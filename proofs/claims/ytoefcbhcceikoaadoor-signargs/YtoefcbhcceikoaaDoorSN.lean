/- The example holds; the walks of SignTakes and SignArgs. Conditions: the table lies in memory. -/
import Derived.Test.YtoefcbhcceikoaaDoorSM
import Derived.Test.YtoefcbhcceikoaaDoorSH
import Derived.Test.YtoefcbhcceikoaaDoorSD
namespace Go.Proofs.YtoefcbhcceikoaaDoor
open Go.RowKit Go.PlainAid Go.Sort
set_option linter.unusedVariables false
set_option linter.unusedSimpArgs false

theorem vsl_none (w : World) : VSl w (.slice none 0 0) [] := ⟨none, 0, rfl, by simp, by simp, .inl ⟨rfl, fun _ => rfl⟩⟩
theorem vsl_one (w : World) : VSl (w.alloc (.cells #[.int .i64 0, .int .i64 0, .string ⟨#[]⟩] 29)) (.slice (some ⟨w.heap.size, 0, none⟩) 1 1) [(0, 0, ⟨#[]⟩)] := by
  refine ⟨_, 1, rfl, by simp, by simp, .inr ⟨w.heap.size, 0, rfl, by simp, fun i hi => ?_⟩⟩
  have e : i = 0 := by simpa using hi
  subst e
  exact ⟨by simp [nv], by simp [nv], by simp [nv]⟩
theorem one_small : ∀ i, i < [((0 : Int), (0 : Int), (⟨#[]⟩ : ByteArray))].length → (nv [((0 : Int), (0 : Int), (⟨#[]⟩ : ByteArray))] i).2.2.size ≤ 4611686018427387904 := by
  intro i h
  have e : i = 0 := by simpa using h
  subst e
  exact Nat.zero_le _
theorem isl_22 (w : World) : ISl (w.alloc (.cells #[.int .i64 2, .int .i64 2] 3)) (.slice (some ⟨w.heap.size, 0, none⟩) 2 2) [2, 2] := isl_2 (by simp) (by simp) (by simp)
theorem isl_02 (w : World) : ISl (w.alloc (.cells #[.int .i64 2] 3)) (.slice (some ⟨w.heap.size, 0, none⟩) 1 1) [2] := isl_1 (by simp) (by simp)

set_option maxHeartbeats 4000000 in
theorem wakes_any (w : World) (ht : Tb w) : Calls Tryd.prog 8 #[] w fun e w' => e = .returned (.bool true) ∧ Below w.heap.size w w' := by
  have i1 : fi 2 3 = true := by kernel_rfl
  have i2 : (fr 2 3).inn = [2, 2] := by kernel_rfl
  have j1 : fi 1 2 = true := by kernel_rfl
  have j2 : outsOK (fr 1 2) [] = false := by kernel_rfl
  have j3 : outsOK (fr 1 2) [(0, 0, ⟨#[]⟩)] = true := by kernel_rfl
  have j4 : outsL (fr 1 2) [(0, 0, ⟨#[]⟩)] = [2] := by kernel_rfl
  have HT : Hid (Tb w) := ht
  clear ht
  go_enter Tryd.func8, Tryd.ntmps8
  go_wp2_with fail
  refine (args_any 2 3 _ HT.out).mono ?_
  rintro e w1 ⟨v1, rfl, s1, hb1⟩
  rw [i1]
  rw [i2] at s1
  obtain ⟨a1, c1, rfl⟩ := s1.form
  go_wp2_with fail
  refine (outs_any 1 2 _ [] _ (HT.out.later hb1) (vsl_none _) (fun i h => by cases h) (by simp)).mono ?_
  rintro e w2 ⟨v2, rfl, s2, hb2⟩
  rw [j1, j2, Bool.true_and]
  obtain ⟨a2, c2, rfl⟩ := s2.form
  have hb12 := below_next hb1 hb2
  replace s1 := s1.later hb2
  clear s2 hb1 hb2
  go_wp2_with fail
  have hb3 := below_box w2 (.cells #[.int .i64 0, .int .i64 0, .string ⟨#[]⟩] 29)
  refine (outs_any 1 2 _ _ _ (HT.out.later (below_next hb12 hb3)) (vsl_one w2) one_small (by simp)).mono ?_
  rintro e w4 ⟨v4, rfl, s4, hb4⟩
  rw [j1, j3, Bool.true_and]
  rw [j1, if_pos rfl, j4] at s4
  obtain ⟨a4, c4, rfl⟩ := s4.form
  have hb14 := below_next hb12 (below_next hb3 hb4)
  replace s1 := s1.later (below_next hb3 hb4)
  clear hb12 hb3 hb4 j1 j2 j3 j4 i1 i2
  go_wp2_with fail
  have hb5 := below_box w4 (.cells #[.int .i64 2, .int .i64 2] 3)
  refine (same_any _ _ _ _ _ (s1.later hb5) (isl_22 w4)).mono ?_
  rintro e w6 ⟨rfl, hb6⟩
  rw [sameB_self]
  have hb16 := below_next hb14 (below_next hb5 hb6)
  replace s4 := s4.later (below_next hb5 hb6)
  clear hb5 hb6 hb14 s1
  go_wp2_with fail
  have hb7 := below_box w6 (.cells #[.int .i64 2] 3)
  refine (same_any _ _ _ _ _ (s4.later hb7) (isl_02 w6)).mono ?_
  rintro e w8 ⟨rfl, hb8⟩
  rw [sameB_self]
  go_wp2
  go_ret
  exact ⟨rfl, below_next hb16 (below_next hb7 hb8)⟩

set_option maxHeartbeats 4000000 in
theorem law_takes (d k n : Int) (s : ByteArray) (w : World) (ht : Tb w) :
    Calls Tryd.prog 4 #[.int .i64 d, .agg #[.int .i64 k, .int .i64 n, .string s]] w fun e w' => e = .returned (.bool true) ∧ Below w.heap.size w w' := by
  have HT : Hid (Tb w) := ht
  have B0 := VBox.new w k n s 29
  have hb0 := below_box w (.cells #[.int .i64 k, .int .i64 n, .string s] 29)
  clear ht
  have mixed : Tryd.prog.follows .mixedOrders = true := by kernel_rfl
  have hW := fun d os => wakes_any _ ((HT.out.later hb0).later (below_regrown _ d os))
  generalize hw0 : w.alloc (.cells #[.int .i64 k, .int .i64 n, .string s] 29) = w0 at *
  obtain ⟨_, c0, c1, c2, _⟩ := B0
  have c0' := fun d os => cell_regrown c0 d os
  have c1' := fun d os => cell_regrown c1 d os
  have c2' := fun d os => cell_regrown c2 d os
  clear c0 c1 c2
  by_cases hs : 200 < s.size
  · have hs' : (200 : Int) < (s.size : Int) := by omega
    go_enter Tryd.func4, Tryd.ntmps4
    go_wp2_with fail
    refine wp_region_quiet_below (by assumption) (by kernel_rfl) ?_
    repeat (go_big_quiet_step (first | (go_at_call 8; with_reducible exact Calls.regrown_of (hW _ _))))
    refine wpQuiet_nil ?_
    intro _ hw'
    obtain ⟨⟨dq, osq⟩, hw''⟩ := hw'
    subst hw''
    go_wp2
    go_ret
    exact ⟨rfl, below_next hb0 (below_regrown _ _ _)⟩
  · have hs' : decide ((200 : Int) < (s.size : Int)) = false := decide_eq_false (by omega)
    have h1 := fun w => takes_any d k n s w (by omega)
    have h2 := fun w => rtakes_any d k n s w (by omega)
    generalize takesB d k n s = t at *
    go_enter Tryd.func4, Tryd.ntmps4
    go_wp2_with fail
    refine wp_region_quiet_below (by assumption) (by kernel_rfl) ?_
    repeat (go_big_quiet_step (first | (go_at_call 8; with_reducible exact Calls.regrown_of (hW _ _)) | (go_at_call 17; with_reducible exact Calls.regrown_of (h1 _)) | (go_at_call 18; with_reducible exact Calls.regrown_of (h2 _))))
    refine wpQuiet_nil ?_
    intro _ hw'
    obtain ⟨⟨dq, osq⟩, hw''⟩ := hw'
    subst hw''
    go_wp2
    go_ret
    exact ⟨rfl, below_next hb0 (below_regrown _ _ _)⟩

set_option maxHeartbeats 4000000 in
theorem law_args (m o : Int) (w : World) (ht : Tb w) :
    Calls Tryd.prog 5 #[.int .i64 m, .int .i64 o] w fun e w' => e = .returned (.bool true) ∧ Below w.heap.size w w' := by
  have HT : Hid (Tb w) := ht
  clear ht
  go_enter Tryd.func5, Tryd.ntmps5
  go_wp2_with fail
  refine (wakes_any _ HT.out).mono ?_
  rintro e w1 ⟨rfl, hb1⟩
  go_wp2_with fail
  refine (args_any m o _ (HT.out.later hb1)).mono ?_
  rintro e w2 ⟨v2, rfl, s2, hb2⟩
  obtain ⟨a2, c2, rfl⟩ := s2.form
  go_wp2_with fail
  refine (rfind_any m o _).mono ?_
  rintro e w3 ⟨v3, rfl, s3, hb3⟩
  replace s2 := s2.later hb3
  obtain ⟨a3, c3, rfl⟩ := s3.form
  have hbw := below_next hb1 (below_next hb2 hb3)
  clear hb1 hb2 hb3
  go_wp2_with fail
  have hb4 := below_box w3 (.cells #[.slice a3 (fr m o).inn.length c3, .int .i64 (dO (fr m o)), .bool (dM (fr m o)), .bool (fi m o)] 35)
  refine (same_any _ _ _ _ _ (s2.later hb4) (s3.later hb4)).mono ?_
  rintro e w5 ⟨rfl, hb5⟩
  rw [sameB_self]
  go_wp2
  go_ret
  exact ⟨rfl, below_next hbw (below_next hb4 hb5)⟩
end Go.Proofs.YtoefcbhcceikoaaDoor
