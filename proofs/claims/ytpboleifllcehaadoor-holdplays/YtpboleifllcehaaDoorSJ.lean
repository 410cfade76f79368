/- The document's table, by the texts: the further rows. Conditions: what the two words' functions answer. -/
import Derived.Test.YtpboleifllcehaaDoorBI
namespace Go.Proofs.YtpboleifllcehaaDoor
open Go.RowKit Go.PlainAid
set_option linter.unusedVariables false
set_option linter.unusedSimpArgs false

set_option maxHeartbeats 4000000 in
theorem rfind_1 (m o : Int) (A U : ByteArray) (w : World) (q1 : ¬ 9223372036854775807 < A.size + 1) (q2 : ¬ 9223372036854775807 < (A ++ (⟨#[32]⟩ : ByteArray)).size + U.size) (hM : ∀ w, Calls Tryd.prog 38 #[.int .i64 m] w fun e w' => e = .returned (.string A) ∧ Below w.heap.size w w') (hO : ∀ w, Calls Tryd.prog 39 #[.int .i64 o] w fun e w' => e = .returned (.string U) ∧ Below w.heap.size w w') (e0 : ((A ++ (⟨#[32]⟩ : ByteArray) ++ U).toList == [114, 101, 103, 32, 119, 114, 105, 116, 101]) = false) (e2 : ((A ++ (⟨#[32]⟩ : ByteArray) ++ U).toList == [99, 97, 115, 32, 119, 114, 105, 116, 101]) = false) (e5 : ((A ++ (⟨#[32]⟩ : ByteArray) ++ U).toList == [115, 101, 116, 32, 97, 100, 100]) = false) (e6 : ((A ++ (⟨#[32]⟩ : ByteArray) ++ U).toList == [115, 101, 116, 32, 100, 101, 108]) = false) (e11 : ((A ++ (⟨#[32]⟩ : ByteArray) ++ U).toList == [102, 105, 102, 111, 32, 112, 117, 115, 104]) = false) (e13 : ((A ++ (⟨#[32]⟩ : ByteArray) ++ U).toList == [115, 116, 97, 99, 107, 32, 112, 117, 115, 104]) = false) (e1 : ((A ++ (⟨#[32]⟩ : ByteArray) ++ U).toList == [114, 101, 103, 32, 114, 101, 97, 100]) = true) :
    Calls Tryd.prog 34 #[.int .i64 m, .int .i64 o] w fun e w' => RD w [] (2) true true e w' := by
  have S0 := SBox.new w 67
  have hb0 := below_box w (.cells #[.slice none 0 0, .int .i64 0, .bool false, .bool false] 67)
  go_enter Tryd.func34, Tryd.ntmps34
  go_wp2_with fail
  generalize w.alloc (.cells #[.slice none 0 0, .int .i64 0, .bool false, .bool false] 67) = w0 at *
  refine (hM _).mono ?_
  rintro e w1 ⟨rfl, hb1⟩
  go_wp2_with fail
  generalize A ++ (⟨#[32]⟩ : ByteArray) = B at *
  refine (hO _).mono ?_
  rintro e w2 ⟨rfl, hb2⟩
  have hbw := below_next (below_next hb0 hb1) hb2
  obtain ⟨hp, c0, c1, c2, c3, f0, f1, f2, f3⟩ := (S0.later hb1).later hb2
  have hne : ¬ w.heap.size = w2.heap.size := by omega
  have hne2 : ¬ w2.heap.size = w.heap.size := by omega
  clear S0 hb0 hb1 hb2 hM hO
  go_wp2
  refine bodyPost_ret (v := .agg #[.slice none 0 0, .int .i64 (2), .bool true, .bool true]) (by simp [results, Tryd.f34, go_sem, hne, hne2, c0, c1, c2, c3, f0, f1, f2, f3, hp]) rfl ?_
  exact ⟨_, rfl, ISl.nil _, below_store4 hbw (Nat.le_refl _) _ _ _ _⟩
set_option maxHeartbeats 4000000 in
theorem rfind_2 (m o : Int) (A U : ByteArray) (w : World) (q1 : ¬ 9223372036854775807 < A.size + 1) (q2 : ¬ 9223372036854775807 < (A ++ (⟨#[32]⟩ : ByteArray)).size + U.size) (hM : ∀ w, Calls Tryd.prog 38 #[.int .i64 m] w fun e w' => e = .returned (.string A) ∧ Below w.heap.size w w') (hO : ∀ w, Calls Tryd.prog 39 #[.int .i64 o] w fun e w' => e = .returned (.string U) ∧ Below w.heap.size w w') (e0 : ((A ++ (⟨#[32]⟩ : ByteArray) ++ U).toList == [114, 101, 103, 32, 119, 114, 105, 116, 101]) = false) (e2 : ((A ++ (⟨#[32]⟩ : ByteArray) ++ U).toList == [99, 97, 115, 32, 119, 114, 105, 116, 101]) = true) :
    Calls Tryd.prog 34 #[.int .i64 m, .int .i64 o] w fun e w' => RD w [2] (-1) false true e w' := by
  have S0 := SBox.new w 67
  have hb0 := below_box w (.cells #[.slice none 0 0, .int .i64 0, .bool false, .bool false] 67)
  go_enter Tryd.func34, Tryd.ntmps34
  go_wp2_with fail
  generalize w.alloc (.cells #[.slice none 0 0, .int .i64 0, .bool false, .bool false] 67) = w0 at *
  refine (hM _).mono ?_
  rintro e w1 ⟨rfl, hb1⟩
  go_wp2_with fail
  generalize A ++ (⟨#[32]⟩ : ByteArray) = B at *
  refine (hO _).mono ?_
  rintro e w2 ⟨rfl, hb2⟩
  have hbw := below_next (below_next hb0 hb1) hb2
  obtain ⟨hp, c0, c1, c2, c3, f0, f1, f2, f3⟩ := (S0.later hb1).later hb2
  have hne : ¬ w.heap.size = w2.heap.size := by omega
  have hne2 : ¬ w2.heap.size = w.heap.size := by omega
  clear S0 hb0 hb1 hb2 hM hO
  go_wp2
  refine bodyPost_ret (v := .agg #[.slice (some ⟨w2.heap.size, 0, none⟩) 1 1, .int .i64 (-1), .bool false, .bool true]) (by simp [results, Tryd.f34, go_sem, hne, hne2, c0, c1, c2, c3, f0, f1, f2, f3, hp]) rfl ?_
  refine ⟨_, rfl, ?_, ?_⟩
  · refine isl_1 ?_ ?_ <;> first | (simp [hne, hne2]; done) | (simp [World.cell?, hne, hne2]; done) | (go_simp; done)
  first | exact below_more (below_store4 hbw (Nat.le_refl _) _ _ _ _) _ | exact below_store4 (below_more hbw _) (Nat.le_refl _) _ _ _ _
set_option maxHeartbeats 4000000 in
theorem rfind_3 (m o : Int) (A U : ByteArray) (w : World) (q1 : ¬ 9223372036854775807 < A.size + 1) (q2 : ¬ 9223372036854775807 < (A ++ (⟨#[32]⟩ : ByteArray)).size + U.size) (hM : ∀ w, Calls Tryd.prog 38 #[.int .i64 m] w fun e w' => e = .returned (.string A) ∧ Below w.heap.size w w') (hO : ∀ w, Calls Tryd.prog 39 #[.int .i64 o] w fun e w' => e = .returned (.string U) ∧ Below w.heap.size w w') (e0 : ((A ++ (⟨#[32]⟩ : ByteArray) ++ U).toList == [114, 101, 103, 32, 119, 114, 105, 116, 101]) = false) (e2 : ((A ++ (⟨#[32]⟩ : ByteArray) ++ U).toList == [99, 97, 115, 32, 119, 114, 105, 116, 101]) = false) (e5 : ((A ++ (⟨#[32]⟩ : ByteArray) ++ U).toList == [115, 101, 116, 32, 97, 100, 100]) = false) (e6 : ((A ++ (⟨#[32]⟩ : ByteArray) ++ U).toList == [115, 101, 116, 32, 100, 101, 108]) = false) (e11 : ((A ++ (⟨#[32]⟩ : ByteArray) ++ U).toList == [102, 105, 102, 111, 32, 112, 117, 115, 104]) = false) (e13 : ((A ++ (⟨#[32]⟩ : ByteArray) ++ U).toList == [115, 116, 97, 99, 107, 32, 112, 117, 115, 104]) = false) (e1 : ((A ++ (⟨#[32]⟩ : ByteArray) ++ U).toList == [114, 101, 103, 32, 114, 101, 97, 100]) = false) (e3 : ((A ++ (⟨#[32]⟩ : ByteArray) ++ U).toList == [99, 97, 115, 32, 114, 101, 97, 100]) = true) :
    Calls Tryd.prog 34 #[.int .i64 m, .int .i64 o] w fun e w' => RD w [] (2) true true e w' := by
  have S0 := SBox.new w 67
  have hb0 := below_box w (.cells #[.slice none 0 0, .int .i64 0, .bool false, .bool false] 67)
  go_enter Tryd.func34, Tryd.ntmps34
  go_wp2_with fail
  generalize w.alloc (.cells #[.slice none 0 0, .int .i64 0, .bool false, .bool false] 67) = w0 at *
  refine (hM _).mono ?_
  rintro e w1 ⟨rfl, hb1⟩
  go_wp2_with fail
  generalize A ++ (⟨#[32]⟩ : ByteArray) = B at *
  refine (hO _).mono ?_
  rintro e w2 ⟨rfl, hb2⟩
  have hbw := below_next (below_next hb0 hb1) hb2
  obtain ⟨hp, c0, c1, c2, c3, f0, f1, f2, f3⟩ := (S0.later hb1).later hb2
  have hne : ¬ w.heap.size = w2.heap.size := by omega
  have hne2 : ¬ w2.heap.size = w.heap.size := by omega
  clear S0 hb0 hb1 hb2 hM hO
  go_wp2
  refine bodyPost_ret (v := .agg #[.slice none 0 0, .int .i64 (2), .bool true, .bool true]) (by simp [results, Tryd.f34, go_sem, hne, hne2, c0, c1, c2, c3, f0, f1, f2, f3, hp]) rfl ?_
  exact ⟨_, rfl, ISl.nil _, below_store4 hbw (Nat.le_refl _) _ _ _ _⟩
set_option maxHeartbeats 4000000 in
theorem rfind_5 (m o : Int) (A U : ByteArray) (w : World) (q1 : ¬ 9223372036854775807 < A.size + 1) (q2 : ¬ 9223372036854775807 < (A ++ (⟨#[32]⟩ : ByteArray)).size + U.size) (hM : ∀ w, Calls Tryd.prog 38 #[.int .i64 m] w fun e w' => e = .returned (.string A) ∧ Below w.heap.size w w') (hO : ∀ w, Calls Tryd.prog 39 #[.int .i64 o] w fun e w' => e = .returned (.string U) ∧ Below w.heap.size w w') (e0 : ((A ++ (⟨#[32]⟩ : ByteArray) ++ U).toList == [114, 101, 103, 32, 119, 114, 105, 116, 101]) = false) (e2 : ((A ++ (⟨#[32]⟩ : ByteArray) ++ U).toList == [99, 97, 115, 32, 119, 114, 105, 116, 101]) = false) (e5 : ((A ++ (⟨#[32]⟩ : ByteArray) ++ U).toList == [115, 101, 116, 32, 97, 100, 100]) = true) :
    Calls Tryd.prog 34 #[.int .i64 m, .int .i64 o] w fun e w' => RD w [2] (-1) false true e w' := by
  have S0 := SBox.new w 67
  have hb0 := below_box w (.cells #[.slice none 0 0, .int .i64 0, .bool false, .bool false] 67)
  go_enter Tryd.func34, Tryd.ntmps34
  go_wp2_with fail
  generalize w.alloc (.cells #[.slice none 0 0, .int .i64 0, .bool false, .bool false] 67) = w0 at *
  refine (hM _).mono ?_
  rintro e w1 ⟨rfl, hb1⟩
  go_wp2_with fail
  generalize A ++ (⟨#[32]⟩ : ByteArray) = B at *
  refine (hO _).mono ?_
  rintro e w2 ⟨rfl, hb2⟩
  have hbw := below_next (below_next hb0 hb1) hb2
  obtain ⟨hp, c0, c1, c2, c3, f0, f1, f2, f3⟩ := (S0.later hb1).later hb2
  have hne : ¬ w.heap.size = w2.heap.size := by omega
  have hne2 : ¬ w2.heap.size = w.heap.size := by omega
  clear S0 hb0 hb1 hb2 hM hO
  go_wp2
  refine bodyPost_ret (v := .agg #[.slice (some ⟨w2.heap.size, 0, none⟩) 1 1, .int .i64 (-1), .bool false, .bool true]) (by simp [results, Tryd.f34, go_sem, hne, hne2, c0, c1, c2, c3, f0, f1, f2, f3, hp]) rfl ?_
  refine ⟨_, rfl, ?_, ?_⟩
  · refine isl_1 ?_ ?_ <;> first | (simp [hne, hne2]; done) | (simp [World.cell?, hne, hne2]; done) | (go_simp; done)
  first | exact below_more (below_store4 hbw (Nat.le_refl _) _ _ _ _) _ | exact below_store4 (below_more hbw _) (Nat.le_refl _) _ _ _ _
set_option maxHeartbeats 4000000 in
theorem rfind_6 (m o : Int) (A U : ByteArray) (w : World) (q1 : ¬ 9223372036854775807 < A.size + 1) (q2 : ¬ 9223372036854775807 < (A ++ (⟨#[32]⟩ : ByteArray)).size + U.size) (hM : ∀ w, Calls Tryd.prog 38 #[.int .i64 m] w fun e w' => e = .returned (.string A) ∧ Below w.heap.size w w') (hO : ∀ w, Calls Tryd.prog 39 #[.int .i64 o] w fun e w' => e = .returned (.string U) ∧ Below w.heap.size w w') (e0 : ((A ++ (⟨#[32]⟩ : ByteArray) ++ U).toList == [114, 101, 103, 32, 119, 114, 105, 116, 101]) = false) (e2 : ((A ++ (⟨#[32]⟩ : ByteArray) ++ U).toList == [99, 97, 115, 32, 119, 114, 105, 116, 101]) = false) (e5 : ((A ++ (⟨#[32]⟩ : ByteArray) ++ U).toList == [115, 101, 116, 32, 97, 100, 100]) = false) (e6 : ((A ++ (⟨#[32]⟩ : ByteArray) ++ U).toList == [115, 101, 116, 32, 100, 101, 108]) = true) :
    Calls Tryd.prog 34 #[.int .i64 m, .int .i64 o] w fun e w' => RD w [2] (-1) false true e w' := by
  have S0 := SBox.new w 67
  have hb0 := below_box w (.cells #[.slice none 0 0, .int .i64 0, .bool false, .bool false] 67)
  go_enter Tryd.func34, Tryd.ntmps34
  go_wp2_with fail
  generalize w.alloc (.cells #[.slice none 0 0, .int .i64 0, .bool false, .bool false] 67) = w0 at *
  refine (hM _).mono ?_
  rintro e w1 ⟨rfl, hb1⟩
  go_wp2_with fail
  generalize A ++ (⟨#[32]⟩ : ByteArray) = B at *
  refine (hO _).mono ?_
  rintro e w2 ⟨rfl, hb2⟩
  have hbw := below_next (below_next hb0 hb1) hb2
  obtain ⟨hp, c0, c1, c2, c3, f0, f1, f2, f3⟩ := (S0.later hb1).later hb2
  have hne : ¬ w.heap.size = w2.heap.size := by omega
  have hne2 : ¬ w2.heap.size = w.heap.size := by omega
  clear S0 hb0 hb1 hb2 hM hO
  go_wp2
  refine bodyPost_ret (v := .agg #[.slice (some ⟨w2.heap.size, 0, none⟩) 1 1, .int .i64 (-1), .bool false, .bool true]) (by simp [results, Tryd.f34, go_sem, hne, hne2, c0, c1, c2, c3, f0, f1, f2, f3, hp]) rfl ?_
  refine ⟨_, rfl, ?_, ?_⟩
  · refine isl_1 ?_ ?_ <;> first | (simp [hne, hne2]; done) | (simp [World.cell?, hne, hne2]; done) | (go_simp; done)
  first | exact below_more (below_store4 hbw (Nat.le_refl _) _ _ _ _) _ | exact below_store4 (below_more hbw _) (Nat.le_refl _) _ _ _ _
set_option maxHeartbeats 4000000 in
theorem rfind_7 (m o : Int) (A U : ByteArray) (w : World) (q1 : ¬ 9223372036854775807 < A.size + 1) (q2 : ¬ 9223372036854775807 < (A ++ (⟨#[32]⟩ : ByteArray)).size + U.size) (hM : ∀ w, Calls Tryd.prog 38 #[.int .i64 m] w fun e w' => e = .returned (.string A) ∧ Below w.heap.size w w') (hO : ∀ w, Calls Tryd.prog 39 #[.int .i64 o] w fun e w' => e = .returned (.string U) ∧ Below w.heap.size w w') (e0 : ((A ++ (⟨#[32]⟩ : ByteArray) ++ U).toList == [114, 101, 103, 32, 119, 114, 105, 116, 101]) = false) (e2 : ((A ++ (⟨#[32]⟩ : ByteArray) ++ U).toList == [99, 97, 115, 32, 119, 114, 105, 116, 101]) = false) (e5 : ((A ++ (⟨#[32]⟩ : ByteArray) ++ U).toList == [115, 101, 116, 32, 97, 100, 100]) = false) (e6 : ((A ++ (⟨#[32]⟩ : ByteArray) ++ U).toList == [115, 101, 116, 32, 100, 101, 108]) = false) (e11 : ((A ++ (⟨#[32]⟩ : ByteArray) ++ U).toList == [102, 105, 102, 111, 32, 112, 117, 115, 104]) = false) (e13 : ((A ++ (⟨#[32]⟩ : ByteArray) ++ U).toList == [115, 116, 97, 99, 107, 32, 112, 117, 115, 104]) = false) (e1 : ((A ++ (⟨#[32]⟩ : ByteArray) ++ U).toList == [114, 101, 103, 32, 114, 101, 97, 100]) = false) (e3 : ((A ++ (⟨#[32]⟩ : ByteArray) ++ U).toList == [99, 97, 115, 32, 114, 101, 97, 100]) = false) (e12 : ((A ++ (⟨#[32]⟩ : ByteArray) ++ U).toList == [102, 105, 102, 111, 32, 112, 111, 112]) = false) (e14 : ((A ++ (⟨#[32]⟩ : ByteArray) ++ U).toList == [115, 116, 97, 99, 107, 32, 112, 111, 112]) = false) (e4 : ((A ++ (⟨#[32]⟩ : ByteArray) ++ U).toList == [99, 97, 115, 32, 115, 119, 97, 112]) = false) (e7 : ((A ++ (⟨#[32]⟩ : ByteArray) ++ U).toList == [115, 101, 116, 32, 104, 97, 115]) = true) :
    Calls Tryd.prog 34 #[.int .i64 m, .int .i64 o] w fun e w' => RD w [2] (6) false true e w' := by
  have S0 := SBox.new w 67
  have hb0 := below_box w (.cells #[.slice none 0 0, .int .i64 0, .bool false, .bool false] 67)
  go_enter Tryd.func34, Tryd.ntmps34
  go_wp2_with fail
  generalize w.alloc (.cells #[.slice none 0 0, .int .i64 0, .bool false, .bool false] 67) = w0 at *
  refine (hM _).mono ?_
  rintro e w1 ⟨rfl, hb1⟩
  go_wp2_with fail
  generalize A ++ (⟨#[32]⟩ : ByteArray) = B at *
  refine (hO _).mono ?_
  rintro e w2 ⟨rfl, hb2⟩
  have hbw := below_next (below_next hb0 hb1) hb2
  obtain ⟨hp, c0, c1, c2, c3, f0, f1, f2, f3⟩ := (S0.later hb1).later hb2
  have hne : ¬ w.heap.size = w2.heap.size := by omega
  have hne2 : ¬ w2.heap.size = w.heap.size := by omega
  clear S0 hb0 hb1 hb2 hM hO
  go_wp2
  refine bodyPost_ret (v := .agg #[.slice (some ⟨w2.heap.size, 0, none⟩) 1 1, .int .i64 (6), .bool false, .bool true]) (by simp [results, Tryd.f34, go_sem, hne, hne2, c0, c1, c2, c3, f0, f1, f2, f3, hp]) rfl ?_
  refine ⟨_, rfl, ?_, ?_⟩
  · refine isl_1 ?_ ?_ <;> first | (simp [hne, hne2]; done) | (simp [World.cell?, hne, hne2]; done) | (go_simp; done)
  first | exact below_more (below_store4 hbw (Nat.le_refl _) _ _ _ _) _ | exact below_store4 (below_more hbw _) (Nat.le_refl _) _ _ _ _
set_option maxHeartbeats 4000000 in
theorem rfind_8 (m o : Int) (A U : ByteArray) (w : World) (q1 : ¬ 9223372036854775807 < A.size + 1) (q2 : ¬ 9223372036854775807 < (A ++ (⟨#[32]⟩ : ByteArray)).size + U.size) (hM : ∀ w, Calls Tryd.prog 38 #[.int .i64 m] w fun e w' => e = .returned (.string A) ∧ Below w.heap.size w w') (hO : ∀ w, Calls Tryd.prog 39 #[.int .i64 o] w fun e w' => e = .returned (.string U) ∧ Below w.heap.size w w') (e0 : ((A ++ (⟨#[32]⟩ : ByteArray) ++ U).toList == [114, 101, 103, 32, 119, 114, 105, 116, 101]) = false) (e2 : ((A ++ (⟨#[32]⟩ : ByteArray) ++ U).toList == [99, 97, 115, 32, 119, 114, 105, 116, 101]) = false) (e5 : ((A ++ (⟨#[32]⟩ : ByteArray) ++ U).toList == [115, 101, 116, 32, 97, 100, 100]) = false) (e6 : ((A ++ (⟨#[32]⟩ : ByteArray) ++ U).toList == [115, 101, 116, 32, 100, 101, 108]) = false) (e11 : ((A ++ (⟨#[32]⟩ : ByteArray) ++ U).toList == [102, 105, 102, 111, 32, 112, 117, 115, 104]) = false) (e13 : ((A ++ (⟨#[32]⟩ : ByteArray) ++ U).toList == [115, 116, 97, 99, 107, 32, 112, 117, 115, 104]) = false) (e1 : ((A ++ (⟨#[32]⟩ : ByteArray) ++ U).toList == [114, 101, 103, 32, 114, 101, 97, 100]) = false) (e3 : ((A ++ (⟨#[32]⟩ : ByteArray) ++ U).toList == [99, 97, 115, 32, 114, 101, 97, 100]) = false) (e12 : ((A ++ (⟨#[32]⟩ : ByteArray) ++ U).toList == [102, 105, 102, 111, 32, 112, 111, 112]) = false) (e14 : ((A ++ (⟨#[32]⟩ : ByteArray) ++ U).toList == [115, 116, 97, 99, 107, 32, 112, 111, 112]) = false) (e4 : ((A ++ (⟨#[32]⟩ : ByteArray) ++ U).toList == [99, 97, 115, 32, 115, 119, 97, 112]) = false) (e7 : ((A ++ (⟨#[32]⟩ : ByteArray) ++ U).toList == [115, 101, 116, 32, 104, 97, 115]) = false) (e8 : ((A ++ (⟨#[32]⟩ : ByteArray) ++ U).toList == [109, 97, 112, 32, 112, 117, 116]) = true) :
    Calls Tryd.prog 34 #[.int .i64 m, .int .i64 o] w fun e w' => RD w [3, 2] (-1) false true e w' := by
  have S0 := SBox.new w 67
  have hb0 := below_box w (.cells #[.slice none 0 0, .int .i64 0, .bool false, .bool false] 67)
  go_enter Tryd.func34, Tryd.ntmps34
  go_wp2_with fail
  generalize w.alloc (.cells #[.slice none 0 0, .int .i64 0, .bool false, .bool false] 67) = w0 at *
  refine (hM _).mono ?_
  rintro e w1 ⟨rfl, hb1⟩
  go_wp2_with fail
  generalize A ++ (⟨#[32]⟩ : ByteArray) = B at *
  refine (hO _).mono ?_
  rintro e w2 ⟨rfl, hb2⟩
  have hbw := below_next (below_next hb0 hb1) hb2
  obtain ⟨hp, c0, c1, c2, c3, f0, f1, f2, f3⟩ := (S0.later hb1).later hb2
  have hne : ¬ w.heap.size = w2.heap.size := by omega
  have hne2 : ¬ w2.heap.size = w.heap.size := by omega
  clear S0 hb0 hb1 hb2 hM hO
  go_wp2
  refine bodyPost_ret (v := .agg #[.slice (some ⟨w2.heap.size, 0, none⟩) 2 2, .int .i64 (-1), .bool false, .bool true]) (by simp [results, Tryd.f34, go_sem, hne, hne2, c0, c1, c2, c3, f0, f1, f2, f3, hp]) rfl ?_
  refine ⟨_, rfl, ?_, ?_⟩
  · refine isl_2 ?_ ?_ ?_ <;> first | (simp [hne, hne2]; done) | (simp [World.cell?, hne, hne2]; done) | (go_simp; done)
  first | exact below_more (below_store4 hbw (Nat.le_refl _) _ _ _ _) _ | exact below_store4 (below_more hbw _) (Nat.le_refl _) _ _ _ _
set_option maxHeartbeats 4000000 in
theorem rfind_9 (m o : Int) (A U : ByteArray) (w : World) (q1 : ¬ 9223372036854775807 < A.size + 1) (q2 : ¬ 9223372036854775807 < (A ++ (⟨#[32]⟩ : ByteArray)).size + U.size) (hM : ∀ w, Calls Tryd.prog 38 #[.int .i64 m] w fun e w' => e = .returned (.string A) ∧ Below w.heap.size w w') (hO : ∀ w, Calls Tryd.prog 39 #[.int .i64 o] w fun e w' => e = .returned (.string U) ∧ Below w.heap.size w w') (e0 : ((A ++ (⟨#[32]⟩ : ByteArray) ++ U).toList == [114, 101, 103, 32, 119, 114, 105, 116, 101]) = false) (e2 : ((A ++ (⟨#[32]⟩ : ByteArray) ++ U).toList == [99, 97, 115, 32, 119, 114, 105, 116, 101]) = false) (e5 : ((A ++ (⟨#[32]⟩ : ByteArray) ++ U).toList == [115, 101, 116, 32, 97, 100, 100]) = false) (e6 : ((A ++ (⟨#[32]⟩ : ByteArray) ++ U).toList == [115, 101, 116, 32, 100, 101, 108]) = false) (e11 : ((A ++ (⟨#[32]⟩ : ByteArray) ++ U).toList == [102, 105, 102, 111, 32, 112, 117, 115, 104]) = false) (e13 : ((A ++ (⟨#[32]⟩ : ByteArray) ++ U).toList == [115, 116, 97, 99, 107, 32, 112, 117, 115, 104]) = false) (e1 : ((A ++ (⟨#[32]⟩ : ByteArray) ++ U).toList == [114, 101, 103, 32, 114, 101, 97, 100]) = false) (e3 : ((A ++ (⟨#[32]⟩ : ByteArray) ++ U).toList == [99, 97, 115, 32, 114, 101, 97, 100]) = false) (e12 : ((A ++ (⟨#[32]⟩ : ByteArray) ++ U).toList == [102, 105, 102, 111, 32, 112, 111, 112]) = false) (e14 : ((A ++ (⟨#[32]⟩ : ByteArray) ++ U).toList == [115, 116, 97, 99, 107, 32, 112, 111, 112]) = false) (e4 : ((A ++ (⟨#[32]⟩ : ByteArray) ++ U).toList == [99, 97, 115, 32, 115, 119, 97, 112]) = false) (e7 : ((A ++ (⟨#[32]⟩ : ByteArray) ++ U).toList == [115, 101, 116, 32, 104, 97, 115]) = false) (e8 : ((A ++ (⟨#[32]⟩ : ByteArray) ++ U).toList == [109, 97, 112, 32, 112, 117, 116]) = false) (e9 : ((A ++ (⟨#[32]⟩ : ByteArray) ++ U).toList == [109, 97, 112, 32, 103, 101, 116]) = true) :
    Calls Tryd.prog 34 #[.int .i64 m, .int .i64 o] w fun e w' => RD w [3] (2) true true e w' := by
  have S0 := SBox.new w 67
  have hb0 := below_box w (.cells #[.slice none 0 0, .int .i64 0, .bool false, .bool false] 67)
  go_enter Tryd.func34, Tryd.ntmps34
  go_wp2_with fail
  generalize w.alloc (.cells #[.slice none 0 0, .int .i64 0, .bool false, .bool false] 67) = w0 at *
  refine (hM _).mono ?_
  rintro e w1 ⟨rfl, hb1⟩
  go_wp2_with fail
  generalize A ++ (⟨#[32]⟩ : ByteArray) = B at *
  refine (hO _).mono ?_
  rintro e w2 ⟨rfl, hb2⟩
  have hbw := below_next (below_next hb0 hb1) hb2
  obtain ⟨hp, c0, c1, c2, c3, f0, f1, f2, f3⟩ := (S0.later hb1).later hb2
  have hne : ¬ w.heap.size = w2.heap.size := by omega
  have hne2 : ¬ w2.heap.size = w.heap.size := by omega
  clear S0 hb0 hb1 hb2 hM hO
  go_wp2
  refine bodyPost_ret (v := .agg #[.slice (some ⟨w2.heap.size, 0, none⟩) 1 1, .int .i64 (2), .bool true, .bool true]) (by simp [results, Tryd.f34, go_sem, hne, hne2, c0, c1, c2, c3, f0, f1, f2, f3, hp]) rfl ?_
  refine ⟨_, rfl, ?_, ?_⟩
  · refine isl_1 ?_ ?_ <;> first | (simp [hne, hne2]; done) | (simp [World.cell?, hne, hne2]; done) | (go_simp; done)
  first | exact below_more (below_store4 hbw (Nat.le_refl _) _ _ _ _) _ | exact below_store4 (below_more hbw _) (Nat.le_refl _) _ _ _ _
set_option maxHeartbeats 4000000 in
theorem rfind_10 (m o : Int) (A U : ByteArray) (w : World) (q1 : ¬ 9223372036854775807 < A.size + 1) (q2 : ¬ 9223372036854775807 < (A ++ (⟨#[32]⟩ : ByteArray)).size + U.size) (hM : ∀ w, Calls Tryd.prog 38 #[.int .i64 m] w fun e w' => e = .returned (.string A) ∧ Below w.heap.size w w') (hO : ∀ w, Calls Tryd.prog 39 #[.int .i64 o] w fun e w' => e = .returned (.string U) ∧ Below w.heap.size w w') (e0 : ((A ++ (⟨#[32]⟩ : ByteArray) ++ U).toList == [114, 101, 103, 32, 119, 114, 105, 116, 101]) = false) (e2 : ((A ++ (⟨#[32]⟩ : ByteArray) ++ U).toList == [99, 97, 115, 32, 119, 114, 105, 116, 101]) = false) (e5 : ((A ++ (⟨#[32]⟩ : ByteArray) ++ U).toList == [115, 101, 116, 32, 97, 100, 100]) = false) (e6 : ((A ++ (⟨#[32]⟩ : ByteArray) ++ U).toList == [115, 101, 116, 32, 100, 101, 108]) = false) (e11 : ((A ++ (⟨#[32]⟩ : ByteArray) ++ U).toList == [102, 105, 102, 111, 32, 112, 117, 115, 104]) = false) (e13 : ((A ++ (⟨#[32]⟩ : ByteArray) ++ U).toList == [115, 116, 97, 99, 107, 32, 112, 117, 115, 104]) = false) (e1 : ((A ++ (⟨#[32]⟩ : ByteArray) ++ U).toList == [114, 101, 103, 32, 114, 101, 97, 100]) = false) (e3 : ((A ++ (⟨#[32]⟩ : ByteArray) ++ U).toList == [99, 97, 115, 32, 114, 101, 97, 100]) = false) (e12 : ((A ++ (⟨#[32]⟩ : ByteArray) ++ U).toList == [102, 105, 102, 111, 32, 112, 111, 112]) = false) (e14 : ((A ++ (⟨#[32]⟩ : ByteArray) ++ U).toList == [115, 116, 97, 99, 107, 32, 112, 111, 112]) = false) (e4 : ((A ++ (⟨#[32]⟩ : ByteArray) ++ U).toList == [99, 97, 115, 32, 115, 119, 97, 112]) = false) (e7 : ((A ++ (⟨#[32]⟩ : ByteArray) ++ U).toList == [115, 101, 116, 32, 104, 97, 115]) = false) (e8 : ((A ++ (⟨#[32]⟩ : ByteArray) ++ U).toList == [109, 97, 112, 32, 112, 117, 116]) = false) (e9 : ((A ++ (⟨#[32]⟩ : ByteArray) ++ U).toList == [109, 97, 112, 32, 103, 101, 116]) = false) (e10 : ((A ++ (⟨#[32]⟩ : ByteArray) ++ U).toList == [109, 97, 112, 32, 100, 101, 108]) = true) :
    Calls Tryd.prog 34 #[.int .i64 m, .int .i64 o] w fun e w' => RD w [3] (-1) false true e w' := by
  have S0 := SBox.new w 67
  have hb0 := below_box w (.cells #[.slice none 0 0, .int .i64 0, .bool false, .bool false] 67)
  go_enter Tryd.func34, Tryd.ntmps34
  go_wp2_with fail
  generalize w.alloc (.cells #[.slice none 0 0, .int .i64 0, .bool false, .bool false] 67) = w0 at *
  refine (hM _).mono ?_
  rintro e w1 ⟨rfl, hb1⟩
  go_wp2_with fail
  generalize A ++ (⟨#[32]⟩ : ByteArray) = B at *
  refine (hO _).mono ?_
  rintro e w2 ⟨rfl, hb2⟩
  have hbw := below_next (below_next hb0 hb1) hb2
  obtain ⟨hp, c0, c1, c2, c3, f0, f1, f2, f3⟩ := (S0.later hb1).later hb2
  have hne : ¬ w.heap.size = w2.heap.size := by omega
  have hne2 : ¬ w2.heap.size = w.heap.size := by omega
  clear S0 hb0 hb1 hb2 hM hO
  go_wp2
  refine bodyPost_ret (v := .agg #[.slice (some ⟨w2.heap.size, 0, none⟩) 1 1, .int .i64 (-1), .bool false, .bool true]) (by simp [results, Tryd.f34, go_sem, hne, hne2, c0, c1, c2, c3, f0, f1, f2, f3, hp]) rfl ?_
  refine ⟨_, rfl, ?_, ?_⟩
  · refine isl_1 ?_ ?_ <;> first | (simp [hne, hne2]; done) | (simp [World.cell?, hne, hne2]; done) | (go_simp; done)
  first | exact below_more (below_store4 hbw (Nat.le_refl _) _ _ _ _) _ | exact below_store4 (below_more hbw _) (Nat.le_refl _) _ _ _ _
set_option maxHeartbeats 4000000 in
theorem rfind_11 (m o : Int) (A U : ByteArray) (w : World) (q1 : ¬ 9223372036854775807 < A.size + 1) (q2 : ¬ 9223372036854775807 < (A ++ (⟨#[32]⟩ : ByteArray)).size + U.size) (hM : ∀ w, Calls Tryd.prog 38 #[.int .i64 m] w fun e w' => e = .returned (.string A) ∧ Below w.heap.size w w') (hO : ∀ w, Calls Tryd.prog 39 #[.int .i64 o] w fun e w' => e = .returned (.string U) ∧ Below w.heap.size w w') (e0 : ((A ++ (⟨#[32]⟩ : ByteArray) ++ U).toList == [114, 101, 103, 32, 119, 114, 105, 116, 101]) = false) (e2 : ((A ++ (⟨#[32]⟩ : ByteArray) ++ U).toList == [99, 97, 115, 32, 119, 114, 105, 116, 101]) = false) (e5 : ((A ++ (⟨#[32]⟩ : ByteArray) ++ U).toList == [115, 101, 116, 32, 97, 100, 100]) = false) (e6 : ((A ++ (⟨#[32]⟩ : ByteArray) ++ U).toList == [115, 101, 116, 32, 100, 101, 108]) = false) (e11 : ((A ++ (⟨#[32]⟩ : ByteArray) ++ U).toList == [102, 105, 102, 111, 32, 112, 117, 115, 104]) = true) :
    Calls Tryd.prog 34 #[.int .i64 m, .int .i64 o] w fun e w' => RD w [2] (-1) false true e w' := by
  have S0 := SBox.new w 67
  have hb0 := below_box w (.cells #[.slice none 0 0, .int .i64 0, .bool false, .bool false] 67)
  go_enter Tryd.func34, Tryd.ntmps34
  go_wp2_with fail
  generalize w.alloc (.cells #[.slice none 0 0, .int .i64 0, .bool false, .bool false] 67) = w0 at *
  refine (hM _).mono ?_
  rintro e w1 ⟨rfl, hb1⟩
  go_wp2_with fail
  generalize A ++ (⟨#[32]⟩ : ByteArray) = B at *
  refine (hO _).mono ?_
  rintro e w2 ⟨rfl, hb2⟩
  have hbw := below_next (below_next hb0 hb1) hb2
  obtain ⟨hp, c0, c1, c2, c3, f0, f1, f2, f3⟩ := (S0.later hb1).later hb2
  have hne : ¬ w.heap.size = w2.heap.size := by omega
  have hne2 : ¬ w2.heap.size = w.heap.size := by omega
  clear S0 hb0 hb1 hb2 hM hO
  go_wp2
  refine bodyPost_ret (v := .agg #[.slice (some ⟨w2.heap.size, 0, none⟩) 1 1, .int .i64 (-1), .bool false, .bool true]) (by simp [results, Tryd.f34, go_sem, hne, hne2, c0, c1, c2, c3, f0, f1, f2, f3, hp]) rfl ?_
  refine ⟨_, rfl, ?_, ?_⟩
  · refine isl_1 ?_ ?_ <;> first | (simp [hne, hne2]; done) | (simp [World.cell?, hne, hne2]; done) | (go_simp; done)
  first | exact below_more (below_store4 hbw (Nat.le_refl _) _ _ _ _) _ | exact below_store4 (below_more hbw _) (Nat.le_refl _) _ _ _ _
set_option maxHeartbeats 4000000 in
theorem rfind_12 (m o : Int) (A U : ByteArray) (w : World) (q1 : ¬ 9223372036854775807 < A.size + 1) (q2 : ¬ 9223372036854775807 < (A ++ (⟨#[32]⟩ : ByteArray)).size + U.size) (hM : ∀ w, Calls Tryd.prog 38 #[.int .i64 m] w fun e w' => e = .returned (.string A) ∧ Below w.heap.size w w') (hO : ∀ w, Calls Tryd.prog 39 #[.int .i64 o] w fun e w' => e = .returned (.string U) ∧ Below w.heap.size w w') (e0 : ((A ++ (⟨#[32]⟩ : ByteArray) ++ U).toList == [114, 101, 103, 32, 119, 114, 105, 116, 101]) = false) (e2 : ((A ++ (⟨#[32]⟩ : ByteArray) ++ U).toList == [99, 97, 115, 32, 119, 114, 105, 116, 101]) = false) (e5 : ((A ++ (⟨#[32]⟩ : ByteArray) ++ U).toList == [115, 101, 116, 32, 97, 100, 100]) = false) (e6 : ((A ++ (⟨#[32]⟩ : ByteArray) ++ U).toList == [115, 101, 116, 32, 100, 101, 108]) = false) (e11 : ((A ++ (⟨#[32]⟩ : ByteArray) ++ U).toList == [102, 105, 102, 111, 32, 112, 117, 115, 104]) = false) (e13 : ((A ++ (⟨#[32]⟩ : ByteArray) ++ U).toList == [115, 116, 97, 99, 107, 32, 112, 117, 115, 104]) = false) (e1 : ((A ++ (⟨#[32]⟩ : ByteArray) ++ U).toList == [114, 101, 103, 32, 114, 101, 97, 100]) = false) (e3 : ((A ++ (⟨#[32]⟩ : ByteArray) ++ U).toList == [99, 97, 115, 32, 114, 101, 97, 100]) = false) (e12 : ((A ++ (⟨#[32]⟩ : ByteArray) ++ U).toList == [102, 105, 102, 111, 32, 112, 111, 112]) = true) :
    Calls Tryd.prog 34 #[.int .i64 m, .int .i64 o] w fun e w' => RD w [] (2) true true e w' := by
  have S0 := SBox.new w 67
  have hb0 := below_box w (.cells #[.slice none 0 0, .int .i64 0, .bool false, .bool false] 67)
  go_enter Tryd.func34, Tryd.ntmps34
  go_wp2_with fail
  generalize w.alloc (.cells #[.slice none 0 0, .int .i64 0, .bool false, .bool false] 67) = w0 at *
  refine (hM _).mono ?_
  rintro e w1 ⟨rfl, hb1⟩
  go_wp2_with fail
  generalize A ++ (⟨#[32]⟩ : ByteArray) = B at *
  refine (hO _).mono ?_
  rintro e w2 ⟨rfl, hb2⟩
  have hbw := below_next (below_next hb0 hb1) hb2
  obtain ⟨hp, c0, c1, c2, c3, f0, f1, f2, f3⟩ := (S0.later hb1).later hb2
  have hne : ¬ w.heap.size = w2.heap.size := by omega
  have hne2 : ¬ w2.heap.size = w.heap.size := by omega
  clear S0 hb0 hb1 hb2 hM hO
  go_wp2
  refine bodyPost_ret (v := .agg #[.slice none 0 0, .int .i64 (2), .bool true, .bool true]) (by simp [results, Tryd.f34, go_sem, hne, hne2, c0, c1, c2, c3, f0, f1, f2, f3, hp]) rfl ?_
  exact ⟨_, rfl, ISl.nil _, below_store4 hbw (Nat.le_refl _) _ _ _ _⟩
set_option maxHeartbeats 4000000 in
theorem rfind_13 (m o : Int) (A U : ByteArray) (w : World) (q1 : ¬ 9223372036854775807 < A.size + 1) (q2 : ¬ 9223372036854775807 < (A ++ (⟨#[32]⟩ : ByteArray)).size + U.size) (hM : ∀ w, Calls Tryd.prog 38 #[.int .i64 m] w fun e w' => e = .returned (.string A) ∧ Below w.heap.size w w') (hO : ∀ w, Calls Tryd.prog 39 #[.int .i64 o] w fun e w' => e = .returned (.string U) ∧ Below w.heap.size w w') (e0 : ((A ++ (⟨#[32]⟩ : ByteArray) ++ U).toList == [114, 101, 103, 32, 119, 114, 105, 116, 101]) = false) (e2 : ((A ++ (⟨#[32]⟩ : ByteArray) ++ U).toList == [99, 97, 115, 32, 119, 114, 105, 116, 101]) = false) (e5 : ((A ++ (⟨#[32]⟩ : ByteArray) ++ U).toList == [115, 101, 116, 32, 97, 100, 100]) = false) (e6 : ((A ++ (⟨#[32]⟩ : ByteArray) ++ U).toList == [115, 101, 116, 32, 100, 101, 108]) = false) (e11 : ((A ++ (⟨#[32]⟩ : ByteArray) ++ U).toList == [102, 105, 102, 111, 32, 112, 117, 115, 104]) = false) (e13 : ((A ++ (⟨#[32]⟩ : ByteArray) ++ U).toList == [115, 116, 97, 99, 107, 32, 112, 117, 115, 104]) = true) :
    Calls Tryd.prog 34 #[.int .i64 m, .int .i64 o] w fun e w' => RD w [2] (-1) false true e w' := by
  have S0 := SBox.new w 67
  have hb0 := below_box w (.cells #[.slice none 0 0, .int .i64 0, .bool false, .bool false] 67)
  go_enter Tryd.func34, Tryd.ntmps34
  go_wp2_with fail
  generalize w.alloc (.cells #[.slice none 0 0, .int .i64 0, .bool false, .bool false] 67) = w0 at *
  refine (hM _).mono ?_
  rintro e w1 ⟨rfl, hb1⟩
  go_wp2_with fail
  generalize A ++ (⟨#[32]⟩ : ByteArray) = B at *
  refine (hO _).mono ?_
  rintro e w2 ⟨rfl, hb2⟩
  have hbw := below_next (below_next hb0 hb1) hb2
  obtain ⟨hp, c0, c1, c2, c3, f0, f1, f2, f3⟩ := (S0.later hb1).later hb2
  have hne : ¬ w.heap.size = w2.heap.size := by omega
  have hne2 : ¬ w2.heap.size = w.heap.size := by omega
  clear S0 hb0 hb1 hb2 hM hO
  go_wp2
  refine bodyPost_ret (v := .agg #[.slice (some ⟨w2.heap.size, 0, none⟩) 1 1, .int .i64 (-1), .bool false, .bool true]) (by simp [results, Tryd.f34, go_sem, hne, hne2, c0, c1, c2, c3, f0, f1, f2, f3, hp]) rfl ?_
  refine ⟨_, rfl, ?_, ?_⟩
  · refine isl_1 ?_ ?_ <;> first | (simp [hne, hne2]; done) | (simp [World.cell?, hne, hne2]; done) | (go_simp; done)
  first | exact below_more (below_store4 hbw (Nat.le_refl _) _ _ _ _) _ | exact below_store4 (below_more hbw _) (Nat.le_refl _) _ _ _ _
set_option maxHeartbeats 4000000 in
theorem rfind_14 (m o : Int) (A U : ByteArray) (w : World) (q1 : ¬ 9223372036854775807 < A.size + 1) (q2 : ¬ 9223372036854775807 < (A ++ (⟨#[32]⟩ : ByteArray)).size + U.size) (hM : ∀ w, Calls Tryd.prog 38 #[.int .i64 m] w fun e w' => e = .returned (.string A) ∧ Below w.heap.size w w') (hO : ∀ w, Calls Tryd.prog 39 #[.int .i64 o] w fun e w' => e = .returned (.string U) ∧ Below w.heap.size w w') (e0 : ((A ++ (⟨#[32]⟩ : ByteArray) ++ U).toList == [114, 101, 103, 32, 119, 114, 105, 116, 101]) = false) (e2 : ((A ++ (⟨#[32]⟩ : ByteArray) ++ U).toList == [99, 97, 115, 32, 119, 114, 105, 116, 101]) = false) (e5 : ((A ++ (⟨#[32]⟩ : ByteArray) ++ U).toList == [115, 101, 116, 32, 97, 100, 100]) = false) (e6 : ((A ++ (⟨#[32]⟩ : ByteArray) ++ U).toList == [115, 101, 116, 32, 100, 101, 108]) = false) (e11 : ((A ++ (⟨#[32]⟩ : ByteArray) ++ U).toList == [102, 105, 102, 111, 32, 112, 117, 115, 104]) = false) (e13 : ((A ++ (⟨#[32]⟩ : ByteArray) ++ U).toList == [115, 116, 97, 99, 107, 32, 112, 117, 115, 104]) = false) (e1 : ((A ++ (⟨#[32]⟩ : ByteArray) ++ U).toList == [114, 101, 103, 32, 114, 101, 97, 100]) = false) (e3 : ((A ++ (⟨#[32]⟩ : ByteArray) ++ U).toList == [99, 97, 115, 32, 114, 101, 97, 100]) = false) (e12 : ((A ++ (⟨#[32]⟩ : ByteArray) ++ U).toList == [102, 105, 102, 111, 32, 112, 111, 112]) = false) (e14 : ((A ++ (⟨#[32]⟩ : ByteArray) ++ U).toList == [115, 116, 97, 99, 107, 32, 112, 111, 112]) = true) :
    Calls Tryd.prog 34 #[.int .i64 m, .int .i64 o] w fun e w' => RD w [] (2) true true e w' := by
  have S0 := SBox.new w 67
  have hb0 := below_box w (.cells #[.slice none 0 0, .int .i64 0, .bool false, .bool false] 67)
  go_enter Tryd.func34, Tryd.ntmps34
  go_wp2_with fail
  generalize w.alloc (.cells #[.slice none 0 0, .int .i64 0, .bool false, .bool false] 67) = w0 at *
  refine (hM _).mono ?_
  rintro e w1 ⟨rfl, hb1⟩
  go_wp2_with fail
  generalize A ++ (⟨#[32]⟩ : ByteArray) = B at *
  refine (hO _).mono ?_
  rintro e w2 ⟨rfl, hb2⟩
  have hbw := below_next (below_next hb0 hb1) hb2
  obtain ⟨hp, c0, c1, c2, c3, f0, f1, f2, f3⟩ := (S0.later hb1).later hb2
  have hne : ¬ w.heap.size = w2.heap.size := by omega
  have hne2 : ¬ w2.heap.size = w.heap.size := by omega
  clear S0 hb0 hb1 hb2 hM hO
  go_wp2
  refine bodyPost_ret (v := .agg #[.slice none 0 0, .int .i64 (2), .bool true, .bool true]) (by simp [results, Tryd.f34, go_sem, hne, hne2, c0, c1, c2, c3, f0, f1, f2, f3, hp]) rfl ?_
  exact ⟨_, rfl, ISl.nil _, below_store4 hbw (Nat.le_refl _) _ _ _ _⟩
set_option maxHeartbeats 4000000 in
theorem rfind_15 (m o : Int) (A U : ByteArray) (w : World) (q1 : ¬ 9223372036854775807 < A.size + 1) (q2 : ¬ 9223372036854775807 < (A ++ (⟨#[32]⟩ : ByteArray)).size + U.size) (hM : ∀ w, Calls Tryd.prog 38 #[.int .i64 m] w fun e w' => e = .returned (.string A) ∧ Below w.heap.size w w') (hO : ∀ w, Calls Tryd.prog 39 #[.int .i64 o] w fun e w' => e = .returned (.string U) ∧ Below w.heap.size w w') (e0 : ((A ++ (⟨#[32]⟩ : ByteArray) ++ U).toList == [114, 101, 103, 32, 119, 114, 105, 116, 101]) = false) (e2 : ((A ++ (⟨#[32]⟩ : ByteArray) ++ U).toList == [99, 97, 115, 32, 119, 114, 105, 116, 101]) = false) (e5 : ((A ++ (⟨#[32]⟩ : ByteArray) ++ U).toList == [115, 101, 116, 32, 97, 100, 100]) = false) (e6 : ((A ++ (⟨#[32]⟩ : ByteArray) ++ U).toList == [115, 101, 116, 32, 100, 101, 108]) = false) (e11 : ((A ++ (⟨#[32]⟩ : ByteArray) ++ U).toList == [102, 105, 102, 111, 32, 112, 117, 115, 104]) = false) (e13 : ((A ++ (⟨#[32]⟩ : ByteArray) ++ U).toList == [115, 116, 97, 99, 107, 32, 112, 117, 115, 104]) = false) (e1 : ((A ++ (⟨#[32]⟩ : ByteArray) ++ U).toList == [114, 101, 103, 32, 114, 101, 97, 100]) = false) (e3 : ((A ++ (⟨#[32]⟩ : ByteArray) ++ U).toList == [99, 97, 115, 32, 114, 101, 97, 100]) = false) (e12 : ((A ++ (⟨#[32]⟩ : ByteArray) ++ U).toList == [102, 105, 102, 111, 32, 112, 111, 112]) = false) (e14 : ((A ++ (⟨#[32]⟩ : ByteArray) ++ U).toList == [115, 116, 97, 99, 107, 32, 112, 111, 112]) = false) (e4 : ((A ++ (⟨#[32]⟩ : ByteArray) ++ U).toList == [99, 97, 115, 32, 115, 119, 97, 112]) = false) (e7 : ((A ++ (⟨#[32]⟩ : ByteArray) ++ U).toList == [115, 101, 116, 32, 104, 97, 115]) = false) (e8 : ((A ++ (⟨#[32]⟩ : ByteArray) ++ U).toList == [109, 97, 112, 32, 112, 117, 116]) = false) (e9 : ((A ++ (⟨#[32]⟩ : ByteArray) ++ U).toList == [109, 97, 112, 32, 103, 101, 116]) = false) (e10 : ((A ++ (⟨#[32]⟩ : ByteArray) ++ U).toList == [109, 97, 112, 32, 100, 101, 108]) = false) (e15 : ((A ++ (⟨#[32]⟩ : ByteArray) ++ U).toList == [108, 111, 99, 107, 32, 116, 97, 107, 101]) = true) :
    Calls Tryd.prog 34 #[.int .i64 m, .int .i64 o] w fun e w' => RD w [] (6) false true e w' := by
  have S0 := SBox.new w 67
  have hb0 := below_box w (.cells #[.slice none 0 0, .int .i64 0, .bool false, .bool false] 67)
  go_enter Tryd.func34, Tryd.ntmps34
  go_wp2_with fail
  generalize w.alloc (.cells #[.slice none 0 0, .int .i64 0, .bool false, .bool false] 67) = w0 at *
  refine (hM _).mono ?_
  rintro e w1 ⟨rfl, hb1⟩
  go_wp2_with fail
  generalize A ++ (⟨#[32]⟩ : ByteArray) = B at *
  refine (hO _).mono ?_
  rintro e w2 ⟨rfl, hb2⟩
  have hbw := below_next (below_next hb0 hb1) hb2
  obtain ⟨hp, c0, c1, c2, c3, f0, f1, f2, f3⟩ := (S0.later hb1).later hb2
  have hne : ¬ w.heap.size = w2.heap.size := by omega
  have hne2 : ¬ w2.heap.size = w.heap.size := by omega
  clear S0 hb0 hb1 hb2 hM hO
  go_wp2
  refine bodyPost_ret (v := .agg #[.slice none 0 0, .int .i64 (6), .bool false, .bool true]) (by simp [results, Tryd.f34, go_sem, hne, hne2, c0, c1, c2, c3, f0, f1, f2, f3, hp]) rfl ?_
  exact ⟨_, rfl, ISl.nil _, below_store4 hbw (Nat.le_refl _) _ _ _ _⟩
set_option maxHeartbeats 4000000 in
theorem rfind_16 (m o : Int) (A U : ByteArray) (w : World) (q1 : ¬ 9223372036854775807 < A.size + 1) (q2 : ¬ 9223372036854775807 < (A ++ (⟨#[32]⟩ : ByteArray)).size + U.size) (hM : ∀ w, Calls Tryd.prog 38 #[.int .i64 m] w fun e w' => e = .returned (.string A) ∧ Below w.heap.size w w') (hO : ∀ w, Calls Tryd.prog 39 #[.int .i64 o] w fun e w' => e = .returned (.string U) ∧ Below w.heap.size w w') (e0 : ((A ++ (⟨#[32]⟩ : ByteArray) ++ U).toList == [114, 101, 103, 32, 119, 114, 105, 116, 101]) = false) (e2 : ((A ++ (⟨#[32]⟩ : ByteArray) ++ U).toList == [99, 97, 115, 32, 119, 114, 105, 116, 101]) = false) (e5 : ((A ++ (⟨#[32]⟩ : ByteArray) ++ U).toList == [115, 101, 116, 32, 97, 100, 100]) = false) (e6 : ((A ++ (⟨#[32]⟩ : ByteArray) ++ U).toList == [115, 101, 116, 32, 100, 101, 108]) = false) (e11 : ((A ++ (⟨#[32]⟩ : ByteArray) ++ U).toList == [102, 105, 102, 111, 32, 112, 117, 115, 104]) = false) (e13 : ((A ++ (⟨#[32]⟩ : ByteArray) ++ U).toList == [115, 116, 97, 99, 107, 32, 112, 117, 115, 104]) = false) (e1 : ((A ++ (⟨#[32]⟩ : ByteArray) ++ U).toList == [114, 101, 103, 32, 114, 101, 97, 100]) = false) (e3 : ((A ++ (⟨#[32]⟩ : ByteArray) ++ U).toList == [99, 97, 115, 32, 114, 101, 97, 100]) = false) (e12 : ((A ++ (⟨#[32]⟩ : ByteArray) ++ U).toList == [102, 105, 102, 111, 32, 112, 111, 112]) = false) (e14 : ((A ++ (⟨#[32]⟩ : ByteArray) ++ U).toList == [115, 116, 97, 99, 107, 32, 112, 111, 112]) = false) (e4 : ((A ++ (⟨#[32]⟩ : ByteArray) ++ U).toList == [99, 97, 115, 32, 115, 119, 97, 112]) = false) (e7 : ((A ++ (⟨#[32]⟩ : ByteArray) ++ U).toList == [115, 101, 116, 32, 104, 97, 115]) = false) (e8 : ((A ++ (⟨#[32]⟩ : ByteArray) ++ U).toList == [109, 97, 112, 32, 112, 117, 116]) = false) (e9 : ((A ++ (⟨#[32]⟩ : ByteArray) ++ U).toList == [109, 97, 112, 32, 103, 101, 116]) = false) (e10 : ((A ++ (⟨#[32]⟩ : ByteArray) ++ U).toList == [109, 97, 112, 32, 100, 101, 108]) = false) (e15 : ((A ++ (⟨#[32]⟩ : ByteArray) ++ U).toList == [108, 111, 99, 107, 32, 116, 97, 107, 101]) = false) (e16 : ((A ++ (⟨#[32]⟩ : ByteArray) ++ U).toList == [108, 111, 99, 107, 32, 102, 114, 101, 101]) = true) :
    Calls Tryd.prog 34 #[.int .i64 m, .int .i64 o] w fun e w' => RD w [] (6) false true e w' := by
  have S0 := SBox.new w 67
  have hb0 := below_box w (.cells #[.slice none 0 0, .int .i64 0, .bool false, .bool false] 67)
  go_enter Tryd.func34, Tryd.ntmps34
  go_wp2_with fail
  generalize w.alloc (.cells #[.slice none 0 0, .int .i64 0, .bool false, .bool false] 67) = w0 at *
  refine (hM _).mono ?_
  rintro e w1 ⟨rfl, hb1⟩
  go_wp2_with fail
  generalize A ++ (⟨#[32]⟩ : ByteArray) = B at *
  refine (hO _).mono ?_
  rintro e w2 ⟨rfl, hb2⟩
  have hbw := below_next (below_next hb0 hb1) hb2
  obtain ⟨hp, c0, c1, c2, c3, f0, f1, f2, f3⟩ := (S0.later hb1).later hb2
  have hne : ¬ w.heap.size = w2.heap.size := by omega
  have hne2 : ¬ w2.heap.size = w.heap.size := by omega
  clear S0 hb0 hb1 hb2 hM hO
  go_wp2
  refine bodyPost_ret (v := .agg #[.slice none 0 0, .int .i64 (6), .bool false, .bool true]) (by simp [results, Tryd.f34, go_sem, hne, hne2, c0, c1, c2, c3, f0, f1, f2, f3, hp]) rfl ?_
  exact ⟨_, rfl, ISl.nil _, below_store4 hbw (Nat.le_refl _) _ _ _ _⟩
set_option maxHeartbeats 4000000 in
theorem rfind_17 (m o : Int) (A U : ByteArray) (w : World) (q1 : ¬ 9223372036854775807 < A.size + 1) (q2 : ¬ 9223372036854775807 < (A ++ (⟨#[32]⟩ : ByteArray)).size + U.size) (hM : ∀ w, Calls Tryd.prog 38 #[.int .i64 m] w fun e w' => e = .returned (.string A) ∧ Below w.heap.size w w') (hO : ∀ w, Calls Tryd.prog 39 #[.int .i64 o] w fun e w' => e = .returned (.string U) ∧ Below w.heap.size w w') (e0 : ((A ++ (⟨#[32]⟩ : ByteArray) ++ U).toList == [114, 101, 103, 32, 119, 114, 105, 116, 101]) = false) (e2 : ((A ++ (⟨#[32]⟩ : ByteArray) ++ U).toList == [99, 97, 115, 32, 119, 114, 105, 116, 101]) = false) (e5 : ((A ++ (⟨#[32]⟩ : ByteArray) ++ U).toList == [115, 101, 116, 32, 97, 100, 100]) = false) (e6 : ((A ++ (⟨#[32]⟩ : ByteArray) ++ U).toList == [115, 101, 116, 32, 100, 101, 108]) = false) (e11 : ((A ++ (⟨#[32]⟩ : ByteArray) ++ U).toList == [102, 105, 102, 111, 32, 112, 117, 115, 104]) = false) (e13 : ((A ++ (⟨#[32]⟩ : ByteArray) ++ U).toList == [115, 116, 97, 99, 107, 32, 112, 117, 115, 104]) = false) (e1 : ((A ++ (⟨#[32]⟩ : ByteArray) ++ U).toList == [114, 101, 103, 32, 114, 101, 97, 100]) = false) (e3 : ((A ++ (⟨#[32]⟩ : ByteArray) ++ U).toList == [99, 97, 115, 32, 114, 101, 97, 100]) = false) (e12 : ((A ++ (⟨#[32]⟩ : ByteArray) ++ U).toList == [102, 105, 102, 111, 32, 112, 111, 112]) = false) (e14 : ((A ++ (⟨#[32]⟩ : ByteArray) ++ U).toList == [115, 116, 97, 99, 107, 32, 112, 111, 112]) = false) (e4 : ((A ++ (⟨#[32]⟩ : ByteArray) ++ U).toList == [99, 97, 115, 32, 115, 119, 97, 112]) = false) (e7 : ((A ++ (⟨#[32]⟩ : ByteArray) ++ U).toList == [115, 101, 116, 32, 104, 97, 115]) = false) (e8 : ((A ++ (⟨#[32]⟩ : ByteArray) ++ U).toList == [109, 97, 112, 32, 112, 117, 116]) = false) (e9 : ((A ++ (⟨#[32]⟩ : ByteArray) ++ U).toList == [109, 97, 112, 32, 103, 101, 116]) = false) (e10 : ((A ++ (⟨#[32]⟩ : ByteArray) ++ U).toList == [109, 97, 112, 32, 100, 101, 108]) = false) (e15 : ((A ++ (⟨#[32]⟩ : ByteArray) ++ U).toList == [108, 111, 99, 107, 32, 116, 97, 107, 101]) = false) (e16 : ((A ++ (⟨#[32]⟩ : ByteArray) ++ U).toList == [108, 111, 99, 107, 32, 102, 114, 101, 101]) = false) (e17 : ((A ++ (⟨#[32]⟩ : ByteArray) ++ U).toList == [99, 111, 117, 110, 116, 32, 97, 100, 100]) = true) :
    Calls Tryd.prog 34 #[.int .i64 m, .int .i64 o] w fun e w' => RD w [5] (-1) false true e w' := by
  have S0 := SBox.new w 67
  have hb0 := below_box w (.cells #[.slice none 0 0, .int .i64 0, .bool false, .bool false] 67)
  go_enter Tryd.func34, Tryd.ntmps34
  go_wp2_with fail
  generalize w.alloc (.cells #[.slice none 0 0, .int .i64 0, .bool false, .bool false] 67) = w0 at *
  refine (hM _).mono ?_
  rintro e w1 ⟨rfl, hb1⟩
  go_wp2_with fail
  generalize A ++ (⟨#[32]⟩ : ByteArray) = B at *
  refine (hO _).mono ?_
  rintro e w2 ⟨rfl, hb2⟩
  have hbw := below_next (below_next hb0 hb1) hb2
  obtain ⟨hp, c0, c1, c2, c3, f0, f1, f2, f3⟩ := (S0.later hb1).later hb2
  have hne : ¬ w.heap.size = w2.heap.size := by omega
  have hne2 : ¬ w2.heap.size = w.heap.size := by omega
  clear S0 hb0 hb1 hb2 hM hO
  go_wp2
  refine bodyPost_ret (v := .agg #[.slice (some ⟨w2.heap.size, 0, none⟩) 1 1, .int .i64 (-1), .bool false, .bool true]) (by simp [results, Tryd.f34, go_sem, hne, hne2, c0, c1, c2, c3, f0, f1, f2, f3, hp]) rfl ?_
  refine ⟨_, rfl, ?_, ?_⟩
  · refine isl_1 ?_ ?_ <;> first | (simp [hne, hne2]; done) | (simp [World.cell?, hne, hne2]; done) | (go_simp; done)
  first | exact below_more (below_store4 hbw (Nat.le_refl _) _ _ _ _) _ | exact below_store4 (below_more hbw _) (Nat.le_refl _) _ _ _ _
set_option maxHeartbeats 4000000 in
theorem rfind_18 (m o : Int) (A U : ByteArray) (w : World) (q1 : ¬ 9223372036854775807 < A.size + 1) (q2 : ¬ 9223372036854775807 < (A ++ (⟨#[32]⟩ : ByteArray)).size + U.size) (hM : ∀ w, Calls Tryd.prog 38 #[.int .i64 m] w fun e w' => e = .returned (.string A) ∧ Below w.heap.size w w') (hO : ∀ w, Calls Tryd.prog 39 #[.int .i64 o] w fun e w' => e = .returned (.string U) ∧ Below w.heap.size w w') (e0 : ((A ++ (⟨#[32]⟩ : ByteArray) ++ U).toList == [114, 101, 103, 32, 119, 114, 105, 116, 101]) = false) (e2 : ((A ++ (⟨#[32]⟩ : ByteArray) ++ U).toList == [99, 97, 115, 32, 119, 114, 105, 116, 101]) = false) (e5 : ((A ++ (⟨#[32]⟩ : ByteArray) ++ U).toList == [115, 101, 116, 32, 97, 100, 100]) = false) (e6 : ((A ++ (⟨#[32]⟩ : ByteArray) ++ U).toList == [115, 101, 116, 32, 100, 101, 108]) = false) (e11 : ((A ++ (⟨#[32]⟩ : ByteArray) ++ U).toList == [102, 105, 102, 111, 32, 112, 117, 115, 104]) = false) (e13 : ((A ++ (⟨#[32]⟩ : ByteArray) ++ U).toList == [115, 116, 97, 99, 107, 32, 112, 117, 115, 104]) = false) (e1 : ((A ++ (⟨#[32]⟩ : ByteArray) ++ U).toList == [114, 101, 103, 32, 114, 101, 97, 100]) = false) (e3 : ((A ++ (⟨#[32]⟩ : ByteArray) ++ U).toList == [99, 97, 115, 32, 114, 101, 97, 100]) = false) (e12 : ((A ++ (⟨#[32]⟩ : ByteArray) ++ U).toList == [102, 105, 102, 111, 32, 112, 111, 112]) = false) (e14 : ((A ++ (⟨#[32]⟩ : ByteArray) ++ U).toList == [115, 116, 97, 99, 107, 32, 112, 111, 112]) = false) (e4 : ((A ++ (⟨#[32]⟩ : ByteArray) ++ U).toList == [99, 97, 115, 32, 115, 119, 97, 112]) = false) (e7 : ((A ++ (⟨#[32]⟩ : ByteArray) ++ U).toList == [115, 101, 116, 32, 104, 97, 115]) = false) (e8 : ((A ++ (⟨#[32]⟩ : ByteArray) ++ U).toList == [109, 97, 112, 32, 112, 117, 116]) = false) (e9 : ((A ++ (⟨#[32]⟩ : ByteArray) ++ U).toList == [109, 97, 112, 32, 103, 101, 116]) = false) (e10 : ((A ++ (⟨#[32]⟩ : ByteArray) ++ U).toList == [109, 97, 112, 32, 100, 101, 108]) = false) (e15 : ((A ++ (⟨#[32]⟩ : ByteArray) ++ U).toList == [108, 111, 99, 107, 32, 116, 97, 107, 101]) = false) (e16 : ((A ++ (⟨#[32]⟩ : ByteArray) ++ U).toList == [108, 111, 99, 107, 32, 102, 114, 101, 101]) = false) (e17 : ((A ++ (⟨#[32]⟩ : ByteArray) ++ U).toList == [99, 111, 117, 110, 116, 32, 97, 100, 100]) = false) (e18 : ((A ++ (⟨#[32]⟩ : ByteArray) ++ U).toList == [99, 111, 117, 110, 116, 32, 114, 101, 97, 100]) = true) :
    Calls Tryd.prog 34 #[.int .i64 m, .int .i64 o] w fun e w' => RD w [] (5) false true e w' := by
  have S0 := SBox.new w 67
  have hb0 := below_box w (.cells #[.slice none 0 0, .int .i64 0, .bool false, .bool false] 67)
  go_enter Tryd.func34, Tryd.ntmps34
  go_wp2_with fail
  generalize w.alloc (.cells #[.slice none 0 0, .int .i64 0, .bool false, .bool false] 67) = w0 at *
  refine (hM _).mono ?_
  rintro e w1 ⟨rfl, hb1⟩
  go_wp2_with fail
  generalize A ++ (⟨#[32]⟩ : ByteArray) = B at *
  refine (hO _).mono ?_
  rintro e w2 ⟨rfl, hb2⟩
  have hbw := below_next (below_next hb0 hb1) hb2
  obtain ⟨hp, c0, c1, c2, c3, f0, f1, f2, f3⟩ := (S0.later hb1).later hb2
  have hne : ¬ w.heap.size = w2.heap.size := by omega
  have hne2 : ¬ w2.heap.size = w.heap.size := by omega
  clear S0 hb0 hb1 hb2 hM hO
  go_wp2
  refine bodyPost_ret (v := .agg #[.slice none 0 0, .int .i64 (5), .bool false, .bool true]) (by simp [results, Tryd.f34, go_sem, hne, hne2, c0, c1, c2, c3, f0, f1, f2, f3, hp]) rfl ?_
  exact ⟨_, rfl, ISl.nil _, below_store4 hbw (Nat.le_refl _) _ _ _ _⟩
set_option maxHeartbeats 4000000 in
theorem rfind_19 (m o : Int) (A U : ByteArray) (w : World) (q1 : ¬ 9223372036854775807 < A.size + 1) (q2 : ¬ 9223372036854775807 < (A ++ (⟨#[32]⟩ : ByteArray)).size + U.size) (hM : ∀ w, Calls Tryd.prog 38 #[.int .i64 m] w fun e w' => e = .returned (.string A) ∧ Below w.heap.size w w') (hO : ∀ w, Calls Tryd.prog 39 #[.int .i64 o] w fun e w' => e = .returned (.string U) ∧ Below w.heap.size w w') (e0 : ((A ++ (⟨#[32]⟩ : ByteArray) ++ U).toList == [114, 101, 103, 32, 119, 114, 105, 116, 101]) = false) (e2 : ((A ++ (⟨#[32]⟩ : ByteArray) ++ U).toList == [99, 97, 115, 32, 119, 114, 105, 116, 101]) = false) (e5 : ((A ++ (⟨#[32]⟩ : ByteArray) ++ U).toList == [115, 101, 116, 32, 97, 100, 100]) = false) (e6 : ((A ++ (⟨#[32]⟩ : ByteArray) ++ U).toList == [115, 101, 116, 32, 100, 101, 108]) = false) (e11 : ((A ++ (⟨#[32]⟩ : ByteArray) ++ U).toList == [102, 105, 102, 111, 32, 112, 117, 115, 104]) = false) (e13 : ((A ++ (⟨#[32]⟩ : ByteArray) ++ U).toList == [115, 116, 97, 99, 107, 32, 112, 117, 115, 104]) = false) (e1 : ((A ++ (⟨#[32]⟩ : ByteArray) ++ U).toList == [114, 101, 103, 32, 114, 101, 97, 100]) = false) (e3 : ((A ++ (⟨#[32]⟩ : ByteArray) ++ U).toList == [99, 97, 115, 32, 114, 101, 97, 100]) = false) (e12 : ((A ++ (⟨#[32]⟩ : ByteArray) ++ U).toList == [102, 105, 102, 111, 32, 112, 111, 112]) = false) (e14 : ((A ++ (⟨#[32]⟩ : ByteArray) ++ U).toList == [115, 116, 97, 99, 107, 32, 112, 111, 112]) = false) (e4 : ((A ++ (⟨#[32]⟩ : ByteArray) ++ U).toList == [99, 97, 115, 32, 115, 119, 97, 112]) = false) (e7 : ((A ++ (⟨#[32]⟩ : ByteArray) ++ U).toList == [115, 101, 116, 32, 104, 97, 115]) = false) (e8 : ((A ++ (⟨#[32]⟩ : ByteArray) ++ U).toList == [109, 97, 112, 32, 112, 117, 116]) = false) (e9 : ((A ++ (⟨#[32]⟩ : ByteArray) ++ U).toList == [109, 97, 112, 32, 103, 101, 116]) = false) (e10 : ((A ++ (⟨#[32]⟩ : ByteArray) ++ U).toList == [109, 97, 112, 32, 100, 101, 108]) = false) (e15 : ((A ++ (⟨#[32]⟩ : ByteArray) ++ U).toList == [108, 111, 99, 107, 32, 116, 97, 107, 101]) = false) (e16 : ((A ++ (⟨#[32]⟩ : ByteArray) ++ U).toList == [108, 111, 99, 107, 32, 102, 114, 101, 101]) = false) (e17 : ((A ++ (⟨#[32]⟩ : ByteArray) ++ U).toList == [99, 111, 117, 110, 116, 32, 97, 100, 100]) = false) (e18 : ((A ++ (⟨#[32]⟩ : ByteArray) ++ U).toList == [99, 111, 117, 110, 116, 32, 114, 101, 97, 100]) = false) (e19 : ((A ++ (⟨#[32]⟩ : ByteArray) ++ U).toList == [109, 97, 120, 32, 119, 114, 105, 116, 101]) = true) :
    Calls Tryd.prog 34 #[.int .i64 m, .int .i64 o] w fun e w' => RD w [4] (-1) false true e w' := by
  have S0 := SBox.new w 67
  have hb0 := below_box w (.cells #[.slice none 0 0, .int .i64 0, .bool false, .bool false] 67)
  go_enter Tryd.func34, Tryd.ntmps34
  go_wp2_with fail
  generalize w.alloc (.cells #[.slice none 0 0, .int .i64 0, .bool false, .bool false] 67) = w0 at *
  refine (hM _).mono ?_
  rintro e w1 ⟨rfl, hb1⟩
  go_wp2_with fail
  generalize A ++ (⟨#[32]⟩ : ByteArray) = B at *
  refine (hO _).mono ?_
  rintro e w2 ⟨rfl, hb2⟩
  have hbw := below_next (below_next hb0 hb1) hb2
  obtain ⟨hp, c0, c1, c2, c3, f0, f1, f2, f3⟩ := (S0.later hb1).later hb2
  have hne : ¬ w.heap.size = w2.heap.size := by omega
  have hne2 : ¬ w2.heap.size = w.heap.size := by omega
  clear S0 hb0 hb1 hb2 hM hO
  go_wp2
  refine bodyPost_ret (v := .agg #[.slice (some ⟨w2.heap.size, 0, none⟩) 1 1, .int .i64 (-1), .bool false, .bool true]) (by simp [results, Tryd.f34, go_sem, hne, hne2, c0, c1, c2, c3, f0, f1, f2, f3, hp]) rfl ?_
  refine ⟨_, rfl, ?_, ?_⟩
  · refine isl_1 ?_ ?_ <;> first | (simp [hne, hne2]; done) | (simp [World.cell?, hne, hne2]; done) | (go_simp; done)
  first | exact below_more (below_store4 hbw (Nat.le_refl _) _ _ _ _) _ | exact below_store4 (below_more hbw _) (Nat.le_refl _) _ _ _ _
set_option maxHeartbeats 4000000 in
theorem rfind_20 (m o : Int) (A U : ByteArray) (w : World) (q1 : ¬ 9223372036854775807 < A.size + 1) (q2 : ¬ 9223372036854775807 < (A ++ (⟨#[32]⟩ : ByteArray)).size + U.size) (hM : ∀ w, Calls Tryd.prog 38 #[.int .i64 m] w fun e w' => e = .returned (.string A) ∧ Below w.heap.size w w') (hO : ∀ w, Calls Tryd.prog 39 #[.int .i64 o] w fun e w' => e = .returned (.string U) ∧ Below w.heap.size w w') (e0 : ((A ++ (⟨#[32]⟩ : ByteArray) ++ U).toList == [114, 101, 103, 32, 119, 114, 105, 116, 101]) = false) (e2 : ((A ++ (⟨#[32]⟩ : ByteArray) ++ U).toList == [99, 97, 115, 32, 119, 114, 105, 116, 101]) = false) (e5 : ((A ++ (⟨#[32]⟩ : ByteArray) ++ U).toList == [115, 101, 116, 32, 97, 100, 100]) = false) (e6 : ((A ++ (⟨#[32]⟩ : ByteArray) ++ U).toList == [115, 101, 116, 32, 100, 101, 108]) = false) (e11 : ((A ++ (⟨#[32]⟩ : ByteArray) ++ U).toList == [102, 105, 102, 111, 32, 112, 117, 115, 104]) = false) (e13 : ((A ++ (⟨#[32]⟩ : ByteArray) ++ U).toList == [115, 116, 97, 99, 107, 32, 112, 117, 115, 104]) = false) (e1 : ((A ++ (⟨#[32]⟩ : ByteArray) ++ U).toList == [114, 101, 103, 32, 114, 101, 97, 100]) = false) (e3 : ((A ++ (⟨#[32]⟩ : ByteArray) ++ U).toList == [99, 97, 115, 32, 114, 101, 97, 100]) = false) (e12 : ((A ++ (⟨#[32]⟩ : ByteArray) ++ U).toList == [102, 105, 102, 111, 32, 112, 111, 112]) = false) (e14 : ((A ++ (⟨#[32]⟩ : ByteArray) ++ U).toList == [115, 116, 97, 99, 107, 32, 112, 111, 112]) = false) (e4 : ((A ++ (⟨#[32]⟩ : ByteArray) ++ U).toList == [99, 97, 115, 32, 115, 119, 97, 112]) = false) (e7 : ((A ++ (⟨#[32]⟩ : ByteArray) ++ U).toList == [115, 101, 116, 32, 104, 97, 115]) = false) (e8 : ((A ++ (⟨#[32]⟩ : ByteArray) ++ U).toList == [109, 97, 112, 32, 112, 117, 116]) = false) (e9 : ((A ++ (⟨#[32]⟩ : ByteArray) ++ U).toList == [109, 97, 112, 32, 103, 101, 116]) = false) (e10 : ((A ++ (⟨#[32]⟩ : ByteArray) ++ U).toList == [109, 97, 112, 32, 100, 101, 108]) = false) (e15 : ((A ++ (⟨#[32]⟩ : ByteArray) ++ U).toList == [108, 111, 99, 107, 32, 116, 97, 107, 101]) = false) (e16 : ((A ++ (⟨#[32]⟩ : ByteArray) ++ U).toList == [108, 111, 99, 107, 32, 102, 114, 101, 101]) = false) (e17 : ((A ++ (⟨#[32]⟩ : ByteArray) ++ U).toList == [99, 111, 117, 110, 116, 32, 97, 100, 100]) = false) (e18 : ((A ++ (⟨#[32]⟩ : ByteArray) ++ U).toList == [99, 111, 117, 110, 116, 32, 114, 101, 97, 100]) = false) (e19 : ((A ++ (⟨#[32]⟩ : ByteArray) ++ U).toList == [109, 97, 120, 32, 119, 114, 105, 116, 101]) = false) (e22 : ((A ++ (⟨#[32]⟩ : ByteArray) ++ U).toList == [111, 109, 97, 112, 32, 100, 101, 108]) = false) (e20 : ((A ++ (⟨#[32]⟩ : ByteArray) ++ U).toList == [109, 97, 120, 32, 114, 101, 97, 100]) = true) :
    Calls Tryd.prog 34 #[.int .i64 m, .int .i64 o] w fun e w' => RD w [] (4) true true e w' := by
  have S0 := SBox.new w 67
  have hb0 := below_box w (.cells #[.slice none 0 0, .int .i64 0, .bool false, .bool false] 67)
  go_enter Tryd.func34, Tryd.ntmps34
  go_wp2_with fail
  generalize w.alloc (.cells #[.slice none 0 0, .int .i64 0, .bool false, .bool false] 67) = w0 at *
  refine (hM _).mono ?_
  rintro e w1 ⟨rfl, hb1⟩
  go_wp2_with fail
  generalize A ++ (⟨#[32]⟩ : ByteArray) = B at *
  refine (hO _).mono ?_
  rintro e w2 ⟨rfl, hb2⟩
  have hbw := below_next (below_next hb0 hb1) hb2
  obtain ⟨hp, c0, c1, c2, c3, f0, f1, f2, f3⟩ := (S0.later hb1).later hb2
  have hne : ¬ w.heap.size = w2.heap.size := by omega
  have hne2 : ¬ w2.heap.size = w.heap.size := by omega
  clear S0 hb0 hb1 hb2 hM hO
  go_wp2
  refine bodyPost_ret (v := .agg #[.slice none 0 0, .int .i64 (4), .bool true, .bool true]) (by simp [results, Tryd.f34, go_sem, hne, hne2, c0, c1, c2, c3, f0, f1, f2, f3, hp]) rfl ?_
  exact ⟨_, rfl, ISl.nil _, below_store4 hbw (Nat.le_refl _) _ _ _ _⟩
set_option maxHeartbeats 4000000 in
theorem rfind_21 (m o : Int) (A U : ByteArray) (w : World) (q1 : ¬ 9223372036854775807 < A.size + 1) (q2 : ¬ 9223372036854775807 < (A ++ (⟨#[32]⟩ : ByteArray)).size + U.size) (hM : ∀ w, Calls Tryd.prog 38 #[.int .i64 m] w fun e w' => e = .returned (.string A) ∧ Below w.heap.size w w') (hO : ∀ w, Calls Tryd.prog 39 #[.int .i64 o] w fun e w' => e = .returned (.string U) ∧ Below w.heap.size w w') (e0 : ((A ++ (⟨#[32]⟩ : ByteArray) ++ U).toList == [114, 101, 103, 32, 119, 114, 105, 116, 101]) = false) (e2 : ((A ++ (⟨#[32]⟩ : ByteArray) ++ U).toList == [99, 97, 115, 32, 119, 114, 105, 116, 101]) = false) (e5 : ((A ++ (⟨#[32]⟩ : ByteArray) ++ U).toList == [115, 101, 116, 32, 97, 100, 100]) = false) (e6 : ((A ++ (⟨#[32]⟩ : ByteArray) ++ U).toList == [115, 101, 116, 32, 100, 101, 108]) = false) (e11 : ((A ++ (⟨#[32]⟩ : ByteArray) ++ U).toList == [102, 105, 102, 111, 32, 112, 117, 115, 104]) = false) (e13 : ((A ++ (⟨#[32]⟩ : ByteArray) ++ U).toList == [115, 116, 97, 99, 107, 32, 112, 117, 115, 104]) = false) (e1 : ((A ++ (⟨#[32]⟩ : ByteArray) ++ U).toList == [114, 101, 103, 32, 114, 101, 97, 100]) = false) (e3 : ((A ++ (⟨#[32]⟩ : ByteArray) ++ U).toList == [99, 97, 115, 32, 114, 101, 97, 100]) = false) (e12 : ((A ++ (⟨#[32]⟩ : ByteArray) ++ U).toList == [102, 105, 102, 111, 32, 112, 111, 112]) = false) (e14 : ((A ++ (⟨#[32]⟩ : ByteArray) ++ U).toList == [115, 116, 97, 99, 107, 32, 112, 111, 112]) = false) (e4 : ((A ++ (⟨#[32]⟩ : ByteArray) ++ U).toList == [99, 97, 115, 32, 115, 119, 97, 112]) = false) (e7 : ((A ++ (⟨#[32]⟩ : ByteArray) ++ U).toList == [115, 101, 116, 32, 104, 97, 115]) = false) (e8 : ((A ++ (⟨#[32]⟩ : ByteArray) ++ U).toList == [109, 97, 112, 32, 112, 117, 116]) = false) (e9 : ((A ++ (⟨#[32]⟩ : ByteArray) ++ U).toList == [109, 97, 112, 32, 103, 101, 116]) = false) (e10 : ((A ++ (⟨#[32]⟩ : ByteArray) ++ U).toList == [109, 97, 112, 32, 100, 101, 108]) = false) (e15 : ((A ++ (⟨#[32]⟩ : ByteArray) ++ U).toList == [108, 111, 99, 107, 32, 116, 97, 107, 101]) = false) (e16 : ((A ++ (⟨#[32]⟩ : ByteArray) ++ U).toList == [108, 111, 99, 107, 32, 102, 114, 101, 101]) = false) (e17 : ((A ++ (⟨#[32]⟩ : ByteArray) ++ U).toList == [99, 111, 117, 110, 116, 32, 97, 100, 100]) = false) (e18 : ((A ++ (⟨#[32]⟩ : ByteArray) ++ U).toList == [99, 111, 117, 110, 116, 32, 114, 101, 97, 100]) = false) (e19 : ((A ++ (⟨#[32]⟩ : ByteArray) ++ U).toList == [109, 97, 120, 32, 119, 114, 105, 116, 101]) = false) (e22 : ((A ++ (⟨#[32]⟩ : ByteArray) ++ U).toList == [111, 109, 97, 112, 32, 100, 101, 108]) = false) (e20 : ((A ++ (⟨#[32]⟩ : ByteArray) ++ U).toList == [109, 97, 120, 32, 114, 101, 97, 100]) = false) (e21 : ((A ++ (⟨#[32]⟩ : ByteArray) ++ U).toList == [111, 109, 97, 112, 32, 112, 117, 116]) = true) :
    Calls Tryd.prog 34 #[.int .i64 m, .int .i64 o] w fun e w' => RD w [4, 2] (-1) false true e w' := by
  have S0 := SBox.new w 67
  have hb0 := below_box w (.cells #[.slice none 0 0, .int .i64 0, .bool false, .bool false] 67)
  go_enter Tryd.func34, Tryd.ntmps34
  go_wp2_with fail
  generalize w.alloc (.cells #[.slice none 0 0, .int .i64 0, .bool false, .bool false] 67) = w0 at *
  refine (hM _).mono ?_
  rintro e w1 ⟨rfl, hb1⟩
  go_wp2_with fail
  generalize A ++ (⟨#[32]⟩ : ByteArray) = B at *
  refine (hO _).mono ?_
  rintro e w2 ⟨rfl, hb2⟩
  have hbw := below_next (below_next hb0 hb1) hb2
  obtain ⟨hp, c0, c1, c2, c3, f0, f1, f2, f3⟩ := (S0.later hb1).later hb2
  have hne : ¬ w.heap.size = w2.heap.size := by omega
  have hne2 : ¬ w2.heap.size = w.heap.size := by omega
  clear S0 hb0 hb1 hb2 hM hO
  go_wp2
  refine bodyPost_ret (v := .agg #[.slice (some ⟨w2.heap.size, 0, none⟩) 2 2, .int .i64 (-1), .bool false, .bool true]) (by simp [results, Tryd.f34, go_sem, hne, hne2, c0, c1, c2, c3, f0, f1, f2, f3, hp]) rfl ?_
  refine ⟨_, rfl, ?_, ?_⟩
  · refine isl_2 ?_ ?_ ?_ <;> first | (simp [hne, hne2]; done) | (simp [World.cell?, hne, hne2]; done) | (go_simp; done)
  first | exact below_more (below_store4 hbw (Nat.le_refl _) _ _ _ _) _ | exact below_store4 (below_more hbw _) (Nat.le_refl _) _ _ _ _
set_option maxHeartbeats 4000000 in
theorem rfind_22 (m o : Int) (A U : ByteArray) (w : World) (q1 : ¬ 9223372036854775807 < A.size + 1) (q2 : ¬ 9223372036854775807 < (A ++ (⟨#[32]⟩ : ByteArray)).size + U.size) (hM : ∀ w, Calls Tryd.prog 38 #[.int .i64 m] w fun e w' => e = .returned (.string A) ∧ Below w.heap.size w w') (hO : ∀ w, Calls Tryd.prog 39 #[.int .i64 o] w fun e w' => e = .returned (.string U) ∧ Below w.heap.size w w') (e0 : ((A ++ (⟨#[32]⟩ : ByteArray) ++ U).toList == [114, 101, 103, 32, 119, 114, 105, 116, 101]) = false) (e2 : ((A ++ (⟨#[32]⟩ : ByteArray) ++ U).toList == [99, 97, 115, 32, 119, 114, 105, 116, 101]) = false) (e5 : ((A ++ (⟨#[32]⟩ : ByteArray) ++ U).toList == [115, 101, 116, 32, 97, 100, 100]) = false) (e6 : ((A ++ (⟨#[32]⟩ : ByteArray) ++ U).toList == [115, 101, 116, 32, 100, 101, 108]) = false) (e11 : ((A ++ (⟨#[32]⟩ : ByteArray) ++ U).toList == [102, 105, 102, 111, 32, 112, 117, 115, 104]) = false) (e13 : ((A ++ (⟨#[32]⟩ : ByteArray) ++ U).toList == [115, 116, 97, 99, 107, 32, 112, 117, 115, 104]) = false) (e1 : ((A ++ (⟨#[32]⟩ : ByteArray) ++ U).toList == [114, 101, 103, 32, 114, 101, 97, 100]) = false) (e3 : ((A ++ (⟨#[32]⟩ : ByteArray) ++ U).toList == [99, 97, 115, 32, 114, 101, 97, 100]) = false) (e12 : ((A ++ (⟨#[32]⟩ : ByteArray) ++ U).toList == [102, 105, 102, 111, 32, 112, 111, 112]) = false) (e14 : ((A ++ (⟨#[32]⟩ : ByteArray) ++ U).toList == [115, 116, 97, 99, 107, 32, 112, 111, 112]) = false) (e4 : ((A ++ (⟨#[32]⟩ : ByteArray) ++ U).toList == [99, 97, 115, 32, 115, 119, 97, 112]) = false) (e7 : ((A ++ (⟨#[32]⟩ : ByteArray) ++ U).toList == [115, 101, 116, 32, 104, 97, 115]) = false) (e8 : ((A ++ (⟨#[32]⟩ : ByteArray) ++ U).toList == [109, 97, 112, 32, 112, 117, 116]) = false) (e9 : ((A ++ (⟨#[32]⟩ : ByteArray) ++ U).toList == [109, 97, 112, 32, 103, 101, 116]) = false) (e10 : ((A ++ (⟨#[32]⟩ : ByteArray) ++ U).toList == [109, 97, 112, 32, 100, 101, 108]) = false) (e15 : ((A ++ (⟨#[32]⟩ : ByteArray) ++ U).toList == [108, 111, 99, 107, 32, 116, 97, 107, 101]) = false) (e16 : ((A ++ (⟨#[32]⟩ : ByteArray) ++ U).toList == [108, 111, 99, 107, 32, 102, 114, 101, 101]) = false) (e17 : ((A ++ (⟨#[32]⟩ : ByteArray) ++ U).toList == [99, 111, 117, 110, 116, 32, 97, 100, 100]) = false) (e18 : ((A ++ (⟨#[32]⟩ : ByteArray) ++ U).toList == [99, 111, 117, 110, 116, 32, 114, 101, 97, 100]) = false) (e19 : ((A ++ (⟨#[32]⟩ : ByteArray) ++ U).toList == [109, 97, 120, 32, 119, 114, 105, 116, 101]) = false) (e22 : ((A ++ (⟨#[32]⟩ : ByteArray) ++ U).toList == [111, 109, 97, 112, 32, 100, 101, 108]) = true) :
    Calls Tryd.prog 34 #[.int .i64 m, .int .i64 o] w fun e w' => RD w [4] (-1) false true e w' := by
  have S0 := SBox.new w 67
  have hb0 := below_box w (.cells #[.slice none 0 0, .int .i64 0, .bool false, .bool false] 67)
  go_enter Tryd.func34, Tryd.ntmps34
  go_wp2_with fail
  generalize w.alloc (.cells #[.slice none 0 0, .int .i64 0, .bool false, .bool false] 67) = w0 at *
  refine (hM _).mono ?_
  rintro e w1 ⟨rfl, hb1⟩
  go_wp2_with fail
  generalize A ++ (⟨#[32]⟩ : ByteArray) = B at *
  refine (hO _).mono ?_
  rintro e w2 ⟨rfl, hb2⟩
  have hbw := below_next (below_next hb0 hb1) hb2
  obtain ⟨hp, c0, c1, c2, c3, f0, f1, f2, f3⟩ := (S0.later hb1).later hb2
  have hne : ¬ w.heap.size = w2.heap.size := by omega
  have hne2 : ¬ w2.heap.size = w.heap.size := by omega
  clear S0 hb0 hb1 hb2 hM hO
  go_wp2
  refine bodyPost_ret (v := .agg #[.slice (some ⟨w2.heap.size, 0, none⟩) 1 1, .int .i64 (-1), .bool false, .bool true]) (by simp [results, Tryd.f34, go_sem, hne, hne2, c0, c1, c2, c3, f0, f1, f2, f3, hp]) rfl ?_
  refine ⟨_, rfl, ?_, ?_⟩
  · refine isl_1 ?_ ?_ <;> first | (simp [hne, hne2]; done) | (simp [World.cell?, hne, hne2]; done) | (go_simp; done)
  first | exact below_more (below_store4 hbw (Nat.le_refl _) _ _ _ _) _ | exact below_store4 (below_more hbw _) (Nat.le_refl _) _ _ _ _
set_option maxHeartbeats 4000000 in
theorem rfind_23 (m o : Int) (A U : ByteArray) (w : World) (q1 : ¬ 9223372036854775807 < A.size + 1) (q2 : ¬ 9223372036854775807 < (A ++ (⟨#[32]⟩ : ByteArray)).size + U.size) (hM : ∀ w, Calls Tryd.prog 38 #[.int .i64 m] w fun e w' => e = .returned (.string A) ∧ Below w.heap.size w w') (hO : ∀ w, Calls Tryd.prog 39 #[.int .i64 o] w fun e w' => e = .returned (.string U) ∧ Below w.heap.size w w') (e0 : ((A ++ (⟨#[32]⟩ : ByteArray) ++ U).toList == [114, 101, 103, 32, 119, 114, 105, 116, 101]) = false) (e2 : ((A ++ (⟨#[32]⟩ : ByteArray) ++ U).toList == [99, 97, 115, 32, 119, 114, 105, 116, 101]) = false) (e5 : ((A ++ (⟨#[32]⟩ : ByteArray) ++ U).toList == [115, 101, 116, 32, 97, 100, 100]) = false) (e6 : ((A ++ (⟨#[32]⟩ : ByteArray) ++ U).toList == [115, 101, 116, 32, 100, 101, 108]) = false) (e11 : ((A ++ (⟨#[32]⟩ : ByteArray) ++ U).toList == [102, 105, 102, 111, 32, 112, 117, 115, 104]) = false) (e13 : ((A ++ (⟨#[32]⟩ : ByteArray) ++ U).toList == [115, 116, 97, 99, 107, 32, 112, 117, 115, 104]) = false) (e1 : ((A ++ (⟨#[32]⟩ : ByteArray) ++ U).toList == [114, 101, 103, 32, 114, 101, 97, 100]) = false) (e3 : ((A ++ (⟨#[32]⟩ : ByteArray) ++ U).toList == [99, 97, 115, 32, 114, 101, 97, 100]) = false) (e12 : ((A ++ (⟨#[32]⟩ : ByteArray) ++ U).toList == [102, 105, 102, 111, 32, 112, 111, 112]) = false) (e14 : ((A ++ (⟨#[32]⟩ : ByteArray) ++ U).toList == [115, 116, 97, 99, 107, 32, 112, 111, 112]) = false) (e4 : ((A ++ (⟨#[32]⟩ : ByteArray) ++ U).toList == [99, 97, 115, 32, 115, 119, 97, 112]) = false) (e7 : ((A ++ (⟨#[32]⟩ : ByteArray) ++ U).toList == [115, 101, 116, 32, 104, 97, 115]) = false) (e8 : ((A ++ (⟨#[32]⟩ : ByteArray) ++ U).toList == [109, 97, 112, 32, 112, 117, 116]) = false) (e9 : ((A ++ (⟨#[32]⟩ : ByteArray) ++ U).toList == [109, 97, 112, 32, 103, 101, 116]) = false) (e10 : ((A ++ (⟨#[32]⟩ : ByteArray) ++ U).toList == [109, 97, 112, 32, 100, 101, 108]) = false) (e15 : ((A ++ (⟨#[32]⟩ : ByteArray) ++ U).toList == [108, 111, 99, 107, 32, 116, 97, 107, 101]) = false) (e16 : ((A ++ (⟨#[32]⟩ : ByteArray) ++ U).toList == [108, 111, 99, 107, 32, 102, 114, 101, 101]) = false) (e17 : ((A ++ (⟨#[32]⟩ : ByteArray) ++ U).toList == [99, 111, 117, 110, 116, 32, 97, 100, 100]) = false) (e18 : ((A ++ (⟨#[32]⟩ : ByteArray) ++ U).toList == [99, 111, 117, 110, 116, 32, 114, 101, 97, 100]) = false) (e19 : ((A ++ (⟨#[32]⟩ : ByteArray) ++ U).toList == [109, 97, 120, 32, 119, 114, 105, 116, 101]) = false) (e22 : ((A ++ (⟨#[32]⟩ : ByteArray) ++ U).toList == [111, 109, 97, 112, 32, 100, 101, 108]) = false) (e20 : ((A ++ (⟨#[32]⟩ : ByteArray) ++ U).toList == [109, 97, 120, 32, 114, 101, 97, 100]) = false) (e21 : ((A ++ (⟨#[32]⟩ : ByteArray) ++ U).toList == [111, 109, 97, 112, 32, 112, 117, 116]) = false) (e23 : ((A ++ (⟨#[32]⟩ : ByteArray) ++ U).toList == [111, 109, 97, 112, 32, 115, 99, 97, 110]) = true) :
    Calls Tryd.prog 34 #[.int .i64 m, .int .i64 o] w fun e w' => RD w [4, 4] (99) false true e w' := by
  have S0 := SBox.new w 67
  have hb0 := below_box w (.cells #[.slice none 0 0, .int .i64 0, .bool false, .bool false] 67)
  go_enter Tryd.func34, Tryd.ntmps34
  go_wp2_with fail
  generalize w.alloc (.cells #[.slice none 0 0, .int .i64 0, .bool false, .bool false] 67) = w0 at *
  refine (hM _).mono ?_
  rintro e w1 ⟨rfl, hb1⟩
  go_wp2_with fail
  generalize A ++ (⟨#[32]⟩ : ByteArray) = B at *
  refine (hO _).mono ?_
  rintro e w2 ⟨rfl, hb2⟩
  have hbw := below_next (below_next hb0 hb1) hb2
  obtain ⟨hp, c0, c1, c2, c3, f0, f1, f2, f3⟩ := (S0.later hb1).later hb2
  have hne : ¬ w.heap.size = w2.heap.size := by omega
  have hne2 : ¬ w2.heap.size = w.heap.size := by omega
  clear S0 hb0 hb1 hb2 hM hO
  go_wp2
  refine bodyPost_ret (v := .agg #[.slice (some ⟨w2.heap.size, 0, none⟩) 2 2, .int .i64 (99), .bool false, .bool true]) (by simp [results, Tryd.f34, go_sem, hne, hne2, c0, c1, c2, c3, f0, f1, f2, f3, hp]) rfl ?_
  refine ⟨_, rfl, ?_, ?_⟩
  · refine isl_2 ?_ ?_ ?_ <;> first | (simp [hne, hne2]; done) | (simp [World.cell?, hne, hne2]; done) | (go_simp; done)
  first | exact below_more (below_store4 hbw (Nat.le_refl _) _ _ _ _) _ | exact below_store4 (below_more hbw _) (Nat.le_refl _) _ _ _ _
set_option maxHeartbeats 4000000 in
theorem rfind_no (m o : Int) (A U : ByteArray) (w : World) (q1 : ¬ 9223372036854775807 < A.size + 1) (q2 : ¬ 9223372036854775807 < (A ++ (⟨#[32]⟩ : ByteArray)).size + U.size) (hM : ∀ w, Calls Tryd.prog 38 #[.int .i64 m] w fun e w' => e = .returned (.string A) ∧ Below w.heap.size w w') (hO : ∀ w, Calls Tryd.prog 39 #[.int .i64 o] w fun e w' => e = .returned (.string U) ∧ Below w.heap.size w w') (e0 : ((A ++ (⟨#[32]⟩ : ByteArray) ++ U).toList == [114, 101, 103, 32, 119, 114, 105, 116, 101]) = false) (e2 : ((A ++ (⟨#[32]⟩ : ByteArray) ++ U).toList == [99, 97, 115, 32, 119, 114, 105, 116, 101]) = false) (e5 : ((A ++ (⟨#[32]⟩ : ByteArray) ++ U).toList == [115, 101, 116, 32, 97, 100, 100]) = false) (e6 : ((A ++ (⟨#[32]⟩ : ByteArray) ++ U).toList == [115, 101, 116, 32, 100, 101, 108]) = false) (e11 : ((A ++ (⟨#[32]⟩ : ByteArray) ++ U).toList == [102, 105, 102, 111, 32, 112, 117, 115, 104]) = false) (e13 : ((A ++ (⟨#[32]⟩ : ByteArray) ++ U).toList == [115, 116, 97, 99, 107, 32, 112, 117, 115, 104]) = false) (e1 : ((A ++ (⟨#[32]⟩ : ByteArray) ++ U).toList == [114, 101, 103, 32, 114, 101, 97, 100]) = false) (e3 : ((A ++ (⟨#[32]⟩ : ByteArray) ++ U).toList == [99, 97, 115, 32, 114, 101, 97, 100]) = false) (e12 : ((A ++ (⟨#[32]⟩ : ByteArray) ++ U).toList == [102, 105, 102, 111, 32, 112, 111, 112]) = false) (e14 : ((A ++ (⟨#[32]⟩ : ByteArray) ++ U).toList == [115, 116, 97, 99, 107, 32, 112, 111, 112]) = false) (e4 : ((A ++ (⟨#[32]⟩ : ByteArray) ++ U).toList == [99, 97, 115, 32, 115, 119, 97, 112]) = false) (e7 : ((A ++ (⟨#[32]⟩ : ByteArray) ++ U).toList == [115, 101, 116, 32, 104, 97, 115]) = false) (e8 : ((A ++ (⟨#[32]⟩ : ByteArray) ++ U).toList == [109, 97, 112, 32, 112, 117, 116]) = false) (e9 : ((A ++ (⟨#[32]⟩ : ByteArray) ++ U).toList == [109, 97, 112, 32, 103, 101, 116]) = false) (e10 : ((A ++ (⟨#[32]⟩ : ByteArray) ++ U).toList == [109, 97, 112, 32, 100, 101, 108]) = false) (e15 : ((A ++ (⟨#[32]⟩ : ByteArray) ++ U).toList == [108, 111, 99, 107, 32, 116, 97, 107, 101]) = false) (e16 : ((A ++ (⟨#[32]⟩ : ByteArray) ++ U).toList == [108, 111, 99, 107, 32, 102, 114, 101, 101]) = false) (e17 : ((A ++ (⟨#[32]⟩ : ByteArray) ++ U).toList == [99, 111, 117, 110, 116, 32, 97, 100, 100]) = false) (e18 : ((A ++ (⟨#[32]⟩ : ByteArray) ++ U).toList == [99, 111, 117, 110, 116, 32, 114, 101, 97, 100]) = false) (e19 : ((A ++ (⟨#[32]⟩ : ByteArray) ++ U).toList == [109, 97, 120, 32, 119, 114, 105, 116, 101]) = false) (e22 : ((A ++ (⟨#[32]⟩ : ByteArray) ++ U).toList == [111, 109, 97, 112, 32, 100, 101, 108]) = false) (e20 : ((A ++ (⟨#[32]⟩ : ByteArray) ++ U).toList == [109, 97, 120, 32, 114, 101, 97, 100]) = false) (e21 : ((A ++ (⟨#[32]⟩ : ByteArray) ++ U).toList == [111, 109, 97, 112, 32, 112, 117, 116]) = false) (e23 : ((A ++ (⟨#[32]⟩ : ByteArray) ++ U).toList == [111, 109, 97, 112, 32, 115, 99, 97, 110]) = false) :
    Calls Tryd.prog 34 #[.int .i64 m, .int .i64 o] w fun e w' => RD w [] (0) false false e w' := by
  have S0 := SBox.new w 67
  have hb0 := below_box w (.cells #[.slice none 0 0, .int .i64 0, .bool false, .bool false] 67)
  go_enter Tryd.func34, Tryd.ntmps34
  go_wp2_with fail
  generalize w.alloc (.cells #[.slice none 0 0, .int .i64 0, .bool false, .bool false] 67) = w0 at *
  refine (hM _).mono ?_
  rintro e w1 ⟨rfl, hb1⟩
  go_wp2_with fail
  generalize A ++ (⟨#[32]⟩ : ByteArray) = B at *
  refine (hO _).mono ?_
  rintro e w2 ⟨rfl, hb2⟩
  have hbw := below_next (below_next hb0 hb1) hb2
  obtain ⟨hp, c0, c1, c2, c3, f0, f1, f2, f3⟩ := (S0.later hb1).later hb2
  have hne : ¬ w.heap.size = w2.heap.size := by omega
  have hne2 : ¬ w2.heap.size = w.heap.size := by omega
  clear S0 hb0 hb1 hb2 hM hO
  go_wp2
  refine bodyPost_ret (v := .agg #[.slice none 0 0, .int .i64 (0), .bool false, .bool false]) (by simp [results, Tryd.f34, go_sem, hne, hne2, c0, c1, c2, c3, f0, f1, f2, f3, hp]) rfl ?_
  exact ⟨_, rfl, ISl.nil _, below_store4 hbw (Nat.le_refl _) _ _ _ _⟩
end Go.Proofs.YtpboleifllcehaaDoor
