/- The contract of the document's Find. No conditions. -/
import Derived.Test.YtpboleifllcehaaDoorSJ
import Derived.Test.YtpboleifllcehaaDoorBD
namespace Go.Proofs.YtpboleifllcehaaDoor
open Go.RowKit Go.PlainAid
set_option linter.unusedVariables false
set_option linter.unusedSimpArgs false

/-- the number of a word: nought where there is none -/
def mi (m : Int) : Nat := if 1 ≤ m ∧ m ≤ 10 then m.toNat else 0
def oi (o : Int) : Nat := if 1 ≤ o ∧ o ≤ 13 then o.toNat else 0
def mL (i : Nat) : List UInt8 := (mn (i : Int)).data.toList
def oL (j : Nat) : List UInt8 := (on (j : Int)).data.toList
theorem mi_lt (m : Int) : mi m < 11 := by unfold mi; split <;> omega
theorem oi_lt (o : Int) : oi o < 14 := by unfold oi; split <;> omega
theorem mn_mi (m : Int) : (mn m).data.toList = mL (mi m) := by
  unfold mL mi
  by_cases h : 1 ≤ m ∧ m ≤ 10
  · rw [if_pos h, show ((m.toNat : Nat) : Int) = m by omega]
  · rw [if_neg h]
    have e : mn m = ⟨#[]⟩ := by unfold mn; simp only [show ¬ m = 1 by omega, show ¬ m = 2 by omega, show ¬ m = 3 by omega, show ¬ m = 4 by omega, show ¬ m = 5 by omega, show ¬ m = 6 by omega, show ¬ m = 7 by omega, show ¬ m = 8 by omega, show ¬ m = 9 by omega, show ¬ m = 10 by omega, if_false]
    rw [e]; rfl
theorem on_oi (o : Int) : (on o).data.toList = oL (oi o) := by
  unfold oL oi
  by_cases h : 1 ≤ o ∧ o ≤ 13
  · rw [if_pos h, show ((o.toNat : Nat) : Int) = o by omega]
  · rw [if_neg h]
    have e : on o = ⟨#[]⟩ := by unfold on; simp only [show ¬ o = 1 by omega, show ¬ o = 2 by omega, show ¬ o = 3 by omega, show ¬ o = 4 by omega, show ¬ o = 5 by omega, show ¬ o = 6 by omega, show ¬ o = 7 by omega, show ¬ o = 8 by omega, show ¬ o = 9 by omega, show ¬ o = 10 by omega, show ¬ o = 11 by omega, show ¬ o = 12 by omega, show ¬ o = 13 by omega, if_false]
    rw [e]; rfl
/-- the text of a row of the table -/
def cst (k : Nat) : List UInt8 := mL (rwA k).m.toNat ++ [32] ++ oL (rwA k).o.toNat
theorem chk : ((List.range 11).all fun i => (List.range 14).all fun j => (List.range 24).all fun k => ((mL i ++ [32] ++ oL j == cst k) == (((rwA k).m == (i : Int)) && ((rwA k).o == (j : Int))))) = true := by kernel_rfl
theorem rng : ((List.range 24).all fun k => decide (1 ≤ (rwA k).m ∧ (rwA k).m ≤ 10 ∧ 1 ≤ (rwA k).o ∧ (rwA k).o ≤ 13)) = true := by kernel_rfl
theorem txt_eq (m o : Int) (k : Nat) (hk : k < 24) : ((mn m ++ (⟨#[32]⟩ : ByteArray) ++ on o).toList == cst k) = (((rwA k).m == m) && ((rwA k).o == o)) := by
  have e : (mn m ++ (⟨#[32]⟩ : ByteArray) ++ on o).toList = mL (mi m) ++ [32] ++ oL (oi o) := by
    rw [ByteArray.toList_eq, ByteArray.data_append, ByteArray.data_append, Array.toList_append, Array.toList_append, mn_mi, on_oi]
  rw [e]
  have c := chk
  simp only [List.all_eq_true, List.mem_range, beq_iff_eq] at c
  rw [c (mi m) (mi_lt m) (oi o) (oi_lt o) k hk]
  have r := rng
  simp only [List.all_eq_true, List.mem_range, decide_eq_true_iff] at r
  obtain ⟨r1, r2, r3, r4⟩ := r k hk
  have h1 : ((rwA k).m == ((mi m : Nat) : Int)) = ((rwA k).m == m) := by
    rw [Bool.eq_iff_iff, beq_iff_eq, beq_iff_eq]
    unfold mi; split <;> omega
  have h2 : ((rwA k).o == ((oi o : Nat) : Int)) = ((rwA k).o == o) := by
    rw [Bool.eq_iff_iff, beq_iff_eq, beq_iff_eq]
    unfold oi; split <;> omega
  rw [h1, h2]
theorem txt_f (m o : Int) (k : Nat) (hk : k < 24) {L : List UInt8} {b : Bool} (hL : cst k = L) (h : (((rwA k).m == m) && ((rwA k).o == o)) = b) : ((mn m ++ (⟨#[32]⟩ : ByteArray) ++ on o).toList == L) = b := by
  rw [← hL, txt_eq m o k hk, h]
theorem no_b {a b m o : Int} (h : ¬ (a = m ∧ b = o)) : ((a == m) && (b == o)) = false := by
  rw [Bool.and_eq_false_iff, beq_eq_false_iff_ne, beq_eq_false_iff_ne]
  by_cases e : a = m
  · exact .inr fun k => h ⟨e, k⟩
  · exact .inl e
theorem mn_size (m : Int) : (mn m).size ≤ 5 := by unfold mn; repeat' (first | decide | split)
theorem oL_len : ((List.range 14).all fun j => decide ((oL j).length ≤ 5)) = true := by kernel_rfl
theorem on_size (m : Int) : (on m).size ≤ 5 := by
  have c := oL_len
  simp only [List.all_eq_true, List.mem_range, decide_eq_true_iff] at c
  have h := c (oi m) (oi_lt m)
  rw [← on_oi m] at h
  exact h
theorem cst_0 : cst 0 = [114, 101, 103, 32, 119, 114, 105, 116, 101] := by kernel_rfl
theorem cst_1 : cst 1 = [114, 101, 103, 32, 114, 101, 97, 100] := by kernel_rfl
theorem cst_2 : cst 2 = [99, 97, 115, 32, 119, 114, 105, 116, 101] := by kernel_rfl
theorem cst_3 : cst 3 = [99, 97, 115, 32, 114, 101, 97, 100] := by kernel_rfl
theorem cst_4 : cst 4 = [99, 97, 115, 32, 115, 119, 97, 112] := by kernel_rfl
theorem cst_5 : cst 5 = [115, 101, 116, 32, 97, 100, 100] := by kernel_rfl
theorem cst_6 : cst 6 = [115, 101, 116, 32, 100, 101, 108] := by kernel_rfl
theorem cst_7 : cst 7 = [115, 101, 116, 32, 104, 97, 115] := by kernel_rfl
theorem cst_8 : cst 8 = [109, 97, 112, 32, 112, 117, 116] := by kernel_rfl
theorem cst_9 : cst 9 = [109, 97, 112, 32, 103, 101, 116] := by kernel_rfl
theorem cst_10 : cst 10 = [109, 97, 112, 32, 100, 101, 108] := by kernel_rfl
theorem cst_11 : cst 11 = [102, 105, 102, 111, 32, 112, 117, 115, 104] := by kernel_rfl
theorem cst_12 : cst 12 = [102, 105, 102, 111, 32, 112, 111, 112] := by kernel_rfl
theorem cst_13 : cst 13 = [115, 116, 97, 99, 107, 32, 112, 117, 115, 104] := by kernel_rfl
theorem cst_14 : cst 14 = [115, 116, 97, 99, 107, 32, 112, 111, 112] := by kernel_rfl
theorem cst_15 : cst 15 = [108, 111, 99, 107, 32, 116, 97, 107, 101] := by kernel_rfl
theorem cst_16 : cst 16 = [108, 111, 99, 107, 32, 102, 114, 101, 101] := by kernel_rfl
theorem cst_17 : cst 17 = [99, 111, 117, 110, 116, 32, 97, 100, 100] := by kernel_rfl
theorem cst_18 : cst 18 = [99, 111, 117, 110, 116, 32, 114, 101, 97, 100] := by kernel_rfl
theorem cst_19 : cst 19 = [109, 97, 120, 32, 119, 114, 105, 116, 101] := by kernel_rfl
theorem cst_20 : cst 20 = [109, 97, 120, 32, 114, 101, 97, 100] := by kernel_rfl
theorem cst_21 : cst 21 = [111, 109, 97, 112, 32, 112, 117, 116] := by kernel_rfl
theorem cst_22 : cst 22 = [111, 109, 97, 112, 32, 100, 101, 108] := by kernel_rfl
theorem cst_23 : cst 23 = [111, 109, 97, 112, 32, 115, 99, 97, 110] := by kernel_rfl
theorem k24 {k : Nat} (h : k < 24) : k = 0 ∨ k = 1 ∨ k = 2 ∨ k = 3 ∨ k = 4 ∨ k = 5 ∨ k = 6 ∨ k = 7 ∨ k = 8 ∨ k = 9 ∨ k = 10 ∨ k = 11 ∨ k = 12 ∨ k = 13 ∨ k = 14 ∨ k = 15 ∨ k = 16 ∨ k = 17 ∨ k = 18 ∨ k = 19 ∨ k = 20 ∨ k = 21 ∨ k = 22 ∨ k = 23 := by omega
set_option maxHeartbeats 4000000 in
theorem rfind_any (m o : Int) (w : World) : Calls Tryd.prog 34 #[.int .i64 m, .int .i64 o] w fun e w' => RRef w m o e w' := by
  have hM := fun w => rmodelName_any m w
  have hO := fun w => ropName_any o w
  have q1 : ¬ 9223372036854775807 < (mn m).size + 1 := by have := mn_size m; omega
  have q2 : ¬ 9223372036854775807 < (mn m ++ (⟨#[32]⟩ : ByteArray)).size + (on o).size := by
    have h1 := mn_size m
    have h2 := on_size o
    have h3 : (⟨#[32]⟩ : ByteArray).size = 1 := rfl
    rw [ByteArray.size_append, h3]; omega
  rcases fr_cases m o with ⟨k, hk, hm, ho, e, hi⟩ | ⟨hno, e, hi⟩
  · rcases k24 hk with rfl | rfl | rfl | rfl | rfl | rfl | rfl | rfl | rfl | rfl | rfl | rfl | rfl | rfl | rfl | rfl | rfl | rfl | rfl | rfl | rfl | rfl | rfl | rfl
    · refine (rfind_0 m o (mn m) (on o) w q1 q2 hM hO (txt_f m o 0 (by decide) cst_0 (by rw [← hm, ← ho]; rfl))).mono ?_
      rintro e' w' ⟨vi, h1, h2, h3⟩
      exact ⟨vi, by rw [h1, e, hi]; rfl, by rw [e]; exact h2, h3⟩
    · refine (rfind_1 m o (mn m) (on o) w q1 q2 hM hO (txt_f m o 0 (by decide) cst_0 (by rw [← hm, ← ho]; rfl)) (txt_f m o 2 (by decide) cst_2 (by rw [← hm, ← ho]; rfl)) (txt_f m o 5 (by decide) cst_5 (by rw [← hm, ← ho]; rfl)) (txt_f m o 6 (by decide) cst_6 (by rw [← hm, ← ho]; rfl)) (txt_f m o 11 (by decide) cst_11 (by rw [← hm, ← ho]; rfl)) (txt_f m o 13 (by decide) cst_13 (by rw [← hm, ← ho]; rfl)) (txt_f m o 1 (by decide) cst_1 (by rw [← hm, ← ho]; rfl))).mono ?_
      rintro e' w' ⟨vi, h1, h2, h3⟩
      exact ⟨vi, by rw [h1, e, hi]; rfl, by rw [e]; exact h2, h3⟩
    · refine (rfind_2 m o (mn m) (on o) w q1 q2 hM hO (txt_f m o 0 (by decide) cst_0 (by rw [← hm, ← ho]; rfl)) (txt_f m o 2 (by decide) cst_2 (by rw [← hm, ← ho]; rfl))).mono ?_
      rintro e' w' ⟨vi, h1, h2, h3⟩
      exact ⟨vi, by rw [h1, e, hi]; rfl, by rw [e]; exact h2, h3⟩
    · refine (rfind_3 m o (mn m) (on o) w q1 q2 hM hO (txt_f m o 0 (by decide) cst_0 (by rw [← hm, ← ho]; rfl)) (txt_f m o 2 (by decide) cst_2 (by rw [← hm, ← ho]; rfl)) (txt_f m o 5 (by decide) cst_5 (by rw [← hm, ← ho]; rfl)) (txt_f m o 6 (by decide) cst_6 (by rw [← hm, ← ho]; rfl)) (txt_f m o 11 (by decide) cst_11 (by rw [← hm, ← ho]; rfl)) (txt_f m o 13 (by decide) cst_13 (by rw [← hm, ← ho]; rfl)) (txt_f m o 1 (by decide) cst_1 (by rw [← hm, ← ho]; rfl)) (txt_f m o 3 (by decide) cst_3 (by rw [← hm, ← ho]; rfl))).mono ?_
      rintro e' w' ⟨vi, h1, h2, h3⟩
      exact ⟨vi, by rw [h1, e, hi]; rfl, by rw [e]; exact h2, h3⟩
    · refine (rfind_4 m o (mn m) (on o) w q1 q2 hM hO (txt_f m o 0 (by decide) cst_0 (by rw [← hm, ← ho]; rfl)) (txt_f m o 2 (by decide) cst_2 (by rw [← hm, ← ho]; rfl)) (txt_f m o 5 (by decide) cst_5 (by rw [← hm, ← ho]; rfl)) (txt_f m o 6 (by decide) cst_6 (by rw [← hm, ← ho]; rfl)) (txt_f m o 11 (by decide) cst_11 (by rw [← hm, ← ho]; rfl)) (txt_f m o 13 (by decide) cst_13 (by rw [← hm, ← ho]; rfl)) (txt_f m o 1 (by decide) cst_1 (by rw [← hm, ← ho]; rfl)) (txt_f m o 3 (by decide) cst_3 (by rw [← hm, ← ho]; rfl)) (txt_f m o 12 (by decide) cst_12 (by rw [← hm, ← ho]; rfl)) (txt_f m o 14 (by decide) cst_14 (by rw [← hm, ← ho]; rfl)) (txt_f m o 4 (by decide) cst_4 (by rw [← hm, ← ho]; rfl))).mono ?_
      rintro e' w' ⟨vi, h1, h2, h3⟩
      exact ⟨vi, by rw [h1, e, hi]; rfl, by rw [e]; exact h2, h3⟩
    · refine (rfind_5 m o (mn m) (on o) w q1 q2 hM hO (txt_f m o 0 (by decide) cst_0 (by rw [← hm, ← ho]; rfl)) (txt_f m o 2 (by decide) cst_2 (by rw [← hm, ← ho]; rfl)) (txt_f m o 5 (by decide) cst_5 (by rw [← hm, ← ho]; rfl))).mono ?_
      rintro e' w' ⟨vi, h1, h2, h3⟩
      exact ⟨vi, by rw [h1, e, hi]; rfl, by rw [e]; exact h2, h3⟩
    · refine (rfind_6 m o (mn m) (on o) w q1 q2 hM hO (txt_f m o 0 (by decide) cst_0 (by rw [← hm, ← ho]; rfl)) (txt_f m o 2 (by decide) cst_2 (by rw [← hm, ← ho]; rfl)) (txt_f m o 5 (by decide) cst_5 (by rw [← hm, ← ho]; rfl)) (txt_f m o 6 (by decide) cst_6 (by rw [← hm, ← ho]; rfl))).mono ?_
      rintro e' w' ⟨vi, h1, h2, h3⟩
      exact ⟨vi, by rw [h1, e, hi]; rfl, by rw [e]; exact h2, h3⟩
    · refine (rfind_7 m o (mn m) (on o) w q1 q2 hM hO (txt_f m o 0 (by decide) cst_0 (by rw [← hm, ← ho]; rfl)) (txt_f m o 2 (by decide) cst_2 (by rw [← hm, ← ho]; rfl)) (txt_f m o 5 (by decide) cst_5 (by rw [← hm, ← ho]; rfl)) (txt_f m o 6 (by decide) cst_6 (by rw [← hm, ← ho]; rfl)) (txt_f m o 11 (by decide) cst_11 (by rw [← hm, ← ho]; rfl)) (txt_f m o 13 (by decide) cst_13 (by rw [← hm, ← ho]; rfl)) (txt_f m o 1 (by decide) cst_1 (by rw [← hm, ← ho]; rfl)) (txt_f m o 3 (by decide) cst_3 (by rw [← hm, ← ho]; rfl)) (txt_f m o 12 (by decide) cst_12 (by rw [← hm, ← ho]; rfl)) (txt_f m o 14 (by decide) cst_14 (by rw [← hm, ← ho]; rfl)) (txt_f m o 4 (by decide) cst_4 (by rw [← hm, ← ho]; rfl)) (txt_f m o 7 (by decide) cst_7 (by rw [← hm, ← ho]; rfl))).mono ?_
      rintro e' w' ⟨vi, h1, h2, h3⟩
      exact ⟨vi, by rw [h1, e, hi]; rfl, by rw [e]; exact h2, h3⟩
    · refine (rfind_8 m o (mn m) (on o) w q1 q2 hM hO (txt_f m o 0 (by decide) cst_0 (by rw [← hm, ← ho]; rfl)) (txt_f m o 2 (by decide) cst_2 (by rw [← hm, ← ho]; rfl)) (txt_f m o 5 (by decide) cst_5 (by rw [← hm, ← ho]; rfl)) (txt_f m o 6 (by decide) cst_6 (by rw [← hm, ← ho]; rfl)) (txt_f m o 11 (by decide) cst_11 (by rw [← hm, ← ho]; rfl)) (txt_f m o 13 (by decide) cst_13 (by rw [← hm, ← ho]; rfl)) (txt_f m o 1 (by decide) cst_1 (by rw [← hm, ← ho]; rfl)) (txt_f m o 3 (by decide) cst_3 (by rw [← hm, ← ho]; rfl)) (txt_f m o 12 (by decide) cst_12 (by rw [← hm, ← ho]; rfl)) (txt_f m o 14 (by decide) cst_14 (by rw [← hm, ← ho]; rfl)) (txt_f m o 4 (by decide) cst_4 (by rw [← hm, ← ho]; rfl)) (txt_f m o 7 (by decide) cst_7 (by rw [← hm, ← ho]; rfl)) (txt_f m o 8 (by decide) cst_8 (by rw [← hm, ← ho]; rfl))).mono ?_
      rintro e' w' ⟨vi, h1, h2, h3⟩
      exact ⟨vi, by rw [h1, e, hi]; rfl, by rw [e]; exact h2, h3⟩
    · refine (rfind_9 m o (mn m) (on o) w q1 q2 hM hO (txt_f m o 0 (by decide) cst_0 (by rw [← hm, ← ho]; rfl)) (txt_f m o 2 (by decide) cst_2 (by rw [← hm, ← ho]; rfl)) (txt_f m o 5 (by decide) cst_5 (by rw [← hm, ← ho]; rfl)) (txt_f m o 6 (by decide) cst_6 (by rw [← hm, ← ho]; rfl)) (txt_f m o 11 (by decide) cst_11 (by rw [← hm, ← ho]; rfl)) (txt_f m o 13 (by decide) cst_13 (by rw [← hm, ← ho]; rfl)) (txt_f m o 1 (by decide) cst_1 (by rw [← hm, ← ho]; rfl)) (txt_f m o 3 (by decide) cst_3 (by rw [← hm, ← ho]; rfl)) (txt_f m o 12 (by decide) cst_12 (by rw [← hm, ← ho]; rfl)) (txt_f m o 14 (by decide) cst_14 (by rw [← hm, ← ho]; rfl)) (txt_f m o 4 (by decide) cst_4 (by rw [← hm, ← ho]; rfl)) (txt_f m o 7 (by decide) cst_7 (by rw [← hm, ← ho]; rfl)) (txt_f m o 8 (by decide) cst_8 (by rw [← hm, ← ho]; rfl)) (txt_f m o 9 (by decide) cst_9 (by rw [← hm, ← ho]; rfl))).mono ?_
      rintro e' w' ⟨vi, h1, h2, h3⟩
      exact ⟨vi, by rw [h1, e, hi]; rfl, by rw [e]; exact h2, h3⟩
    · refine (rfind_10 m o (mn m) (on o) w q1 q2 hM hO (txt_f m o 0 (by decide) cst_0 (by rw [← hm, ← ho]; rfl)) (txt_f m o 2 (by decide) cst_2 (by rw [← hm, ← ho]; rfl)) (txt_f m o 5 (by decide) cst_5 (by rw [← hm, ← ho]; rfl)) (txt_f m o 6 (by decide) cst_6 (by rw [← hm, ← ho]; rfl)) (txt_f m o 11 (by decide) cst_11 (by rw [← hm, ← ho]; rfl)) (txt_f m o 13 (by decide) cst_13 (by rw [← hm, ← ho]; rfl)) (txt_f m o 1 (by decide) cst_1 (by rw [← hm, ← ho]; rfl)) (txt_f m o 3 (by decide) cst_3 (by rw [← hm, ← ho]; rfl)) (txt_f m o 12 (by decide) cst_12 (by rw [← hm, ← ho]; rfl)) (txt_f m o 14 (by decide) cst_14 (by rw [← hm, ← ho]; rfl)) (txt_f m o 4 (by decide) cst_4 (by rw [← hm, ← ho]; rfl)) (txt_f m o 7 (by decide) cst_7 (by rw [← hm, ← ho]; rfl)) (txt_f m o 8 (by decide) cst_8 (by rw [← hm, ← ho]; rfl)) (txt_f m o 9 (by decide) cst_9 (by rw [← hm, ← ho]; rfl)) (txt_f m o 10 (by decide) cst_10 (by rw [← hm, ← ho]; rfl))).mono ?_
      rintro e' w' ⟨vi, h1, h2, h3⟩
      exact ⟨vi, by rw [h1, e, hi]; rfl, by rw [e]; exact h2, h3⟩
    · refine (rfind_11 m o (mn m) (on o) w q1 q2 hM hO (txt_f m o 0 (by decide) cst_0 (by rw [← hm, ← ho]; rfl)) (txt_f m o 2 (by decide) cst_2 (by rw [← hm, ← ho]; rfl)) (txt_f m o 5 (by decide) cst_5 (by rw [← hm, ← ho]; rfl)) (txt_f m o 6 (by decide) cst_6 (by rw [← hm, ← ho]; rfl)) (txt_f m o 11 (by decide) cst_11 (by rw [← hm, ← ho]; rfl))).mono ?_
      rintro e' w' ⟨vi, h1, h2, h3⟩
      exact ⟨vi, by rw [h1, e, hi]; rfl, by rw [e]; exact h2, h3⟩
    · refine (rfind_12 m o (mn m) (on o) w q1 q2 hM hO (txt_f m o 0 (by decide) cst_0 (by rw [← hm, ← ho]; rfl)) (txt_f m o 2 (by decide) cst_2 (by rw [← hm, ← ho]; rfl)) (txt_f m o 5 (by decide) cst_5 (by rw [← hm, ← ho]; rfl)) (txt_f m o 6 (by decide) cst_6 (by rw [← hm, ← ho]; rfl)) (txt_f m o 11 (by decide) cst_11 (by rw [← hm, ← ho]; rfl)) (txt_f m o 13 (by decide) cst_13 (by rw [← hm, ← ho]; rfl)) (txt_f m o 1 (by decide) cst_1 (by rw [← hm, ← ho]; rfl)) (txt_f m o 3 (by decide) cst_3 (by rw [← hm, ← ho]; rfl)) (txt_f m o 12 (by decide) cst_12 (by rw [← hm, ← ho]; rfl))).mono ?_
      rintro e' w' ⟨vi, h1, h2, h3⟩
      exact ⟨vi, by rw [h1, e, hi]; rfl, by rw [e]; exact h2, h3⟩
    · refine (rfind_13 m o (mn m) (on o) w q1 q2 hM hO (txt_f m o 0 (by decide) cst_0 (by rw [← hm, ← ho]; rfl)) (txt_f m o 2 (by decide) cst_2 (by rw [← hm, ← ho]; rfl)) (txt_f m o 5 (by decide) cst_5 (by rw [← hm, ← ho]; rfl)) (txt_f m o 6 (by decide) cst_6 (by rw [← hm, ← ho]; rfl)) (txt_f m o 11 (by decide) cst_11 (by rw [← hm, ← ho]; rfl)) (txt_f m o 13 (by decide) cst_13 (by rw [← hm, ← ho]; rfl))).mono ?_
      rintro e' w' ⟨vi, h1, h2, h3⟩
      exact ⟨vi, by rw [h1, e, hi]; rfl, by rw [e]; exact h2, h3⟩
    · refine (rfind_14 m o (mn m) (on o) w q1 q2 hM hO (txt_f m o 0 (by decide) cst_0 (by rw [← hm, ← ho]; rfl)) (txt_f m o 2 (by decide) cst_2 (by rw [← hm, ← ho]; rfl)) (txt_f m o 5 (by decide) cst_5 (by rw [← hm, ← ho]; rfl)) (txt_f m o 6 (by decide) cst_6 (by rw [← hm, ← ho]; rfl)) (txt_f m o 11 (by decide) cst_11 (by rw [← hm, ← ho]; rfl)) (txt_f m o 13 (by decide) cst_13 (by rw [← hm, ← ho]; rfl)) (txt_f m o 1 (by decide) cst_1 (by rw [← hm, ← ho]; rfl)) (txt_f m o 3 (by decide) cst_3 (by rw [← hm, ← ho]; rfl)) (txt_f m o 12 (by decide) cst_12 (by rw [← hm, ← ho]; rfl)) (txt_f m o 14 (by decide) cst_14 (by rw [← hm, ← ho]; rfl))).mono ?_
      rintro e' w' ⟨vi, h1, h2, h3⟩
      exact ⟨vi, by rw [h1, e, hi]; rfl, by rw [e]; exact h2, h3⟩
    · refine (rfind_15 m o (mn m) (on o) w q1 q2 hM hO (txt_f m o 0 (by decide) cst_0 (by rw [← hm, ← ho]; rfl)) (txt_f m o 2 (by decide) cst_2 (by rw [← hm, ← ho]; rfl)) (txt_f m o 5 (by decide) cst_5 (by rw [← hm, ← ho]; rfl)) (txt_f m o 6 (by decide) cst_6 (by rw [← hm, ← ho]; rfl)) (txt_f m o 11 (by decide) cst_11 (by rw [← hm, ← ho]; rfl)) (txt_f m o 13 (by decide) cst_13 (by rw [← hm, ← ho]; rfl)) (txt_f m o 1 (by decide) cst_1 (by rw [← hm, ← ho]; rfl)) (txt_f m o 3 (by decide) cst_3 (by rw [← hm, ← ho]; rfl)) (txt_f m o 12 (by decide) cst_12 (by rw [← hm, ← ho]; rfl)) (txt_f m o 14 (by decide) cst_14 (by rw [← hm, ← ho]; rfl)) (txt_f m o 4 (by decide) cst_4 (by rw [← hm, ← ho]; rfl)) (txt_f m o 7 (by decide) cst_7 (by rw [← hm, ← ho]; rfl)) (txt_f m o 8 (by decide) cst_8 (by rw [← hm, ← ho]; rfl)) (txt_f m o 9 (by decide) cst_9 (by rw [← hm, ← ho]; rfl)) (txt_f m o 10 (by decide) cst_10 (by rw [← hm, ← ho]; rfl)) (txt_f m o 15 (by decide) cst_15 (by rw [← hm, ← ho]; rfl))).mono ?_
      rintro e' w' ⟨vi, h1, h2, h3⟩
      exact ⟨vi, by rw [h1, e, hi]; rfl, by rw [e]; exact h2, h3⟩
    · refine (rfind_16 m o (mn m) (on o) w q1 q2 hM hO (txt_f m o 0 (by decide) cst_0 (by rw [← hm, ← ho]; rfl)) (txt_f m o 2 (by decide) cst_2 (by rw [← hm, ← ho]; rfl)) (txt_f m o 5 (by decide) cst_5 (by rw [← hm, ← ho]; rfl)) (txt_f m o 6 (by decide) cst_6 (by rw [← hm, ← ho]; rfl)) (txt_f m o 11 (by decide) cst_11 (by rw [← hm, ← ho]; rfl)) (txt_f m o 13 (by decide) cst_13 (by rw [← hm, ← ho]; rfl)) (txt_f m o 1 (by decide) cst_1 (by rw [← hm, ← ho]; rfl)) (txt_f m o 3 (by decide) cst_3 (by rw [← hm, ← ho]; rfl)) (txt_f m o 12 (by decide) cst_12 (by rw [← hm, ← ho]; rfl)) (txt_f m o 14 (by decide) cst_14 (by rw [← hm, ← ho]; rfl)) (txt_f m o 4 (by decide) cst_4 (by rw [← hm, ← ho]; rfl)) (txt_f m o 7 (by decide) cst_7 (by rw [← hm, ← ho]; rfl)) (txt_f m o 8 (by decide) cst_8 (by rw [← hm, ← ho]; rfl)) (txt_f m o 9 (by decide) cst_9 (by rw [← hm, ← ho]; rfl)) (txt_f m o 10 (by decide) cst_10 (by rw [← hm, ← ho]; rfl)) (txt_f m o 15 (by decide) cst_15 (by rw [← hm, ← ho]; rfl)) (txt_f m o 16 (by decide) cst_16 (by rw [← hm, ← ho]; rfl))).mono ?_
      rintro e' w' ⟨vi, h1, h2, h3⟩
      exact ⟨vi, by rw [h1, e, hi]; rfl, by rw [e]; exact h2, h3⟩
    · refine (rfind_17 m o (mn m) (on o) w q1 q2 hM hO (txt_f m o 0 (by decide) cst_0 (by rw [← hm, ← ho]; rfl)) (txt_f m o 2 (by decide) cst_2 (by rw [← hm, ← ho]; rfl)) (txt_f m o 5 (by decide) cst_5 (by rw [← hm, ← ho]; rfl)) (txt_f m o 6 (by decide) cst_6 (by rw [← hm, ← ho]; rfl)) (txt_f m o 11 (by decide) cst_11 (by rw [← hm, ← ho]; rfl)) (txt_f m o 13 (by decide) cst_13 (by rw [← hm, ← ho]; rfl)) (txt_f m o 1 (by decide) cst_1 (by rw [← hm, ← ho]; rfl)) (txt_f m o 3 (by decide) cst_3 (by rw [← hm, ← ho]; rfl)) (txt_f m o 12 (by decide) cst_12 (by rw [← hm, ← ho]; rfl)) (txt_f m o 14 (by decide) cst_14 (by rw [← hm, ← ho]; rfl)) (txt_f m o 4 (by decide) cst_4 (by rw [← hm, ← ho]; rfl)) (txt_f m o 7 (by decide) cst_7 (by rw [← hm, ← ho]; rfl)) (txt_f m o 8 (by decide) cst_8 (by rw [← hm, ← ho]; rfl)) (txt_f m o 9 (by decide) cst_9 (by rw [← hm, ← ho]; rfl)) (txt_f m o 10 (by decide) cst_10 (by rw [← hm, ← ho]; rfl)) (txt_f m o 15 (by decide) cst_15 (by rw [← hm, ← ho]; rfl)) (txt_f m o 16 (by decide) cst_16 (by rw [← hm, ← ho]; rfl)) (txt_f m o 17 (by decide) cst_17 (by rw [← hm, ← ho]; rfl))).mono ?_
      rintro e' w' ⟨vi, h1, h2, h3⟩
      exact ⟨vi, by rw [h1, e, hi]; rfl, by rw [e]; exact h2, h3⟩
    · refine (rfind_18 m o (mn m) (on o) w q1 q2 hM hO (txt_f m o 0 (by decide) cst_0 (by rw [← hm, ← ho]; rfl)) (txt_f m o 2 (by decide) cst_2 (by rw [← hm, ← ho]; rfl)) (txt_f m o 5 (by decide) cst_5 (by rw [← hm, ← ho]; rfl)) (txt_f m o 6 (by decide) cst_6 (by rw [← hm, ← ho]; rfl)) (txt_f m o 11 (by decide) cst_11 (by rw [← hm, ← ho]; rfl)) (txt_f m o 13 (by decide) cst_13 (by rw [← hm, ← ho]; rfl)) (txt_f m o 1 (by decide) cst_1 (by rw [← hm, ← ho]; rfl)) (txt_f m o 3 (by decide) cst_3 (by rw [← hm, ← ho]; rfl)) (txt_f m o 12 (by decide) cst_12 (by rw [← hm, ← ho]; rfl)) (txt_f m o 14 (by decide) cst_14 (by rw [← hm, ← ho]; rfl)) (txt_f m o 4 (by decide) cst_4 (by rw [← hm, ← ho]; rfl)) (txt_f m o 7 (by decide) cst_7 (by rw [← hm, ← ho]; rfl)) (txt_f m o 8 (by decide) cst_8 (by rw [← hm, ← ho]; rfl)) (txt_f m o 9 (by decide) cst_9 (by rw [← hm, ← ho]; rfl)) (txt_f m o 10 (by decide) cst_10 (by rw [← hm, ← ho]; rfl)) (txt_f m o 15 (by decide) cst_15 (by rw [← hm, ← ho]; rfl)) (txt_f m o 16 (by decide) cst_16 (by rw [← hm, ← ho]; rfl)) (txt_f m o 17 (by decide) cst_17 (by rw [← hm, ← ho]; rfl)) (txt_f m o 18 (by decide) cst_18 (by rw [← hm, ← ho]; rfl))).mono ?_
      rintro e' w' ⟨vi, h1, h2, h3⟩
      exact ⟨vi, by rw [h1, e, hi]; rfl, by rw [e]; exact h2, h3⟩
    · refine (rfind_19 m o (mn m) (on o) w q1 q2 hM hO (txt_f m o 0 (by decide) cst_0 (by rw [← hm, ← ho]; rfl)) (txt_f m o 2 (by decide) cst_2 (by rw [← hm, ← ho]; rfl)) (txt_f m o 5 (by decide) cst_5 (by rw [← hm, ← ho]; rfl)) (txt_f m o 6 (by decide) cst_6 (by rw [← hm, ← ho]; rfl)) (txt_f m o 11 (by decide) cst_11 (by rw [← hm, ← ho]; rfl)) (txt_f m o 13 (by decide) cst_13 (by rw [← hm, ← ho]; rfl)) (txt_f m o 1 (by decide) cst_1 (by rw [← hm, ← ho]; rfl)) (txt_f m o 3 (by decide) cst_3 (by rw [← hm, ← ho]; rfl)) (txt_f m o 12 (by decide) cst_12 (by rw [← hm, ← ho]; rfl)) (txt_f m o 14 (by decide) cst_14 (by rw [← hm, ← ho]; rfl)) (txt_f m o 4 (by decide) cst_4 (by rw [← hm, ← ho]; rfl)) (txt_f m o 7 (by decide) cst_7 (by rw [← hm, ← ho]; rfl)) (txt_f m o 8 (by decide) cst_8 (by rw [← hm, ← ho]; rfl)) (txt_f m o 9 (by decide) cst_9 (by rw [← hm, ← ho]; rfl)) (txt_f m o 10 (by decide) cst_10 (by rw [← hm, ← ho]; rfl)) (txt_f m o 15 (by decide) cst_15 (by rw [← hm, ← ho]; rfl)) (txt_f m o 16 (by decide) cst_16 (by rw [← hm, ← ho]; rfl)) (txt_f m o 17 (by decide) cst_17 (by rw [← hm, ← ho]; rfl)) (txt_f m o 18 (by decide) cst_18 (by rw [← hm, ← ho]; rfl)) (txt_f m o 19 (by decide) cst_19 (by rw [← hm, ← ho]; rfl))).mono ?_
      rintro e' w' ⟨vi, h1, h2, h3⟩
      exact ⟨vi, by rw [h1, e, hi]; rfl, by rw [e]; exact h2, h3⟩
    · refine (rfind_20 m o (mn m) (on o) w q1 q2 hM hO (txt_f m o 0 (by decide) cst_0 (by rw [← hm, ← ho]; rfl)) (txt_f m o 2 (by decide) cst_2 (by rw [← hm, ← ho]; rfl)) (txt_f m o 5 (by decide) cst_5 (by rw [← hm, ← ho]; rfl)) (txt_f m o 6 (by decide) cst_6 (by rw [← hm, ← ho]; rfl)) (txt_f m o 11 (by decide) cst_11 (by rw [← hm, ← ho]; rfl)) (txt_f m o 13 (by decide) cst_13 (by rw [← hm, ← ho]; rfl)) (txt_f m o 1 (by decide) cst_1 (by rw [← hm, ← ho]; rfl)) (txt_f m o 3 (by decide) cst_3 (by rw [← hm, ← ho]; rfl)) (txt_f m o 12 (by decide) cst_12 (by rw [← hm, ← ho]; rfl)) (txt_f m o 14 (by decide) cst_14 (by rw [← hm, ← ho]; rfl)) (txt_f m o 4 (by decide) cst_4 (by rw [← hm, ← ho]; rfl)) (txt_f m o 7 (by decide) cst_7 (by rw [← hm, ← ho]; rfl)) (txt_f m o 8 (by decide) cst_8 (by rw [← hm, ← ho]; rfl)) (txt_f m o 9 (by decide) cst_9 (by rw [← hm, ← ho]; rfl)) (txt_f m o 10 (by decide) cst_10 (by rw [← hm, ← ho]; rfl)) (txt_f m o 15 (by decide) cst_15 (by rw [← hm, ← ho]; rfl)) (txt_f m o 16 (by decide) cst_16 (by rw [← hm, ← ho]; rfl)) (txt_f m o 17 (by decide) cst_17 (by rw [← hm, ← ho]; rfl)) (txt_f m o 18 (by decide) cst_18 (by rw [← hm, ← ho]; rfl)) (txt_f m o 19 (by decide) cst_19 (by rw [← hm, ← ho]; rfl)) (txt_f m o 22 (by decide) cst_22 (by rw [← hm, ← ho]; rfl)) (txt_f m o 20 (by decide) cst_20 (by rw [← hm, ← ho]; rfl))).mono ?_
      rintro e' w' ⟨vi, h1, h2, h3⟩
      exact ⟨vi, by rw [h1, e, hi]; rfl, by rw [e]; exact h2, h3⟩
    · refine (rfind_21 m o (mn m) (on o) w q1 q2 hM hO (txt_f m o 0 (by decide) cst_0 (by rw [← hm, ← ho]; rfl)) (txt_f m o 2 (by decide) cst_2 (by rw [← hm, ← ho]; rfl)) (txt_f m o 5 (by decide) cst_5 (by rw [← hm, ← ho]; rfl)) (txt_f m o 6 (by decide) cst_6 (by rw [← hm, ← ho]; rfl)) (txt_f m o 11 (by decide) cst_11 (by rw [← hm, ← ho]; rfl)) (txt_f m o 13 (by decide) cst_13 (by rw [← hm, ← ho]; rfl)) (txt_f m o 1 (by decide) cst_1 (by rw [← hm, ← ho]; rfl)) (txt_f m o 3 (by decide) cst_3 (by rw [← hm, ← ho]; rfl)) (txt_f m o 12 (by decide) cst_12 (by rw [← hm, ← ho]; rfl)) (txt_f m o 14 (by decide) cst_14 (by rw [← hm, ← ho]; rfl)) (txt_f m o 4 (by decide) cst_4 (by rw [← hm, ← ho]; rfl)) (txt_f m o 7 (by decide) cst_7 (by rw [← hm, ← ho]; rfl)) (txt_f m o 8 (by decide) cst_8 (by rw [← hm, ← ho]; rfl)) (txt_f m o 9 (by decide) cst_9 (by rw [← hm, ← ho]; rfl)) (txt_f m o 10 (by decide) cst_10 (by rw [← hm, ← ho]; rfl)) (txt_f m o 15 (by decide) cst_15 (by rw [← hm, ← ho]; rfl)) (txt_f m o 16 (by decide) cst_16 (by rw [← hm, ← ho]; rfl)) (txt_f m o 17 (by decide) cst_17 (by rw [← hm, ← ho]; rfl)) (txt_f m o 18 (by decide) cst_18 (by rw [← hm, ← ho]; rfl)) (txt_f m o 19 (by decide) cst_19 (by rw [← hm, ← ho]; rfl)) (txt_f m o 22 (by decide) cst_22 (by rw [← hm, ← ho]; rfl)) (txt_f m o 20 (by decide) cst_20 (by rw [← hm, ← ho]; rfl)) (txt_f m o 21 (by decide) cst_21 (by rw [← hm, ← ho]; rfl))).mono ?_
      rintro e' w' ⟨vi, h1, h2, h3⟩
      exact ⟨vi, by rw [h1, e, hi]; rfl, by rw [e]; exact h2, h3⟩
    · refine (rfind_22 m o (mn m) (on o) w q1 q2 hM hO (txt_f m o 0 (by decide) cst_0 (by rw [← hm, ← ho]; rfl)) (txt_f m o 2 (by decide) cst_2 (by rw [← hm, ← ho]; rfl)) (txt_f m o 5 (by decide) cst_5 (by rw [← hm, ← ho]; rfl)) (txt_f m o 6 (by decide) cst_6 (by rw [← hm, ← ho]; rfl)) (txt_f m o 11 (by decide) cst_11 (by rw [← hm, ← ho]; rfl)) (txt_f m o 13 (by decide) cst_13 (by rw [← hm, ← ho]; rfl)) (txt_f m o 1 (by decide) cst_1 (by rw [← hm, ← ho]; rfl)) (txt_f m o 3 (by decide) cst_3 (by rw [← hm, ← ho]; rfl)) (txt_f m o 12 (by decide) cst_12 (by rw [← hm, ← ho]; rfl)) (txt_f m o 14 (by decide) cst_14 (by rw [← hm, ← ho]; rfl)) (txt_f m o 4 (by decide) cst_4 (by rw [← hm, ← ho]; rfl)) (txt_f m o 7 (by decide) cst_7 (by rw [← hm, ← ho]; rfl)) (txt_f m o 8 (by decide) cst_8 (by rw [← hm, ← ho]; rfl)) (txt_f m o 9 (by decide) cst_9 (by rw [← hm, ← ho]; rfl)) (txt_f m o 10 (by decide) cst_10 (by rw [← hm, ← ho]; rfl)) (txt_f m o 15 (by decide) cst_15 (by rw [← hm, ← ho]; rfl)) (txt_f m o 16 (by decide) cst_16 (by rw [← hm, ← ho]; rfl)) (txt_f m o 17 (by decide) cst_17 (by rw [← hm, ← ho]; rfl)) (txt_f m o 18 (by decide) cst_18 (by rw [← hm, ← ho]; rfl)) (txt_f m o 19 (by decide) cst_19 (by rw [← hm, ← ho]; rfl)) (txt_f m o 22 (by decide) cst_22 (by rw [← hm, ← ho]; rfl))).mono ?_
      rintro e' w' ⟨vi, h1, h2, h3⟩
      exact ⟨vi, by rw [h1, e, hi]; rfl, by rw [e]; exact h2, h3⟩
    · refine (rfind_23 m o (mn m) (on o) w q1 q2 hM hO (txt_f m o 0 (by decide) cst_0 (by rw [← hm, ← ho]; rfl)) (txt_f m o 2 (by decide) cst_2 (by rw [← hm, ← ho]; rfl)) (txt_f m o 5 (by decide) cst_5 (by rw [← hm, ← ho]; rfl)) (txt_f m o 6 (by decide) cst_6 (by rw [← hm, ← ho]; rfl)) (txt_f m o 11 (by decide) cst_11 (by rw [← hm, ← ho]; rfl)) (txt_f m o 13 (by decide) cst_13 (by rw [← hm, ← ho]; rfl)) (txt_f m o 1 (by decide) cst_1 (by rw [← hm, ← ho]; rfl)) (txt_f m o 3 (by decide) cst_3 (by rw [← hm, ← ho]; rfl)) (txt_f m o 12 (by decide) cst_12 (by rw [← hm, ← ho]; rfl)) (txt_f m o 14 (by decide) cst_14 (by rw [← hm, ← ho]; rfl)) (txt_f m o 4 (by decide) cst_4 (by rw [← hm, ← ho]; rfl)) (txt_f m o 7 (by decide) cst_7 (by rw [← hm, ← ho]; rfl)) (txt_f m o 8 (by decide) cst_8 (by rw [← hm, ← ho]; rfl)) (txt_f m o 9 (by decide) cst_9 (by rw [← hm, ← ho]; rfl)) (txt_f m o 10 (by decide) cst_10 (by rw [← hm, ← ho]; rfl)) (txt_f m o 15 (by decide) cst_15 (by rw [← hm, ← ho]; rfl)) (txt_f m o 16 (by decide) cst_16 (by rw [← hm, ← ho]; rfl)) (txt_f m o 17 (by decide) cst_17 (by rw [← hm, ← ho]; rfl)) (txt_f m o 18 (by decide) cst_18 (by rw [← hm, ← ho]; rfl)) (txt_f m o 19 (by decide) cst_19 (by rw [← hm, ← ho]; rfl)) (txt_f m o 22 (by decide) cst_22 (by rw [← hm, ← ho]; rfl)) (txt_f m o 20 (by decide) cst_20 (by rw [← hm, ← ho]; rfl)) (txt_f m o 21 (by decide) cst_21 (by rw [← hm, ← ho]; rfl)) (txt_f m o 23 (by decide) cst_23 (by rw [← hm, ← ho]; rfl))).mono ?_
      rintro e' w' ⟨vi, h1, h2, h3⟩
      exact ⟨vi, by rw [h1, e, hi]; rfl, by rw [e]; exact h2, h3⟩
  · refine (rfind_no m o (mn m) (on o) w q1 q2 hM hO (txt_f m o 0 (by decide) cst_0 (no_b (hno 0 (by decide)))) (txt_f m o 2 (by decide) cst_2 (no_b (hno 2 (by decide)))) (txt_f m o 5 (by decide) cst_5 (no_b (hno 5 (by decide)))) (txt_f m o 6 (by decide) cst_6 (no_b (hno 6 (by decide)))) (txt_f m o 11 (by decide) cst_11 (no_b (hno 11 (by decide)))) (txt_f m o 13 (by decide) cst_13 (no_b (hno 13 (by decide)))) (txt_f m o 1 (by decide) cst_1 (no_b (hno 1 (by decide)))) (txt_f m o 3 (by decide) cst_3 (no_b (hno 3 (by decide)))) (txt_f m o 12 (by decide) cst_12 (no_b (hno 12 (by decide)))) (txt_f m o 14 (by decide) cst_14 (no_b (hno 14 (by decide)))) (txt_f m o 4 (by decide) cst_4 (no_b (hno 4 (by decide)))) (txt_f m o 7 (by decide) cst_7 (no_b (hno 7 (by decide)))) (txt_f m o 8 (by decide) cst_8 (no_b (hno 8 (by decide)))) (txt_f m o 9 (by decide) cst_9 (no_b (hno 9 (by decide)))) (txt_f m o 10 (by decide) cst_10 (no_b (hno 10 (by decide)))) (txt_f m o 15 (by decide) cst_15 (no_b (hno 15 (by decide)))) (txt_f m o 16 (by decide) cst_16 (no_b (hno 16 (by decide)))) (txt_f m o 17 (by decide) cst_17 (no_b (hno 17 (by decide)))) (txt_f m o 18 (by decide) cst_18 (no_b (hno 18 (by decide)))) (txt_f m o 19 (by decide) cst_19 (no_b (hno 19 (by decide)))) (txt_f m o 22 (by decide) cst_22 (no_b (hno 22 (by decide)))) (txt_f m o 20 (by decide) cst_20 (no_b (hno 20 (by decide)))) (txt_f m o 21 (by decide) cst_21 (no_b (hno 21 (by decide)))) (txt_f m o 23 (by decide) cst_23 (no_b (hno 23 (by decide))))).mono ?_
    rintro e' w' ⟨vi, h1, h2, h3⟩
    exact ⟨vi, by rw [h1, e, hi]; rfl, by rw [e]; exact h2, h3⟩
end Go.Proofs.YtpboleifllcehaaDoor
