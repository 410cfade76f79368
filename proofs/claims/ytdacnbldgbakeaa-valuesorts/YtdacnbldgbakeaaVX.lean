/- The two sorts are one; the walk of ValueSorts. No conditions. -/
import Derived.Test.YtdacnbldgbakeaaVW
import Derived.Test.YtdacnbldgbakeaaVU
import Derived.Test.YtdacnbldgbakeaaVE
namespace Go.Proofs.Ytdacnbldgbakeaa
open Go.RowKit Go.PlainAid Go.Sort Go.Lib Go.Shelf
set_option linter.unusedVariables false

theorem nv_mem {xs : List Val} {i : Nat} (h : i < xs.length) : nv xs i ∈ xs := by rw [nv_eq xs i h]; exact List.getElem_mem h
theorem lt_le {x y : Val} (h : ltV x y = true) : leV x y = true := by
  rw [ltV_cv, decide_eq_true_iff] at h; rw [leV_iff]; omega
theorem ge_le {x y : Val} (h : ltV x y = false) : leV y x = true := by
  rw [ltV_cv, decide_eq_false_iff_not] at h
  have := good_cv.2.1 x y
  rw [leV_iff]; omega
theorem le_trans3 {x y z : Val} (h : leV x y = true) (k : leV y z = true) : leV x z = true := by
  rw [leV_iff] at *; exact good_cv.2.2.2 x y z h k
theorem le_anti {x y : Val} (h : leV x y = true) (k : leV y x = true) : x = y := by
  rw [leV_iff] at *
  have := good_cv.2.1 x y
  exact (good_cv.2.2.1 x y).1 (by omega)
theorem le_total3 (x y : Val) : (leV x y || leV y x) = true := by
  cases h : leV x y
  · have h' : ¬ leV x y = true := by rw [h]; decide
    rw [leV_iff] at h'
    have := good_cv.2.1 x y
    simp only [Bool.false_or]
    rw [leV_iff]; omega
  · rfl

/-- what stands ahead of the place is not behind x, what stands from it on is -/
theorem posK_spec (x : Val) (out : List Val) (hs : out.Pairwise fun a b => leV a b = true) : ∀ k, k ≤ out.length → (∀ i, i < posK x out k → leV (nv out i) x = true) ∧ (∀ i, posK x out k ≤ i → i < k → leV x (nv out i) = true)
  | 0, _ => ⟨fun i h => absurd h (Nat.not_lt_zero _), fun i _ h => absurd h (Nat.not_lt_zero _)⟩
  | k + 1, hk => by
    cases h : ltV x (nv out k)
    · rw [posK_stop h]
      refine ⟨fun i hi => ?_, fun i h1 h2 => by omega⟩
      have hkx := ge_le h
      by_cases e : i = k
      · subst e; exact hkx
      · have hp := List.pairwise_iff_getElem.1 hs i k (by omega) (by omega) (by omega)
        rw [← nv_eq out i (by omega), ← nv_eq out k (by omega)] at hp
        exact le_trans3 hp hkx
    · rw [posK_less h]
      obtain ⟨ih1, ih2⟩ := posK_spec x out hs k (by omega)
      refine ⟨ih1, fun i h1 h2 => ?_⟩
      by_cases e : i = k
      · subst e; exact lt_le h
      · exact ih2 i h1 (by omega)
theorem insL_sorted (x : Val) (out : List Val) (hs : out.Pairwise fun a b => leV a b = true) : (insL x out).Pairwise fun a b => leV a b = true := by
  obtain ⟨h1, h2⟩ := posK_spec x out hs out.length (Nat.le_refl _)
  have hle := posK_le x out out.length
  unfold insL
  generalize posK x out out.length = p at *
  have ha : ∀ a ∈ out.take p, leV a x = true := by
    intro a ha
    obtain ⟨i, hi, rfl⟩ := List.getElem_of_mem ha
    have hi' : i < p := by rw [List.length_take] at hi; omega
    have := h1 i hi'
    rw [nv_eq out i (by omega)] at this
    rw [List.getElem_take]; exact this
  have hb : ∀ b ∈ out.drop p, leV x b = true := by
    intro b hb
    obtain ⟨i, hi, rfl⟩ := List.getElem_of_mem hb
    rw [List.length_drop] at hi
    have := h2 (p + i) (by omega) (by omega)
    rw [nv_eq out (p + i) (by omega)] at this
    rw [List.getElem_drop]; exact this
  rw [List.append_assoc, List.pairwise_append]
  refine ⟨hs.sublist (List.take_sublist _ _), ?_, ?_⟩
  · show (x :: out.drop p).Pairwise _
    rw [List.pairwise_cons]
    exact ⟨hb, hs.sublist (List.drop_sublist _ _)⟩
  · intro a ha' b hb'
    have hb2 : b ∈ x :: out.drop p := hb'
    rcases List.mem_cons.1 hb2 with rfl | h
    · exact ha a ha'
    · exact le_trans3 (ha a ha') (hb b h)
theorem insL_perm (x : Val) (out : List Val) : (insL x out).Perm (x :: out) := by
  unfold insL
  generalize posK x out out.length = p
  have h : (out.take p ++ [x] ++ out.drop p).Perm (x :: (out.take p ++ out.drop p)) := by
    rw [List.append_assoc]; exact List.perm_middle
  rwa [List.take_append_drop] at h
theorem srtN_sorted (l : List Val) : ∀ k, (srtN l k).Pairwise fun a b => leV a b = true
  | 0 => List.Pairwise.nil
  | k + 1 => insL_sorted _ _ (srtN_sorted l k)
theorem srtN_perm (l : List Val) : ∀ k, k ≤ l.length → (srtN l k).Perm (l.take k)
  | 0, _ => by rw [List.take_zero]; exact List.Perm.refl _
  | k + 1, hk => by
    have e : l.take (k + 1) = l.take k ++ [nv l k] := by rw [nv_eq l k (by omega), List.take_succ_eq_append_getElem (by omega)]
    rw [e]
    refine (insL_perm (nv l k) (srtN l k)).trans ?_
    refine List.Perm.trans (List.Perm.cons _ (srtN_perm l k (by omega))) ?_
    exact (List.perm_append_singleton _ _).symm
theorem srtN_all (l : List Val) : srtN l l.length = sortL l := by
  refine List.Perm.eq_of_pairwise (le := fun a b => leV a b = true) (fun a b _ _ h k => le_anti h k) (srtN_sorted l _) ?_ ?_
  · have h := List.pairwise_mergeSort (le := leV) (fun a b c (h : leV a b = true) (k : leV b c = true) => le_trans3 h k) (fun a b => le_total3 a b) l
    unfold sortL
    exact h
  · have := srtN_perm l l.length (Nat.le_refl _)
    rw [List.take_length] at this
    exact this.trans (List.mergeSort_perm l leV).symm

theorem own_none (w : World) : OwnV (w.alloc (.cells #[] 25)) w.heap.size (.slice (some ⟨w.heap.size, 0, none⟩) 0 0) [] :=
  World.ownsRow_made w #[] 0 (Nat.le_refl _) (by unfold maxLen; omega) rfl

set_option maxHeartbeats 2000000 in
theorem law_sorts (v : Value) (l : List Val) (w : World) (hv : VSl w v l) : Calls Try.prog 5 #[v] w fun e w' => e = .returned (.bool true) ∧ Below w.heap.size w w' := by
  have HV : Hid (VSl w v l) := hv
  obtain ⟨a, c, rfl, _, _, _⟩ := hv.form
  clear hv
  go_enter Try.func5, Try.ntmps5
  go_wp2_with fail
  refine (wakes_any _).mono ?_
  rintro e w1 ⟨rfl, hb1⟩
  go_wp2_with fail
  refine (great_any _ l w1 (HV.out.later hb1)).mono ?_
  rintro e w2 ⟨bb, rfl, hf, hb2⟩
  have h2w := below_next hb1 hb2
  clear hb1 hb2
  cases bb with
  | true =>
    go_wp2
    go_ret
    exact ⟨rfl, h2w⟩
  | false =>
    have hn : l.length ≤ 40 := (hf rfl).1
    clear hf
    have H2 : Hid (VSl w2 (.slice a l.length c) l) := HV.out.later h2w
    go_wp2_with (first
      | (at_builtin; refine wpList_appendV rfl (.tmp 9) (.tmp 10) rfl w2.heap.size (.slice (some ⟨w2.heap.size, 0, none⟩) 0 0) [] rfl (own_none w2) (.slice a l.length c) l rfl (H2.out.later (below_more (Below.refl _ _) _)) (by simp; omega) (by simp) ?_; intro v3 w3 o3 g3 e3; have H3 : Hid (OwnV w3 w2.heap.size v3 ([] ++ l)) := o3; have h3b : Below w2.heap.size w2 w3 := below_own (own_none w2) g3 (below_more (Below.refl _ _) _) (by simp); clear o3 g3 e3))
    have s3 : VSl w3 v3 l := H3.out.vsl
    have S3 : Hid (VSl w3 v3 l) := s3
    have L3 : Hid (VSl w3 (.slice a l.length c) l) := H2.out.later h3b
    have h3w := below_next h2w h3b
    clear s3 H2 H3 h3b h2w
    refine (sort_any v3 l w3 S3.out (by omega)).mono ?_
    rintro e w4 ⟨v4, rfl, s4, hb4⟩
    have S4 : Hid (VSl w4 v4 (sortL l)) := s4
    have I4 : Hid (VSl w4 v3 l) := S3.out.later hb4
    have L4 : Hid (VSl w4 (.slice a l.length c) l) := L3.out.later hb4
    have h4w := below_next h3w hb4
    clear s4 S3 L3 hb4 h3w
    go_wp2_with fail
    refine (rsort_any _ l w4 L4.out (by omega)).mono ?_
    rintro e w5 ⟨v5, rfl, s5, hb5⟩
    rw [srtN_all] at s5
    have S5 : Hid (VSl w5 v5 (sortL l)) := s5
    have O5 : Hid (VSl w5 v4 (sortL l)) := S4.out.later hb5
    have I5 : Hid (VSl w5 v3 l) := I4.out.later hb5
    have L5 : Hid (VSl w5 (.slice a l.length c) l) := L4.out.later hb5
    have h5w := below_next h4w hb5
    clear s5 S4 I4 L4 hb5 h4w
    go_wp2_with fail
    refine (same_any v4 v5 (sortL l) (sortL l) w5 O5.out S5.out (by rw [sortL_len]; omega)).mono ?_
    rintro e w6 ⟨rfl, hb6⟩
    rw [sameL_self]
    have I6 : Hid (VSl w6 v3 l) := I5.out.later hb6
    have L6 : Hid (VSl w6 (.slice a l.length c) l) := L5.out.later hb6
    have h6w := below_next h5w hb6
    clear O5 S5 I5 L5 hb6 h5w
    go_wp2_with fail
    refine (same_any v3 _ l l w6 I6.out L6.out (by omega)).mono ?_
    rintro e w7 ⟨rfl, hb7⟩
    rw [sameL_self]
    have h7w := below_next h6w hb7
    go_wp2
    go_ret
    exact ⟨rfl, h7w⟩
end Go.Proofs.Ytdacnbldgbakeaa
