/- The contract of the document's Split: the lines of a text, or the number of the one that has no end. Conditions: at most 900,000 bytes. -/
import Derived.Test.YtmmlafhifnmkpaaLB
namespace Go.Proofs.Ytmmlafhifnmkpaa
open Go.RowKit Go.PlainAid
set_option linter.unusedVariables false

/-- what the document's Split hands back of a text -/
def RSplit (w : World) (l : List UInt8) (e : Ending) (w' : World) : Prop :=
  ∃ v, Below w.heap.size w w' ∧ (((cutL 10 l).2 = [] ∧ e = .returned (.tuple #[v, .int .i64 0]) ∧ SSl w' v (cutL 10 l).1) ∨
    ((cutL 10 l).2 ≠ [] ∧ e = .returned (.tuple #[.slice none 0 0, .int .i64 (((cutL 10 l).1.length : Int) + 1)])))
theorem cutL_count (c : UInt8) (l : List UInt8) : (cutL c l).1.length ≤ l.length := by
  have h : ∀ L : List (List UInt8), L.length ≤ (flatC c L).length := by
    intro L
    induction L with
    | nil => simp [flatC_nil]
    | cons x L ih => rw [flatC_cons]; simp; omega
  have h2 := congrArg List.length (cutL_text c l)
  rw [List.length_append] at h2
  have := h (cutL c l).1
  omega

set_option maxHeartbeats 2000000 in
theorem rsplit_any (s : ByteArray) (w : World) (hz : s.size ≤ 900000) : Calls Try.prog 7 #[.string s] w fun e w' => RSplit w (tx s) e w' := by
  have hbt := get_bt s
  go_enter Try.func7, Try.ntmps7
  go_wp2
  go_loopw [4, 5, 6] (fun v a i w' => ∃ k d : Nat, k ≤ s.size ∧ d ≤ k ∧ a = .int .i64 (d : Int) ∧ i = .int .i64 (k : Int) ∧ Below w.heap.size w w' ∧ OwnS w' w.heap.size v (cutL 10 ((tx s).take k)).1 ∧ (((tx s).take k).drop d) = (cutL 10 ((tx s).take k)).2) (fun v a i w' => s.size - (intOf i).toNat)
  case atStart => exact ⟨0, 0, by omega, by omega, rfl, rfl, Below.refl _ _, OwnS.nil _ _, by rfl⟩
  case round =>
    obtain ⟨k, d, hk, hd, rfl, rfl, hb, hown, hcur⟩ := hrel
    have HO : Hid (OwnS wr w.heap.size u4 (cutL 10 ((tx s).take k)).1) := hown
    have HC : Hid (((tx s).take k).drop d = (cutL 10 ((tx s).take k)).2) := hcur
    have HB : Hid (Below w.heap.size w wr) := hb
    have hcn : (cutL 10 ((tx s).take k)).1.length ≤ 900000 := by have := cutL_count 10 ((tx s).take k); rw [List.length_take, tx_len] at this; omega
    obtain ⟨av, cv, hform⟩ := hown.form
    clear hown hcur hb
    by_cases hlt : k < s.size
    · have hlt' : (k : Int) < (s.size : Int) := by omega
      obtain ⟨b, hb1, hb2, hb3, hb4⟩ := byte_at s k hlt
      by_cases hbc : b = 10
      · subst hbc
        have hb2' : (bt s k == 10) = true := by rw [hb2]; rfl
        have hb2'' : bt s k = 10 := by rw [hb2]; rfl
        obtain ⟨y, hy⟩ : ∃ y, s.extract d k = bs y ∧ y = (cutL 10 ((tx s).take k)).2 := ⟨_, extract_tx s d k, by rw [← HC.out, List.drop_take]⟩
        have hye := hy.1
        have HY : Hid (y = (cutL 10 ((tx s).take k)).2) := hy.2
        have hdk : (d : Int) ≤ (k : Int) := by omega
        have hks : (k : Int) ≤ (s.size : Int) := by omega
        have H3 : Hid ((tx s).take (k + 1) = (tx s).take k ++ [10]) := hb3
        clear hy hb1 hb2 hb3 hb4 hform
        go_wp2_with (at_builtin; refine wpList_appendS rfl (.tmp 17) (.tmp 22) rfl w.heap.size u4 _ rfl (HO.out.later (below_more (Below.refl _ _) _)) ⟨wr.heap.size, 0, none⟩ 1 y rfl (by simp) (by omega) (by have := HB.out.size; simp; omega) ?_; intro v6 w6 o6 g6; have HO6 : Hid (OwnS w6 w.heap.size v6 ((cutL 10 ((tx s).take k)).1 ++ [y])) := o6; have HB6 : Hid (Below w.heap.size w w6) := Below.grown (below_more HB.out _) g6 (by have := HB.out.size; simp; omega) (fun q h => (HO.out.lt q h).1); clear o6 g6)
        go_roundw
        case rel =>
          refine ⟨k + 1, k + 1, by omega, by omega, by go_num, by go_num, HB6.out, ?_, ?_⟩
          · rw [H3.out, cutL_snoc, stp_end, ← HY.out]; exact HO6.out
          · rw [H3.out, cutL_snoc, stp_end, ← H3.out]; exact List.drop_eq_nil_of_le (by rw [List.length_take]; omega)
        case measure => simp [intOf]; omega
      · have hb2' : (bt s k == 10) = false := by rw [hb2]; exact beq_eq_false_iff_ne.2 (fun h => hbc ((byte_eq b 10).1 h))
        have hb2'' : ¬ bt s k = 10 := fun h => hbc ((byte_eq b 10).1 (by rw [← hb2, h]; rfl))
        have H3 : Hid ((tx s).take (k + 1) = (tx s).take k ++ [b]) := hb3
        clear hb1 hb2 hb3 hb4 hform
        go_wp2
        go_roundw
        case rel =>
          refine ⟨k + 1, d, by omega, by omega, rfl, by go_num, HB.out, ?_, ?_⟩
          · rw [H3.out, cutL_snoc, stp_on 10 _ hbc]; exact HO.out
          · rw [H3.out, cutL_snoc, stp_on 10 _ hbc, List.drop_append_of_le_length (by rw [List.length_take, tx_len]; omega), HC.out]
        case measure => simp [intOf]; omega
    · have e : k = s.size := by omega
      subst e
      have ht : (tx s).take s.size = tx s := List.take_of_length_le (by rw [tx_len]; omega)
      rw [ht] at HO HC hcn
      by_cases hdl : d < s.size
      · have hdl' : (d : Int) < (s.size : Int) := by omega
        obtain ⟨n, hn⟩ : ∃ n, (cutL 10 (tx s)).1.length = n := ⟨_, rfl⟩
        rw [ht, hn] at hform
        rw [hn] at hcn
        have HN : Hid ((cutL 10 (tx s)).1.length = n) := hn
        clear hn
        subst hform
        go_wp2
        go_ret2
        refine ⟨.slice none 0 0, HB.out, .inr ⟨fun h => ?_, by rw [HN.out]; rfl⟩⟩
        rw [← HC.out] at h
        have := congrArg List.length h
        rw [List.length_drop, tx_len] at this
        simp at this
        omega
      · have hdl' : ¬ (d : Int) < (s.size : Int) := by omega
        clear hform
        go_wp2
        go_ret2
        exact ⟨u4, HB.out, .inl ⟨by rw [← HC.out]; exact List.drop_eq_nil_of_le (by rw [tx_len]; omega), rfl, HO.out.ssl⟩⟩
end Go.Proofs.Ytmmlafhifnmkpaa
