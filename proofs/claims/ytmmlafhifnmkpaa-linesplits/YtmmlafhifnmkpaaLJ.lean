/- The walk of LineSplits. No conditions. -/
import Derived.Test.YtmmlafhifnmkpaaLI
import Derived.Test.YtmmlafhifnmkpaaLC
namespace Go.Proofs.Ytmmlafhifnmkpaa
open Go.RowKit Go.PlainAid
set_option linter.unusedVariables false

theorem bs_app (a b : List UInt8) : bs a ++ bs b = bs (a ++ b) := by
  apply ByteArray.ext
  simp [bs, ByteArray.data_append]
theorem flatC_take (c : UInt8) (L : List (List UInt8)) (k : Nat) (h : k < L.length) : flatC c (L.take (k + 1)) = flatC c (L.take k) ++ (nt L k ++ [c]) := by
  rw [List.take_add_one, nt_some L k h]; exact flatC_snoc c _ _
theorem flatC_take_le (c : UInt8) (L : List (List UInt8)) (k : Nat) : (flatC c (L.take k)).length ≤ (flatC c L).length := by
  have e : flatC c L = flatC c (L.take k) ++ flatC c (L.drop k) := by
    have h : ∀ a b, flatC c (a ++ b) = flatC c a ++ flatC c b := fun a b => by simp [flatC]
    rw [← h, List.take_append_drop]
  rw [e, List.length_append]; omega

set_option maxHeartbeats 4000000 in
theorem law_splits (s : ByteArray) (w : World) : Calls Try.prog 3 #[.string s] w fun e w' => e = .returned (.bool true) ∧ Below w.heap.size w w' := by
  by_cases hs : 2000 < s.size
  · have hs' : (2000 : Int) < (s.size : Int) := by omega
    go_enter Try.func3, Try.ntmps3
    go_wp2_with fail
    refine (wakes_any _).mono ?_
    rintro e w1 ⟨rfl, hb1⟩
    go_wp2
    go_ret
    exact ⟨rfl, hb1⟩
  · have hs' : ¬ (2000 : Int) < (s.size : Int) := by omega
    have h1 := split_any s (by omega)
    have h2 := rsplit_any s
    have hq := eqF
    have hg := eqgF
    have hsf := eqfB_self
    have hcn := cutL_count 10 (tx s)
    rw [tx_len] at hcn
    go_enter Try.func3, Try.ntmps3
    go_wp2_with fail
    refine (wakes_any _).mono ?_
    rintro e w1 ⟨rfl, hb1⟩
    go_wp2_with fail
    refine (h1 _).mono ?_
    rintro e w2 ⟨v, hb2, ⟨hr, rfl, hv⟩ | ⟨hr, rfl⟩⟩
    · replace hb2 := below_next hb1 hb2
      have HV : Hid (SSl w2 v (cutL 10 (tx s)).1) := hv
      have HR : Hid ((cutL 10 (tx s)).2 = []) := hr
      obtain ⟨a, c, rfl, hac, hcm, _⟩ := hv.form
      clear hv hr hb1
      go_wp2_with fail
      have B1 := FBox.new w2 0 0 26
      have hb3 := below_more hb2 (.cells #[.int .i64 0, .int .i64 0] 26)
      replace HV : Hid (SSl (w2.alloc (.cells #[.int .i64 0, .int .i64 0] 26)) (.slice a (cutL 10 (tx s)).1.length c) (cutL 10 (tx s)).1) := HV.out.later (below_more (Below.refl _ _) _)
      obtain ⟨p, hp⟩ : ∃ p, p = w2.heap.size := ⟨_, rfl⟩
      rw [← hp] at B1 ⊢
      clear hp hb2
      generalize w2.alloc (.cells #[.int .i64 0, .int .i64 0] 26) = w3 at B1 hb3 HV ⊢
      refine (h2 _ (by omega)).mono ?_
      rintro e w4 ⟨u, hb4, ⟨_, rfl, hu⟩ | ⟨hr, _⟩⟩
      case inr => exact absurd HR.out hr
      replace B1 := B1.later hb4
      replace HV : Hid (SSl w4 (.slice a (cutL 10 (tx s)).1.length c) (cutL 10 (tx s)).1) := HV.out.later hb4
      replace hb4 := below_next hb3 hb4
      have HU : Hid (SSl w4 u (cutL 10 (tx s)).1) := hu
      have HB1 : Hid (FBox w4 p 0 0) := B1
      have HT : Hid (flatC 10 (cutL 10 (tx s)).1 = tx s) := by have := cutL_text 10 (tx s); rw [HR.out, List.append_nil] at this; exact this
      have HC : Hid (∀ k, (flatC 10 ((cutL 10 (tx s)).1.take k)).length ≤ 2000) := fun k => by have := flatC_take_le 10 (cutL 10 (tx s)).1 k; rw [HT.out, tx_len] at this; omega
      clear hu hb3 B1 HR
      generalize (cutL 10 (tx s)).1 = L at *
      go_wp2_with fail
      go_loop [7, 38] (fun t i => ∃ k : Nat, k ≤ L.length ∧ i = .int .i64 (k : Int) ∧ t = .string (bs (flatC 10 (L.take k)))) (fun t i => L.length - (intOf i).toNat)
      case atStart => exact ⟨0, by omega, rfl, rfl⟩
      case round =>
        obtain ⟨k, hk, rfl, rfl⟩ := hrel
        by_cases hlt : k < L.length
        · have hlt' : (k : Int) < (L.length : Int) := by omega
          obtain ⟨b, o, rfl, hbl⟩ := HV.out.block (by omega)
          have hcell := HV.out.cell (i := k) hlt
          have HF : Hid (flatC 10 (L.take (k + 1)) = flatC 10 (L.take k) ++ (nt L k ++ [10])) := flatC_take 10 L k hlt
          have hl1 := HC.out (k + 1)
          rw [HF.out] at hl1
          simp only [List.length_append, List.length_cons, List.length_nil] at hl1
          have e1 : bs (nt L k) ++ (⟨#[10]⟩ : ByteArray) = bs (nt L k ++ [10]) := bs_app (nt L k) [10]
          have e2 := bs_app (flatC 10 (L.take k)) (nt L k ++ [10])
          have z1 : (bs (nt L k)).size = (nt L k).length := rfl
          have z2 : (bs (flatC 10 (L.take k))).size = (flatC 10 (L.take k)).length := rfl
          have z3 : (bs (nt L k ++ [10])).size = (nt L k).length + 1 := by rw [bs_size]; simp
          have q1 : ¬ 9223372036854775807 < (bs (nt L k)).size + 1 := by omega
          have q2 : ¬ 9223372036854775807 < (bs (flatC 10 (L.take k))).size + (bs (nt L k ++ [10])).size := by omega
          go_wp2
          go_round
          case rel => exact ⟨k + 1, by omega, by go_num, by rw [HF.out]⟩
          case measure => simp [intOf]; omega
        · have e : k = L.length := by omega
          subst e
          rw [List.take_of_length_le (Nat.le_refl _), HT.out]
          obtain ⟨c6, c0, c1, z0, z1⟩ := HB1.out
          have hS := same_any _ _ _ _ w4 HV.out HU.out (by omega)
          rw [sameS_self] at hS
          have tb := bs_tx s
          rw [tb]
          go_wp2_with (go_at_call 8; refine hS.mono ?_; rintro e w5 ⟨rfl, hb5⟩)
          go_ret
          exact ⟨rfl, below_next hb4 hb5⟩
    · replace hb2 := below_next hb1 hb2
      have HR : Hid ((cutL 10 (tx s)).2 ≠ []) := hr
      clear hr hb1
      go_wp2_with fail
      have B1 := FBox.new w2 2 (((cutL 10 (tx s)).1.length : Int) + 1) 26
      have hb3 := below_more hb2 (.cells #[.int .i64 2, .int .i64 (((cutL 10 (tx s)).1.length : Int) + 1)] 26)
      obtain ⟨p, hp⟩ : ∃ p, p = w2.heap.size := ⟨_, rfl⟩
      rw [← hp] at B1 ⊢
      clear hp hb2
      generalize w2.alloc (.cells #[.int .i64 2, .int .i64 (((cutL 10 (tx s)).1.length : Int) + 1)] 26) = w3 at B1 hb3 ⊢
      refine (h2 _ (by omega)).mono ?_
      rintro e w4 ⟨u, hb4, ⟨hr, _, _⟩ | ⟨_, rfl⟩⟩
      · exact absurd hr HR.out
      replace B1 := B1.later hb4
      replace hb4 := below_next hb3 hb4
      generalize (cutL 10 (tx s)).1.length = n at *
      obtain ⟨c6, c0, c1, z0, z1⟩ := B1
      have hpos : (0 : Int) < (n : Int) + 1 := by omega
      go_wp2
      go_ret
      exact ⟨ret_b (by simp), hb4⟩
end Go.Proofs.Ytmmlafhifnmkpaa
