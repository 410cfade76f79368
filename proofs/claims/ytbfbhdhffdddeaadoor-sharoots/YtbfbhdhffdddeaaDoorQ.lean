/- The rounds' numbers by both, and that each is the fraction of a root: the walk of ShaRoots. Conditions: the table holds the rounds' numbers. -/
import Derived.Test.YtbfbhdhffdddeaaDoorLaid
import Derived.Test.YtbfbhdhffdddeaaDoorF
import Derived.Test.YtbfbhdhffdddeaaDoorPK
namespace Go.Proofs.YtbfbhdhffdddeaaDoor
open Go.RowKit Hx
set_option linter.unusedVariables false

theorem k_any (i : Nat) (hi : i < 64) (w : World) (hK : Kt w) : Calls Tryd.prog 15 #[.int .i64 i] w fun en w' => en = .returned (.int .u32 (nth kTab i)) ∧ w' = w := by
  have c := hK i hi
  have h0 : (0 : Int) ≤ (i : Int) := by omega
  have h1 : (i : Int) < 64 := by omega
  generalize nth kTab i = X at c
  go_enter Tryd.func15, Tryd.ntmps15
  go_wp2
  go_ret
  exact ⟨rfl, rfl⟩
theorem k_no (i : Int) (hi : i < 0 ∨ 63 < i) (w : World) : Calls Tryd.prog 15 #[.int .i64 i] w fun en w' => en = .returned (.int .u32 0) ∧ w' = w := by
  rcases hi with h | h
  · go_enter Tryd.func15, Tryd.ntmps15
    go_wp2
    go_ret
    exact ⟨rfl, rfl⟩
  · have h0 : (0 : Int) ≤ i := by omega
    go_enter Tryd.func15, Tryd.ntmps15
    go_wp2
    go_ret
    exact ⟨rfl, rfl⟩
set_option maxRecDepth 100000 in
theorem rk_any (i : Nat) (hi : i < 64) (w : World) : Calls Tryd.prog 17 #[.int .i64 i] w fun en w' => en = .returned (.int .u32 (nth kTab i)) ∧ Below w.heap.size w w' := by
  have hk : (Tryd.prog.info? 55).map (·.size) = some kTab.length := Tryd.size55
  have h0 : (0 : Int) ≤ (i : Int) := by omega
  have h1 : (i : Int) < 64 := by omega
  obtain ⟨k0, k1⟩ := nth_wd kTab_wd i
  obtain ⟨X, hX⟩ : ∃ X, X = nth kTab i := ⟨_, rfl⟩
  rw [← hX] at k0 k1 ⊢
  have hc : ∀ (w3 : World) (p : Nat), Row w3 p .u64 kTab → w3.cell? ⟨p, i, none⟩ = some (.int .u64 X) := fun w3 p r => by rw [hX]; exact r.cell i (by show i < 64; exact hi)
  clear hX
  go_enter Tryd.func17, Tryd.ntmps17
  go_wp2_with fail
  refine (ks_any _).mono ?_
  rintro e w1 ⟨rfl, hb1⟩
  go_wp2_with (first
    | ((with_reducible refine wp_allocD 3 55 .u64 64 Tryd.zero55 ?_ ?_); (exact ⟨rfl, rfl, rfl⟩); intro p w2 hg2 hr2 hb2)
    | ((with_reducible refine wp_storeR 55 (.tmp 3) (.tmp 10) p .u64 (List.replicate 64 0) kTab hk ?_ ?_ ?_ ?_ hr2 ?_); (exact rfl); (exact ⟨rfl, rfl⟩); (exact rfl); (exact rfl); intro w3 r3 o3; have c := hc _ _ r3))
  go_ret
  exact ⟨rfl, below_only (below_next hb1 hb2) o3 (by have := hb1.size; omega) (Nat.le_refl _)⟩

theorem k_word : ∀ i, i < 64 → ((Pr.rt (Pr.hundred.getD i 0) 3 % 4294967296 : Nat) : Int) = nth kTab i ∧ 2 ≤ Pr.hundred.getD i 0 ∧ Pr.hundred.getD i 0 ≤ 1000 := by decide +kernel

set_option maxRecDepth 100000 in
set_option maxHeartbeats 1000000 in
theorem law_roots (i : Int) (w : World) (hK : Kt w) (h0 : -9223372036854775808 ≤ i) (h1 : i ≤ 9223372036854775807) :
    Calls Tryd.prog 5 #[.int .i64 i] w fun en w' => en = .returned (.bool true) ∧ Below w.heap.size w w' := by
  by_cases hi : i < 0 ∨ 63 < i
  · have HI : Hid (i < 0 ∨ 63 < i) := hi
    rcases hi with h | h
    · go_enter Tryd.func5, Tryd.ntmps5
      go_wp2_with fail
      refine (wakes_any _ hK).mono ?_
      rintro e w1 ⟨rfl, hb1⟩
      go_wp2_with fail
      refine (k_no i HI.out _).mono ?_
      rintro e w2 ⟨rfl, rfl⟩
      go_wp2
      go_ret
      exact ⟨rfl, hb1⟩
    · have h0' : (0 : Int) ≤ i := by omega
      go_enter Tryd.func5, Tryd.ntmps5
      go_wp2_with fail
      refine (wakes_any _ hK).mono ?_
      rintro e w1 ⟨rfl, hb1⟩
      go_wp2_with fail
      refine (k_no i HI.out _).mono ?_
      rintro e w2 ⟨rfl, rfl⟩
      go_wp2
      go_ret
      exact ⟨rfl, hb1⟩
  · obtain ⟨m, rfl⟩ := Int.eq_ofNat_of_zero_le (show 0 ≤ i by omega)
    have hm : m < 64 := by omega
    have hm0 : (0 : Int) ≤ (m : Int) := by omega
    have hm1 : (m : Int) ≤ 63 := by omega
    obtain ⟨kw, p2, p1000⟩ := k_word m hm
    obtain ⟨p, hp⟩ : ∃ p, p = Pr.hundred.getD m 0 := ⟨_, rfl⟩
    have HP : Hid (Pr.pr m = (p : Int)) := by rw [hp]; exact Pr.pr_hundred m (by omega)
    rw [← hp] at kw p2 p1000
    obtain ⟨F, hF⟩ : ∃ F, F = Pr.rt p 3 % 4294967296 := ⟨_, rfl⟩
    rw [← hF] at kw
    have HF : Hid (F = Pr.rt p 3 % 4294967296) := hF
    have HX : Hid (nth kTab m = (F : Int)) := kw.symm
    have hS : ∀ h8 : m < 8, Hid (nth startP m = ((Pr.rt p 2 % 4294967296 : Nat) : Int)) := fun h8 => by rw [hp]; exact (start_word m h8).1.symm
    clear hF kw hp h0 h1 hi
    by_cases h7 : (7 : Int) < (m : Int)
    · go_enter Tryd.func5, Tryd.ntmps5
      go_wp2_with fail
      refine (wakes_any _ hK).mono ?_
      rintro e w1 ⟨rfl, hb1⟩
      have hK1 := hK.later hb1
      go_wp2_with fail
      refine (Pr.rnth_any m _ (by omega) (by omega)).mono ?_
      rintro e w2 ⟨rfl, rfl⟩
      rw [HP.out]
      go_wp2_with fail
      refine (k_any m hm _ hK1).mono ?_
      rintro e w3 ⟨rfl, rfl⟩
      rw [HX.out]
      go_wp2_with fail
      refine (rk_any m hm _).mono ?_
      rintro e w4 ⟨rfl, hb4⟩
      rw [HX.out]
      have hK4 := hK1.later hb4
      go_wp2_with fail
      refine (k_any m hm _ hK4).mono ?_
      rintro e w5 ⟨rfl, rfl⟩
      rw [HX.out]
      go_wp2_with fail
      refine (Pr.rfits_any p 3 p2 p1000 (.inr rfl) F HF.out _).mono ?_
      rintro e w6 ⟨rfl, hb6⟩
      go_wp2
      go_ret
      exact ⟨rfl, below_next (below_next hb1 hb4) hb6⟩
    · go_enter Tryd.func5, Tryd.ntmps5
      go_wp2_with fail
      refine (wakes_any _ hK).mono ?_
      rintro e w1 ⟨rfl, hb1⟩
      have hK1 := hK.later hb1
      go_wp2_with fail
      refine (Pr.rnth_any m _ (by omega) (by omega)).mono ?_
      rintro e w2 ⟨rfl, rfl⟩
      rw [HP.out]
      go_wp2_with fail
      refine (k_any m hm _ hK1).mono ?_
      rintro e w3 ⟨rfl, rfl⟩
      rw [HX.out]
      go_wp2_with fail
      refine (rk_any m hm _).mono ?_
      rintro e w4 ⟨rfl, hb4⟩
      rw [HX.out]
      have hK4 := hK1.later hb4
      go_wp2_with fail
      refine (k_any m hm _ hK4).mono ?_
      rintro e w5 ⟨rfl, rfl⟩
      rw [HX.out]
      go_wp2_with fail
      refine (Pr.rfits_any p 3 p2 p1000 (.inr rfl) F HF.out _).mono ?_
      rintro e w6 ⟨rfl, hb6⟩
      go_wp2_with fail
      refine (start_any _).mono ?_
      rintro e w7 ⟨rfl, hb7⟩
      have hix := index29 startP startP_st.1 m (by omega)
      rw [(hS (by omega)).out] at hix
      obtain ⟨F2, hF2⟩ : ∃ F2, F2 = Pr.rt p 2 % 4294967296 := ⟨_, rfl⟩
      rw [← hF2] at hix
      have HF2 : Hid (F2 = Pr.rt p 2 % 4294967296) := hF2
      clear hF2 hS
      go_wp2_with fail
      refine (Pr.rfits_any p 2 p2 p1000 (.inl rfl) F2 HF2.out _).mono ?_
      rintro e w8 ⟨rfl, hb8⟩
      go_wp2
      go_ret
      exact ⟨rfl, below_next (below_next (below_next (below_next hb1 hb4) hb6) hb7) hb8⟩
end Go.Proofs.YtbfbhdhffdddeaaDoor
