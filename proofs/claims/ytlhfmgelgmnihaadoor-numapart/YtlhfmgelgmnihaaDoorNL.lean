/- The walks of NumPrints, NumParses and NumApart. Conditions: numbers of 64 bits; the library's table of powers of ten. -/
import Derived.Test.YtlhfmgelgmnihaaDoorNK
namespace Go.Proofs.YtlhfmgelgmnihaaDoor
open Go.RowKit Go.PlainAid
set_option linter.unusedVariables false

set_option maxHeartbeats 800000 in
theorem law_prints (n : Int) (w : World) (hn : -9223372036854775808 ≤ n ∧ n ≤ 9223372036854775807) (hp : Pt w) :
    Calls Tryd.prog 3 #[.int .i64 n] w fun e w' => e = .returned (.bool true) ∧ Below w.heap.size w w' := by
  have h1 := parse_any (txt n)
  rw [read_txt n hn.1 hn.2] at h1
  have hz := txt_size n hn.1 hn.2
  have HP : Hid (Pt w) := hp
  clear hp
  go_enter Tryd.func3, Tryd.ntmps3
  go_wp2_with fail
  refine (wakes_any _).mono ?_
  rintro e w1 ⟨rfl, hb1⟩
  go_wp2_with fail
  refine (print_any n _ hn.1 hn.2 (HP.out.later hb1)).mono ?_
  rintro e w2 ⟨rfl, hb2⟩
  go_wp2_with fail
  refine (h1 _ (by omega)).mono ?_
  rintro e w3 ⟨rfl, hb3⟩
  go_wp2_with fail
  refine (rprint_any n _ hn.1 hn.2).mono ?_
  rintro e w4 ⟨rfl, hb4⟩
  go_wp2
  go_ret
  exact ⟨rfl, below_next (below_next (below_next hb1 hb2) hb3) hb4⟩

set_option maxHeartbeats 800000 in
theorem law_parses (s : ByteArray) (w : World) (hp : Pt w) :
    Calls Tryd.prog 4 #[.string s] w fun e w' => e = .returned (.bool true) ∧ Below w.heap.size w w' := by
  have HP : Hid (Pt w) := hp
  clear hp
  by_cases hs : 1000 < s.size
  · have hs' : (1000 : Int) < (s.size : Int) := by omega
    go_enter Tryd.func4, Tryd.ntmps4
    go_wp2_with fail
    refine (wakes_any _).mono ?_
    rintro e w1 ⟨rfl, hb1⟩
    go_wp2
    go_ret
    exact ⟨rfl, hb1⟩
  · have hs' : ¬ (1000 : Int) < (s.size : Int) := by omega
    have h1 := parse_any s
    have h2 := rparse_any s
    have hbd := read_bd s
    obtain ⟨n, c, hR⟩ : ∃ n c, sgnR s = (n, c) := ⟨_, _, rfl⟩
    rw [hR] at h1 h2 hbd
    by_cases hc : c = 0
    · subst hc
      have ht := txt_read hR
      subst ht
      clear hR
      go_enter Tryd.func4, Tryd.ntmps4
      go_wp2_with fail
      refine (wakes_any _).mono ?_
      rintro e w1 ⟨rfl, hb1⟩
      go_wp2_with fail
      refine (h1 _ (by omega)).mono ?_
      rintro e w2 ⟨rfl, hb2⟩
      go_wp2_with fail
      refine (h2 _ (by omega)).mono ?_
      rintro e w3 ⟨rfl, rfl⟩
      go_wp2_with fail
      refine (print_any n _ hbd.1 hbd.2 (HP.out.later (below_next hb1 hb2))).mono ?_
      rintro e w4 ⟨rfl, hb4⟩
      go_wp2
      go_ret
      exact ⟨rfl, below_next (below_next hb1 hb2) hb4⟩
    · have hc' : (c == 0) = false := by simp [hc]
      clear hR
      go_enter Tryd.func4, Tryd.ntmps4
      go_wp2_with fail
      refine (wakes_any _).mono ?_
      rintro e w1 ⟨rfl, hb1⟩
      go_wp2_with fail
      refine (h1 _ (by omega)).mono ?_
      rintro e w2 ⟨rfl, hb2⟩
      go_wp2_with fail
      refine (h2 _ (by omega)).mono ?_
      rintro e w3 ⟨rfl, rfl⟩
      go_wp2
      go_ret
      exact ⟨rfl, below_next hb1 hb2⟩

set_option maxHeartbeats 800000 in
theorem law_apart (a b : Int) (w : World) (ha : -9223372036854775808 ≤ a ∧ a ≤ 9223372036854775807) (hb : -9223372036854775808 ≤ b ∧ b ≤ 9223372036854775807) (hp : Pt w) :
    Calls Tryd.prog 5 #[.int .i64 a, .int .i64 b] w fun e w' => e = .returned (.bool true) ∧ Below w.heap.size w w' := by
  have HP : Hid (Pt w) := hp
  clear hp
  have HE : Hid (((txt a).toList == (txt b).toList) = (a == b)) := by
    show _ = _
    rw [Bool.eq_iff_iff, beq_iff_eq, beq_iff_eq, ← txt_inj ha hb]
    exact ⟨eq_of_toList, fun h => by rw [h]⟩
  have HL : Hid (0 ≤ a → 0 ≤ b → (txt b).size < (txt a).size → b < a) := fun h1 h2 => txt_long h1 h2
  go_enter Tryd.func5, Tryd.ntmps5
  go_wp2_with fail
  refine (wakes_any _).mono ?_
  rintro e w1 ⟨rfl, hb1⟩
  go_wp2_with fail
  refine (print_any a _ ha.1 ha.2 (HP.out.later hb1)).mono ?_
  rintro e w2 ⟨rfl, hb2⟩
  go_wp2_with fail
  refine (print_any b _ hb.1 hb.2 (HP.out.later (below_next hb1 hb2))).mono ?_
  rintro e w3 ⟨rfl, hb3⟩
  have he := HE.out
  clear HE
  generalize txt a = x at *
  generalize txt b = y at *
  go_wp2
  all_goals go_ret
  all_goals refine ⟨?_, below_next (below_next hb1 hb2) hb3⟩
  · rename_i h1 h2 h3
    exact ret_bool (by have := HL.out h1 h2 h3; simp [this])
  all_goals rfl
end Go.Proofs.YtlhfmgelgmnihaaDoor
