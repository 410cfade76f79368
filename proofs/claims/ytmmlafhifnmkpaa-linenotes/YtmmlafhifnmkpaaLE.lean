/- The contract of the document's Note: what stands ahead, the note, whether there is one, whether it is formed so. Conditions: at most 2^62 bytes. -/
import Derived.Test.YtmmlafhifnmkpaaLB
namespace Go.Proofs.Ytmmlafhifnmkpaa
open Go.RowKit Go.PlainAid
set_option linter.unusedVariables false

/-- what is told of a line, as a value -/
def notV (r : List UInt8 × List UInt8 × Bool × Bool) : Value := .agg #[.string (bs r.1), .string (bs r.2.1), .bool r.2.2.1, .bool r.2.2.2]
theorem split_at (s : ByteArray) (k : Nat) (b : UInt8) (h : (tx s).drop k = b :: (tx s).drop (k + 1)) : tx s = (tx s).take k ++ b :: (tx s).drop (k + 1) := by
  rw [← h, List.take_append_drop]
theorem last_take (s : ByteArray) (j : Nat) (b : UInt8) (h : (tx s).take (j + 1) = (tx s).take j ++ [b]) : ((tx s).take (j + 1)).getLast? = some b := by rw [h]; simp
theorem init_take (s : ByteArray) (j : Nat) (b : UInt8) (h : (tx s).take (j + 1) = (tx s).take j ++ [b]) : ((tx s).take (j + 1)).dropLast = (tx s).take j := by rw [h]; simp

set_option maxHeartbeats 4000000 in
theorem rnote_any (s : ByteArray) (w : World) (hz : s.size ≤ 4611686018427387904) : Calls Try.prog 10 #[.string s] w fun e w' => e = .returned (notV (noteR (tx s))) ∧ Below w.heap.size w w' := by
  have hbt := get_bt s
  go_enter Try.func10, Try.ntmps10
  go_wp2
  go_loop [3] (fun i => ∃ k : Nat, k ≤ s.size ∧ i = .int .i64 (k : Int) ∧ (59 : UInt8) ∉ (tx s).take k) (fun i => s.size - (intOf i).toNat)
  case atStart => exact ⟨0, by omega, rfl, by simp⟩
  case round =>
    obtain ⟨k, hk, rfl, hall⟩ := hrel
    have HA : Hid ((59 : UInt8) ∉ (tx s).take k) := hall
    clear hall
    by_cases hlt : k < s.size
    · have hlt' : (k : Int) < (s.size : Int) := by omega
      obtain ⟨b, hb1, hb2, hb3, hb4⟩ := byte_at s k hlt
      by_cases hbc : b = 59
      · subst hbc
        have hb2' : (bt s k == 59) = true := by rw [hb2]; rfl
        have hb2'' : bt s k = 59 := by rw [hb2]; rfl
        have HS : Hid (tx s = (tx s).take k ++ 59 :: (tx s).drop (k + 1)) := split_at s k 59 hb4
        obtain ⟨t, ht, hts⟩ : ∃ t, s.extract (k + 1) s.size = t ∧ tx t = (tx s).drop (k + 1) := ⟨_, rfl, by rw [extract_tx, tx_bs]; exact List.take_of_length_le (by rw [List.length_drop, tx_len]; omega)⟩
        have hsz : t.size + (k + 1) = s.size := by rw [← tx_len t, hts, List.length_drop, tx_len]; omega
        have HT : Hid (tx t = (tx s).drop (k + 1)) := hts
        have hbt2 := get_bt t
        have hk1 : ((k : Int) + 1) ≤ (s.size : Int) := by omega
        clear hb1 hb2 hb3 hb4 hts
        by_cases h0 : k = 0
        · subst h0
          have HR : Hid (noteR (tx s) = ([], [], false, false)) := (congrArg noteR HS.out).trans (noteR_bad _ _ HA.out (fun h => by have := h.1; simp at this))
          go_wp2
          refine bodyPost_ret (v := .agg #[.string ⟨#[]⟩, .string ⟨#[]⟩, .bool false, .bool false]) (by simp [results, Try.f10, go_sem]) rfl ?_
          exact ⟨by rw [HR.out]; rfl, below_more (Below.refl _ _) _⟩
        · obtain ⟨j, rfl⟩ : ∃ j, k = j + 1 := ⟨k - 1, by omega⟩
          have h0' : (((j + 1 : Nat) : Int) == 0) = false := by simp; omega
          obtain ⟨c, hc1, hc2, hc3, hc4⟩ := byte_at s j (by omega)
          have HL : Hid (((tx s).take (j + 1)).getLast? = some c ∧ ((tx s).take (j + 1)).dropLast = (tx s).take j) := ⟨last_take s j c hc3, init_take s j c hc3⟩
          clear hc1 hc3 hc4 h0
          by_cases hcc : c = 32
          · subst hcc
            have hc2' : (bt s j == 32) = true := by rw [hc2]; rfl
            have hc2'' : bt s j = 32 := by rw [hc2]; rfl
            clear hc2
            by_cases hl : 100 < t.size
            · have hl' : (100 : Int) < (t.size : Int) := by omega
              have HR : Hid (noteR (tx s) = ([], [], false, false)) := (congrArg noteR HS.out).trans (noteR_bad _ _ HA.out (fun h => by have := h.2.1; rw [← HT.out, tx_len] at this; omega))
              go_wp2
              refine bodyPost_ret (v := .agg #[.string ⟨#[]⟩, .string ⟨#[]⟩, .bool false, .bool false]) (by simp [results, Try.f10, go_sem]) rfl ?_
              exact ⟨by rw [HR.out]; rfl, below_more (Below.refl _ _) _⟩
            · have hl' : ¬ (100 : Int) < (t.size : Int) := by omega
              go_wp2
              go_loop [5] (fun i => ∃ m : Nat, m ≤ t.size ∧ i = .int .i64 (m : Int) ∧ (10 : UInt8) ∉ (tx t).take m) (fun i => t.size - (intOf i).toNat)
              case atStart => exact ⟨0, by omega, rfl, by simp⟩
              case round =>
                obtain ⟨m, hm, rfl, hnone⟩ := hrel
                have HM : Hid ((10 : UInt8) ∉ (tx t).take m) := hnone
                clear hnone
                by_cases hmt : m < t.size
                · have hmt' : (m : Int) < (t.size : Int) := by omega
                  obtain ⟨b, hb1, hb2, hb3, hb4⟩ := byte_at t m hmt
                  by_cases hbc : b = 10
                  · subst hbc
                    have hq : (bt t m == 10) = true := by rw [hb2]; rfl
                    have hq' : bt t m = 10 := by rw [hb2]; rfl
                    have HR : Hid (noteR (tx s) = ([], [], false, false)) := (congrArg noteR HS.out).trans (noteR_bad _ _ HA.out (fun h => h.2.2 (by rw [← HT.out]; exact List.mem_of_getElem? hb1)))
                    clear hb1 hb2 hb3 hb4
                    go_wp2
                    refine bodyPost_ret (v := .agg #[.string ⟨#[]⟩, .string ⟨#[]⟩, .bool false, .bool false]) (by simp [results, Try.f10, go_sem]) rfl ?_
                    exact ⟨by rw [HR.out]; rfl, below_more (Below.refl _ _) _⟩
                  · have hq : (bt t m == 10) = false := by rw [hb2]; exact beq_eq_false_iff_ne.2 (fun h => hbc ((byte_eq b 10).1 h))
                    have hq' : ¬ bt t m = 10 := fun h => hbc ((byte_eq b 10).1 (by rw [← hb2, h]; rfl))
                    have H3 : Hid ((tx t).take (m + 1) = (tx t).take m ++ [b]) := hb3
                    clear hb1 hb2 hb3 hb4
                    go_wp2
                    go_round
                    case rel =>
                      refine ⟨m + 1, by omega, by go_num, ?_⟩
                      rw [H3.out]
                      intro h
                      rcases List.mem_append.1 h with h | h
                      · exact HM.out h
                      · simp at h; exact hbc h.symm
                    case measure => simp [intOf]; omega
                · have e : m = t.size := by omega
                  subst e
                  have HN : Hid ((10 : UInt8) ∉ tx t) := by have := HM.out; rw [List.take_of_length_le (by rw [tx_len]; omega)] at this; exact this
                  have HR : Hid (noteR (tx s) = ((tx s).take j, tx t, true, true)) := by
                    refine (congrArg noteR HS.out).trans ?_
                    rw [noteR_good _ _ HA.out ⟨HL.out.1, by rw [← HT.out, tx_len]; omega, by rw [← HT.out]; exact HN.out⟩, HL.out.2, HT.out]
                  have he : s.extract 0 j = bs ((tx s).take j) := by rw [extract_tx]; rfl
                  have HE : Hid (s.extract 0 j = bs ((tx s).take j)) := he
                  clear he
                  go_wp2
                  refine bodyPost_ret (v := .agg #[.string (s.extract 0 j), .string t, .bool true, .bool true]) (by simp [results, Try.f10, go_sem]) rfl ?_
                  exact ⟨by rw [HR.out, notV, bs_tx, HE.out], below_more (Below.refl _ _) _⟩
          · have hc2' : (bt s j == 32) = false := by rw [hc2]; exact beq_eq_false_iff_ne.2 (fun h => hcc ((byte_eq c 32).1 h))
            have hc2'' : ¬ bt s j = 32 := fun h => hcc ((byte_eq c 32).1 (by rw [← hc2, h]; rfl))
            have HR : Hid (noteR (tx s) = ([], [], false, false)) := (congrArg noteR HS.out).trans (noteR_bad _ _ HA.out (fun h => by have := h.1; rw [HL.out.1] at this; exact hcc (by simpa using this)))
            clear hc2
            go_wp2
            refine bodyPost_ret (v := .agg #[.string ⟨#[]⟩, .string ⟨#[]⟩, .bool false, .bool false]) (by simp [results, Try.f10, go_sem]) rfl ?_
            exact ⟨by rw [HR.out]; rfl, below_more (Below.refl _ _) _⟩
      · have hb2' : (bt s k == 59) = false := by rw [hb2]; exact beq_eq_false_iff_ne.2 (fun h => hbc ((byte_eq b 59).1 h))
        have hb2'' : ¬ bt s k = 59 := fun h => hbc ((byte_eq b 59).1 (by rw [← hb2, h]; rfl))
        have H3 : Hid ((tx s).take (k + 1) = (tx s).take k ++ [b]) := hb3
        clear hb1 hb2 hb3 hb4
        go_wp2
        go_round
        case rel =>
          refine ⟨k + 1, by omega, by go_num, ?_⟩
          rw [H3.out]
          intro h
          rcases List.mem_append.1 h with h | h
          · exact HA.out h
          · simp at h; exact hbc h.symm
        case measure => simp [intOf]; omega
    · have e : k = s.size := by omega
      subst e
      have HR : Hid (noteR (tx s) = (tx s, [], false, true)) := noteR_none _ (by have := HA.out; rw [List.take_of_length_le (by rw [tx_len]; omega)] at this; exact this)
      go_wp2
      refine bodyPost_ret (v := .agg #[.string s, .string ⟨#[]⟩, .bool false, .bool true]) (by simp [results, Try.f10, go_sem]) rfl ?_
      exact ⟨by rw [HR.out, notV, bs_tx]; rfl, below_more (Below.refl _ _) _⟩
end Go.Proofs.Ytmmlafhifnmkpaa
