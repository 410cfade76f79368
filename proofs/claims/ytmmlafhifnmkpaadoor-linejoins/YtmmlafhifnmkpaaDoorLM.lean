/- The contract of the document's Words. Conditions: at most 900,000 bytes. -/
import Derived.Test.YtmmlafhifnmkpaaDoorLL
namespace Go.Proofs.YtmmlafhifnmkpaaDoor
open Go.RowKit Go.PlainAid
set_option linter.unusedVariables false

theorem cutL_grows (c : UInt8) (l m : List UInt8) : ∃ r, (cutL c (l ++ m)).1 = (cutL c l).1 ++ r := by
  have e : cutL c (l ++ m) = m.foldl (stp c) ((cutL c l).1, (cutL c l).2) := by unfold cutL; rw [List.foldl_append]
  rw [e, foldl_shift]
  exact ⟨_, rfl⟩
theorem mem_pcs (c : UInt8) (l : List UInt8) (k : Nat) (x : List UInt8) (h : x ∈ (cutL c (l.take k)).1) : x ∈ pcs c l := by
  obtain ⟨r, hr⟩ := cutL_grows c (l.take k) (l.drop k)
  rw [List.take_append_drop] at hr
  unfold pcs
  rw [hr]
  exact List.mem_append.2 (.inl (List.mem_append.2 (.inl h)))
/-- what the document's Words hands back of a line -/
def RWords (w : World) (l : List UInt8) (e : Ending) (w' : World) : Prop :=
  ∃ v, Below w.heap.size w w' ∧ (([] ∉ pcs 32 l ∧ e = .returned (.tuple #[v, .bool true]) ∧ SSl w' v (pcs 32 l)) ∨ ([] ∈ pcs 32 l ∧ e = .returned (.tuple #[.slice none 0 0, .bool false])))
/-- where the loop stands: k bytes are behind it, the word under way begins at d -/
def AtW (w0 w : World) (l : List UInt8) (n k d : Nat) (v : Value) : Prop :=
  (k ≤ n ∧ d ≤ k ∧ OwnS w w0.heap.size v (cutL 32 (l.take k)).1 ∧ (l.take k).drop d = (cutL 32 (l.take k)).2 ∧ [] ∉ (cutL 32 (l.take k)).1) ∨
  (k = n + 1 ∧ OwnS w w0.heap.size v (pcs 32 l) ∧ [] ∉ pcs 32 l)

set_option maxHeartbeats 4000000 in
theorem rwords_any (s : ByteArray) (w : World) (hz : s.size ≤ 900000) : Calls Tryd.prog 7 #[.string s] w fun e w' => RWords w (tx s) e w' := by
  have hbt := get_bt s
  go_enter Tryd.func7, Tryd.ntmps7
  go_wp2
  go_loopw [4, 5, 6] (fun v a i w' => ∃ k d : Nat, k ≤ s.size + 1 ∧ d ≤ s.size + 1 ∧ a = .int .i64 (d : Int) ∧ i = .int .i64 (k : Int) ∧ Hid (Below w.heap.size w w') ∧ Hid (AtW w w' (tx s) s.size k d v)) (fun v a i w' => s.size + 1 - (intOf i).toNat)
  case atStart => exact ⟨0, 0, by omega, by omega, rfl, rfl, Below.refl _ _, .inl ⟨by omega, by omega, OwnS.nil _ _, rfl, by simp [cutL_nil]⟩⟩
  case round =>
    obtain ⟨k, d, hk, hd, rfl, rfl, HB, HA⟩ := hrel
    by_cases hlast : k = s.size + 1
    · subst hlast
      have hgt : ¬ (((s.size + 1 : Nat) : Int) ≤ (s.size : Int)) := by omega
      go_wp2
      go_ret2
      rcases HA.out with ⟨h, _⟩ | ⟨_, h1, h2⟩
      · omega
      · exact ⟨u4, HB.out, .inl ⟨h2, rfl, h1.ssl⟩⟩
    · obtain ⟨hks, hdk, hown, hcur, hne⟩ : k ≤ s.size ∧ d ≤ k ∧ OwnS wr w.heap.size u4 (cutL 32 ((tx s).take k)).1 ∧ ((tx s).take k).drop d = (cutL 32 ((tx s).take k)).2 ∧ [] ∉ (cutL 32 ((tx s).take k)).1 := by
        rcases HA.out with h | ⟨h, _⟩
        · exact h
        · exact absurd h hlast
      have hks' : (k : Int) ≤ (s.size : Int) := by omega
      have hdk' : (d : Int) ≤ (k : Int) := by omega
      have HO : Hid (OwnS wr w.heap.size u4 (cutL 32 ((tx s).take k)).1) := hown
      have HC : Hid (((tx s).take k).drop d = (cutL 32 ((tx s).take k)).2) := hcur
      have HN : Hid ([] ∉ (cutL 32 ((tx s).take k)).1) := hne
      have hcn : (cutL 32 ((tx s).take k)).1.length ≤ 900000 := by have := cutL_count 32 ((tx s).take k); rw [List.length_take, tx_len] at this; omega
      have hcl : (cutL 32 ((tx s).take k)).2.length = k - d := by rw [← hcur, List.length_drop, List.length_take, tx_len]; omega
      have HCL : Hid ((cutL 32 ((tx s).take k)).2.length = k - d) := hcl
      obtain ⟨y, hye, hy2⟩ : ∃ y, s.extract d k = bs y ∧ y = (cutL 32 ((tx s).take k)).2 := ⟨_, extract_tx s d k, by rw [← hcur, List.drop_take]⟩
      have HY : Hid (y = (cutL 32 ((tx s).take k)).2) := hy2
      clear hown hcur hne HA hcl hy2
      by_cases hlt : k < s.size
      · have hlt' : (k : Int) < (s.size : Int) := by omega
        obtain ⟨b, hb1, hb2, hb3, hb4⟩ := byte_at s k hlt
        by_cases hbc : b = 32
        · subst hbc
          have hb2' : (bt s k == 32) = true := by rw [hb2]; rfl
          have hb2'' : bt s k = 32 := by rw [hb2]; rfl
          have H3 : Hid ((tx s).take (k + 1) = (tx s).take k ++ [32]) := hb3
          clear hb1 hb2 hb3 hb4
          by_cases hkd : k = d
          · have hkd' : ((k : Int) == (d : Int)) = true := by simp; omega
            have HM : Hid ([] ∈ pcs 32 (tx s)) := by
              refine mem_pcs 32 (tx s) (k + 1) [] ?_
              rw [H3.out, cutL_snoc, stp_end]
              have e : (cutL 32 ((tx s).take k)).2 = [] := List.eq_nil_of_length_eq_zero (by rw [HCL.out]; omega)
              rw [e]; simp
            subst hkd
            go_wp2
            go_ret2
            exact ⟨.slice none 0 0, HB.out, .inr ⟨HM.out, rfl⟩⟩
          · have hkd' : ((k : Int) == (d : Int)) = false := by simp; omega
            have hkd'' : ¬ (k : Int) = (d : Int) := by omega
            go_wp2_with (at_builtin; refine wpList_appendS rfl (.tmp 26) (.tmp 31) rfl w.heap.size u4 _ rfl (HO.out.later (below_more (Below.refl _ _) _)) ⟨wr.heap.size, 0, none⟩ 1 y rfl (by simp) (by omega) (by have := HB.out.size; simp; omega) ?_; intro v6 w6 o6 g6; have HO6 : Hid (OwnS w6 w.heap.size v6 ((cutL 32 ((tx s).take k)).1 ++ [y])) := o6; have HB6 : Hid (Below w.heap.size w w6) := Below.grown (below_more HB.out _) g6 (by have := HB.out.size; simp; omega) (fun q h => (HO.out.lt q h).1); clear o6 g6)
            go_roundw
            case rel =>
              refine ⟨k + 1, k + 1, by omega, by omega, by go_num, by go_num, HB6, .inl ⟨by omega, by omega, ?_, ?_, ?_⟩⟩
              · rw [H3.out, cutL_snoc, stp_end, ← HY.out]; exact HO6.out
              · rw [H3.out, cutL_snoc, stp_end, ← H3.out]; exact List.drop_eq_nil_of_le (by rw [List.length_take]; omega)
              · rw [H3.out, cutL_snoc, stp_end]
                intro h
                rcases List.mem_append.1 h with h | h
                · exact HN.out h
                · simp at h
                  have := HCL.out
                  rw [h] at this
                  simp at this
                  omega
            case measure => simp [intOf]; omega
        · have hb2' : (bt s k == 32) = false := by rw [hb2]; exact beq_eq_false_iff_ne.2 (fun h => hbc ((byte_eq b 32).1 h))
          have hb2'' : ¬ bt s k = 32 := fun h => hbc ((byte_eq b 32).1 (by rw [← hb2, h]; rfl))
          have H3 : Hid ((tx s).take (k + 1) = (tx s).take k ++ [b]) := hb3
          clear hb1 hb2 hb3 hb4
          go_wp2
          go_roundw
          case rel =>
            refine ⟨k + 1, d, by omega, by omega, rfl, by go_num, HB, .inl ⟨by omega, by omega, ?_, ?_, ?_⟩⟩
            · rw [H3.out, cutL_snoc, stp_on 32 _ hbc]; exact HO.out
            · rw [H3.out, cutL_snoc, stp_on 32 _ hbc, List.drop_append_of_le_length (by rw [List.length_take, tx_len]; omega), HC.out]
            · rw [H3.out, cutL_snoc, stp_on 32 _ hbc]; exact HN.out
          case measure => simp [intOf]; omega
      · have e : k = s.size := by omega
        subst e
        have hlt' : ¬ ((s.size : Int) < (s.size : Int)) := by omega
        have ht : (tx s).take s.size = tx s := List.take_of_length_le (by rw [tx_len]; omega)
        rw [ht] at HO HC HN HY HCL hcn
        by_cases hkd : s.size = d
        · have hkd' : ((s.size : Int) == (d : Int)) = true := by simp; omega
          have HM : Hid ([] ∈ pcs 32 (tx s)) := by
            have e : (cutL 32 (tx s)).2 = [] := List.eq_nil_of_length_eq_zero (by rw [HCL.out]; omega)
            show [] ∈ pcs 32 (tx s)
            unfold pcs
            rw [e]; simp
          subst hkd
          go_wp2
          go_ret2
          exact ⟨.slice none 0 0, HB.out, .inr ⟨HM.out, rfl⟩⟩
        · have hkd' : ((s.size : Int) == (d : Int)) = false := by simp; omega
          have hkd'' : ¬ (s.size : Int) = (d : Int) := by omega
          go_wp2_with (at_builtin; refine wpList_appendS rfl (.tmp 26) (.tmp 31) rfl w.heap.size u4 _ rfl (HO.out.later (below_more (Below.refl _ _) _)) ⟨wr.heap.size, 0, none⟩ 1 y rfl (by simp) (by omega) (by have := HB.out.size; simp; omega) ?_; intro v6 w6 o6 g6; have HO6 : Hid (OwnS w6 w.heap.size v6 ((cutL 32 (tx s)).1 ++ [y])) := o6; have HB6 : Hid (Below w.heap.size w w6) := Below.grown (below_more HB.out _) g6 (by have := HB.out.size; simp; omega) (fun q h => (HO.out.lt q h).1); clear o6 g6)
          go_roundw
          case rel =>
            refine ⟨s.size + 1, s.size + 1, by omega, by omega, by go_num, by go_num, HB6, .inr ⟨rfl, ?_, ?_⟩⟩
            · unfold pcs; rw [← HY.out]; exact HO6.out
            · unfold pcs
              intro h
              rcases List.mem_append.1 h with h | h
              · exact HN.out h
              · simp at h
                have := HCL.out
                rw [h] at this
                simp at this
                omega
          case measure => simp [intOf]
end Go.Proofs.YtmmlafhifnmkpaaDoor
