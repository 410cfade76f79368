/- The walks of TagFrames and TagApart. No conditions. -/
import Derived.Test.YtilfmemfnheppaaDoorTN
import Derived.Test.YtilfmemfnheppaaDoorMN
namespace Go.Proofs.YtilfmemfnheppaaDoor
open Go.RowKit Hx
set_option linter.unusedVariables false

theorem few_frame {ps : List (List Int)} (h : Few ps) : ∀ k, k ≤ ps.length → (frameB (ps.take k)).length ≤ 208 * k := by
  intro k
  induction k with
  | zero => intro _; simp [frameB]
  | succ k ih =>
    intro hk
    rw [frame_take ps k (by omega), List.length_append, List.length_append, bigB_len]
    have := ih (by omega)
    have := h.2 k (by omega)
    omega
theorem few_framed {ps : List (List Int)} (h : Few ps) : (frameB ps).length ≤ 4160 := by
  have := few_frame h ps.length (Nat.le_refl _)
  rw [List.take_length] at this
  have := h.1
  omega
theorem psn_frame_by {w : World} {v : Value} {ps : List (List Int)} (h : PSn w v ps) : By (frameB ps) := by
  refine frame_by fun k hk => ?_
  obtain ⟨a, c, hv, _, _, hr⟩ := h
  obtain ⟨b, off, rfl, hb, hc⟩ := hr (by omega)
  obtain ⟨u, _, ⟨_, _, _, h2, _⟩, _⟩ := hc k hk
  exact h2
theorem own_slf {w : World} {B : Nat} {v : Value} {ps : List (List Int)} (h : Hx.Own w B v (frameB ps)) (hb : By (frameB ps)) (hf : Few ps) : Sl w v (frameB ps) := Sl.of_own h hb (by have := few_framed hf; omega)

set_option maxRecDepth 100000 in
set_option maxHeartbeats 1000000 in
theorem law_frames (v : Value) (ps : List (List Int)) (w : World) (hv : PSn w v ps) :
    Calls Tryd.prog 3 #[v] w fun en w' => en = .returned (.bool true) ∧ Below w.heap.size w w' := by
  obtain ⟨a, n, c, rfl⟩ : ∃ a n c, v = .slice a n c := by obtain ⟨a, c, h, _⟩ := hv; exact ⟨a, _, c, h⟩
  have HV : Hid (PSn w (.slice a n c) ps) := hv
  clear hv
  go_enter Tryd.func3, Tryd.ntmps3
  go_wp2_with fail
  refine (wakes_any _).mono ?_
  rintro e w1 ⟨rfl, hb1⟩
  go_wp2_with fail
  refine (great_any _ ps w1 (HV.out.later hb1).psl).mono ?_
  rintro e w2 ⟨bb, rfl, hf, rfl⟩
  cases bb with
  | true =>
    go_wp2
    go_ret
    exact ⟨rfl, hb1⟩
  | false =>
    have hf := hf rfl
    have HF : Hid (Few ps) := hf
    clear hf
    go_wp2_with fail
    refine (frame_any _ ps w2 (HV.out.later hb1) (by have := few_framed HF.out; omega)).mono ?_
    rintro e w3 ⟨v3, rfl, own3, hb3⟩
    have hby := psn_frame_by HV.out
    have s3 := own_slf own3 hby HF.out
    have nf3 := own_nil_form own3
    have hb3' := below_next hb1 hb3
    obtain ⟨a3, n3, c3, rfl⟩ := sl_form s3
    clear own3 hb1 hb3
    go_wp2_with fail
    refine (parts_any _ (frameB ps) w3 s3 nf3 (by have := few_framed HF.out; omega)).mono ?_
    rintro e w4 (⟨v4, qs, rfl, p4, hq, hb4⟩ | ⟨rfl, hno, hb4⟩)
    · have hqs : qs = ps := (frame_inj qs ps (by rw [hq]; have := few_framed HF.out; omega) hq)
      subst hqs
      have hb4' := below_next hb3' hb4
      have s4 := s3.later hb4
      clear hb3' hb4 hq nf3 s3
      go_wp2_with fail
      refine (rframe_any _ qs w4 (HV.out.later hb4') (by have := few_framed HF.out; omega)).mono ?_
      rintro e w5 ⟨v5, rfl, own5, hb5⟩
      have s5 := own_slf own5 hby HF.out
      have s45 := s4.later hb5
      have p5 := p4.later hb5
      have hb5' := below_next hb4' hb5
      clear own5 hb5 hb4' s4 p4
      go_wp2_with fail
      refine (same_any _ _ _ _ w5 s45 s5).mono ?_
      rintro e w6 ⟨rfl, hb6⟩
      rw [show sameB (frameB qs) (frameB qs) = true by unfold sameB; simp]
      have p6 := p5.later hb6
      have hb6' := below_next hb5' hb6
      clear s45 s5 hb6 hb5' p5
      go_wp2_with fail
      refine (psame_any _ _ qs qs w6 p6.psl (HV.out.later hb6').psl).mono ?_
      rintro e w7 ⟨rfl, hb7⟩
      rw [show sameP qs qs = true by unfold sameP; simp]
      have hb7' := below_next hb6' hb7
      clear p6 hb7 hb6'
      go_wp2
      go_ret
      exact ⟨rfl, hb7'⟩
    · exact absurd rfl (hno ps)

set_option maxRecDepth 100000 in
set_option maxHeartbeats 1000000 in
theorem law_apart (v u : Value) (ps qs : List (List Int)) (w : World) (hv : PSn w v ps) (hu : PSn w u qs) :
    Calls Tryd.prog 7 #[v, u] w fun en w' => en = .returned (.bool true) ∧ Below w.heap.size w w' := by
  obtain ⟨a, n, c, rfl⟩ : ∃ a n c, v = .slice a n c := by obtain ⟨a, c, h, _⟩ := hv; exact ⟨a, _, c, h⟩
  obtain ⟨a', n', c', rfl⟩ : ∃ a n c, u = .slice a n c := by obtain ⟨a, c, h, _⟩ := hu; exact ⟨a, _, c, h⟩
  have HV : Hid (PSn w (.slice a n c) ps) := hv
  have HU : Hid (PSn w (.slice a' n' c') qs) := hu
  clear hv hu
  go_enter Tryd.func7, Tryd.ntmps7
  go_wp2_with fail
  refine (wakes_any _).mono ?_
  rintro e w1 ⟨rfl, hb1⟩
  go_wp2_with fail
  refine (great_any _ ps w1 (HV.out.later hb1).psl).mono ?_
  rintro e w2 ⟨bb, rfl, hf, rfl⟩
  cases bb with
  | true =>
    go_wp2
    go_ret
    exact ⟨rfl, hb1⟩
  | false =>
    have hf := hf rfl
    have HF : Hid (Few ps) := hf
    clear hf
    go_wp2_with fail
    refine (great_any _ qs w2 (HU.out.later hb1).psl).mono ?_
    rintro e w3 ⟨bb, rfl, hg, rfl⟩
    cases bb with
    | true =>
      go_wp2
      go_ret
      exact ⟨rfl, hb1⟩
    | false =>
      have hg := hg rfl
      have HG : Hid (Few qs) := hg
      clear hg
      go_wp2_with fail
      refine (frame_any _ ps w3 (HV.out.later hb1) (by have := few_framed HF.out; omega)).mono ?_
      rintro e w4 ⟨v4, rfl, own4, hb4⟩
      have s4 := own_slf own4 (psn_frame_by HV.out) HF.out
      have hb4' := below_next hb1 hb4
      obtain ⟨a4, n4, c4, rfl⟩ := sl_form s4
      clear own4 hb1 hb4
      go_wp2_with fail
      refine (frame_any _ qs w4 (HU.out.later hb4') (by have := few_framed HG.out; omega)).mono ?_
      rintro e w5 ⟨v5, rfl, own5, hb5⟩
      have s5 := own_slf own5 (psn_frame_by HU.out) HG.out
      have s45 := s4.later hb5
      have hb5' := below_next hb4' hb5
      obtain ⟨a5, n5, c5, rfl⟩ := sl_form s5
      clear own5 hb5 hb4' s4
      go_wp2_with fail
      refine (same_any _ _ _ _ w5 s45 s5).mono ?_
      rintro e w6 ⟨rfl, hb6⟩
      have hb6' := below_next hb5' hb6
      clear s45 s5 hb6 hb5'
      obtain ⟨t, ht⟩ : ∃ t, t = sameB (frameB ps) (frameB qs) := ⟨_, rfl⟩
      rw [← ht]
      have HT : Hid (t = sameB (frameB ps) (frameB qs)) := ht
      clear ht
      go_wp2_with fail
      refine (psame_any _ _ ps qs w6 (HV.out.later hb6').psl (HU.out.later hb6').psl).mono ?_
      rintro e w7 ⟨rfl, hb7⟩
      have e7 : sameP ps qs = t := by
        rw [HT.out]
        unfold sameP sameB
        by_cases he : ps = qs
        · subst he; simp
        · have : frameB ps ≠ frameB qs := fun e => he (frame_inj ps qs (by have := few_framed HF.out; omega) e)
          simp [he, this]
      rw [e7]
      have hb7' := below_next hb6' hb7
      clear hb7 hb6'
      go_wp2
      go_ret
      exact ⟨ret_bool (by simp), hb7'⟩
end Go.Proofs.YtilfmemfnheppaaDoor
