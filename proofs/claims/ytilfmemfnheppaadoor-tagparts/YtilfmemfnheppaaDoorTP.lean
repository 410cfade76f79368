/- The walk of TagParts. No conditions. -/
import Derived.Test.YtilfmemfnheppaaDoorTN
import Derived.Test.YtilfmemfnheppaaDoorML
namespace Go.Proofs.YtilfmemfnheppaaDoor
open Go.RowKit Hx
set_option linter.unusedVariables false

set_option maxRecDepth 100000 in
set_option maxHeartbeats 1000000 in
theorem law_parts (v : Value) (xs : List Int) (w : World) (hv : Sl w v xs) (hn : ∀ n c, v = .slice none n c → n = 0 ∧ c = 0) :
    Calls Tryd.prog 4 #[v] w fun en w' => en = .returned (.bool true) ∧ Below w.heap.size w w' := by
  obtain ⟨a, c, rfl, hl63⟩ : ∃ a c, v = .slice a xs.length c ∧ xs.length ≤ 9223372036854775807 := by obtain ⟨a, c, h, _, h', _⟩ := hv; exact ⟨a, c, h, h'⟩
  obtain ⟨n, hnx⟩ : ∃ n, n = xs.length := ⟨_, rfl⟩
  rw [← hnx] at hl63 hv hn ⊢
  have HV : Hid (Sl w (.slice a n c) xs) := hv
  have HN : Hid (Nf (.slice a n c)) := hn
  have HL : Hid (n = xs.length) := hnx
  clear hv hn hnx
  go_enter Tryd.func4, Tryd.ntmps4
  go_wp2_with fail
  refine (wakes_any _).mono ?_
  rintro e w1 ⟨rfl, hb1⟩
  by_cases h5 : 500 < n
  · have h5' : (500 : Int) < (n : Int) := by omega
    go_wp2
    go_ret
    exact ⟨rfl, hb1⟩
  · have h5' : ¬ (500 : Int) < (n : Int) := by omega
    go_wp2_with fail
    refine (parts_any _ xs w1 (HV.out.later hb1) HN.out (by rw [← HL.out]; omega)).mono ?_
    rintro e w2 (⟨v2, qs, rfl, p2, hq, hb2⟩ | ⟨rfl, hno, hb2⟩)
    · have hb2' := below_next hb1 hb2
      clear hb1 hb2
      go_wp2_with fail
      refine (rparts_any _ xs w2 (HV.out.later hb2') HN.out (by rw [← HL.out]; omega)).mono ?_
      rintro e w3 (⟨v3, rs, rfl, p3, hr, hb3⟩ | ⟨rfl, hno, hb3⟩)
      · have hqr : qs = rs := frame_inj qs rs (by rw [hq, ← HL.out]; omega) (by rw [hq, hr])
        subst hqr
        have p23 := p2.later hb3
        have hb3' := below_next hb2' hb3
        have HQ : Hid (frameB qs = xs) := hq
        clear p2 hb3 hb2' hq hr
        go_wp2_with fail
        refine (psame_any _ _ qs qs w3 p23.psl p3.psl).mono ?_
        rintro e w4 ⟨rfl, hb4⟩
        rw [show sameP qs qs = true by unfold sameP; simp]
        have p24 := p23.later hb4
        have hb4' := below_next hb3' hb4
        clear hb4 hb3' p23 p3
        go_wp2_with fail
        refine (frame_any _ qs w4 p24 (by rw [HQ.out, ← HL.out]; omega)).mono ?_
        rintro e w5 ⟨v5, rfl, own5, hb5⟩
        rw [HQ.out] at own5
        have hby : By xs := by obtain ⟨_, _, _, h, _⟩ := HV.out; exact h
        have s5 := Sl.of_own own5 hby (by rw [← HL.out]; omega)
        have hb5' := below_next hb4' hb5
        clear own5 hb5 hb4' p24 hby
        go_wp2_with fail
        refine (same_any _ _ _ _ w5 s5 (HV.out.later hb5')).mono ?_
        rintro e w6 ⟨rfl, hb6⟩
        rw [show sameB xs xs = true by unfold sameB; simp]
        have hb6' := below_next hb5' hb6
        clear s5 hb6 hb5'
        go_wp2
        go_ret
        exact ⟨rfl, hb6'⟩
      · exact absurd hq (hno qs)
    · have hb2' := below_next hb1 hb2
      clear hb1 hb2
      go_wp2_with fail
      refine (rparts_any _ xs w2 (HV.out.later hb2') HN.out (by rw [← HL.out]; omega)).mono ?_
      rintro e w3 (⟨v3, rs, rfl, p3, hr, hb3⟩ | ⟨rfl, _, hb3⟩)
      · exact absurd hr (hno rs)
      · have hb3' := below_next hb2' hb3
        clear hb3 hb2'
        go_wp2
        go_ret
        exact ⟨rfl, hb3'⟩
end Go.Proofs.YtilfmemfnheppaaDoor
