/- Whether two lists of parts are the same, as the document asks it. No conditions. -/
import Derived.Test.YtilfmemfnheppaaDoorTH
namespace Go.Proofs.YtilfmemfnheppaaDoor
open Go.RowKit Hx
set_option linter.unusedVariables false

def sameP (ps qs : List (List Int)) : Bool := decide (ps = qs)
theorem sameP_len {ps qs : List (List Int)} (h : ps.length ≠ qs.length) : sameP ps qs = false := by
  unfold sameP; simp; intro e; exact h (by rw [e])
theorem sameP_all {ps qs : List (List Int)} (h : ps.length = qs.length) (ha : ∀ j, j < ps.length → part ps j = part qs j) : sameP ps qs = true := by
  unfold sameP; simp
  refine List.ext_getElem h fun j h1 h2 => ?_
  rw [← part_eq ps j h1, ← part_eq qs j h2]; exact ha j h1
theorem sameP_not {ps qs : List (List Int)} {k : Nat} (h : part ps k ≠ part qs k) : sameP ps qs = false := by
  unfold sameP; simp; intro e; exact h (by rw [e])

set_option maxRecDepth 100000 in
set_option maxHeartbeats 1000000 in
theorem psame_any (v u : Value) (ps qs : List (List Int)) (w : World) (hv : PSl w v ps) (hu : PSl w u qs) :
    Calls Tryd.prog 14 #[v, u] w fun en w' => en = .returned (.bool (sameP ps qs)) ∧ Below w.heap.size w w' := by
  obtain ⟨ad, cap, rfl, hl, hcap, hr⟩ := hv
  obtain ⟨ad', cap', rfl, hl', hcap', hr'⟩ := hu
  obtain ⟨L, hL⟩ : ∃ L, L = ps.length := ⟨_, rfl⟩
  rw [← hL] at hl hcap hr ⊢
  obtain ⟨L', hL'⟩ : ∃ L, L = qs.length := ⟨_, rfl⟩
  rw [← hL'] at hl' hcap' hr' ⊢
  have HL : Hid (L = ps.length) := hL
  have HL' : Hid (L' = qs.length) := hL'
  clear hL hL'
  by_cases hne : L = L'
  · subst hne
    go_enter Tryd.func14, Tryd.ntmps14
    go_wp2_with fail
    go_loopw [5] (fun i wr => ∃ k : Nat, k ≤ L ∧ i = .int .i64 k ∧ Hid ((∀ j, j < k → part ps j = part qs j) ∧ Below w.heap.size w wr)) (fun i _ => L - (intOf i).toNat)
    case atStart => exact ⟨0, by omega, rfl, fun j hj => by omega, Below.refl _ _⟩
    case round =>
      obtain ⟨k, hk, rfl, HI⟩ := hrel
      by_cases hlt : k < L
      · obtain ⟨b, off, rfl, hbs, hcell⟩ := hr (by omega)
        obtain ⟨u, hu, hsu⟩ := hcell k hlt
        obtain ⟨b', off', rfl, hbs', hcell'⟩ := hr' (by omega)
        obtain ⟨u', hu', hsu'⟩ := hcell' k hlt
        obtain ⟨ha, hb⟩ := HI.out
        have hlt' : (k : Int) < (L : Int) := by omega
        have c1 : wr.cell? ⟨b, off + k, none⟩ = some u := (hb.cell (p := ⟨b, off + k, none⟩) hbs).trans hu
        have c2 : wr.cell? ⟨b', off' + k, none⟩ = some u' := (hb.cell (p := ⟨b', off' + k, none⟩) hbs').trans hu'
        have HS : Hid (Sl wr.drew u (part ps k) ∧ Sl wr.drew u' (part qs k)) := ⟨hsu.later hb.drew, hsu'.later hb.drew⟩
        clear hcell hr hu hsu hcell' hr' hu' hsu' ha hb
        have tail : ∀ w8, Below wr.drew.heap.size wr.drew w8 → Hid (Below w.heap.size w w8) := by
          intro w8 hb8
          have hb8' : Below wr.heap.size wr w8 := ⟨hb8.os, hb8.tape, hb8.output, hb8.size, hb8.block⟩
          exact below_next HI.out.2 hb8'
        by_cases he : part ps k = part qs k
        · have es : sameB (part ps k) (part qs k) = true := by unfold sameB; simp [he]
          go_wp2
          refine wp_region_still_tail 8 Tryd.mixed (by kernel_rfl) ?_
          simp only [List.take_succ_cons, List.take_zero, List.drop_succ_cons, List.drop_zero]
          repeat still_step
          refine wpStill_nil ?_
          go_wp2_with fail
          refine (same_any _ _ _ _ _ HS.out.1 HS.out.2).mono ?_
          rintro e w8 ⟨rfl, hb8⟩
          rw [es]
          have HB8 := tail w8 hb8
          clear hb8 tail c1 c2
          go_wp2
          refine ⟨⟨k + 1, by omega, by go_num, fun j hj => ?_, HB8.out⟩, by simp [intOf]; omega⟩
          by_cases hjk : j < k
          · exact HI.out.1 j hjk
          · have : j = k := by omega
            subst this; exact he
        · have es : sameB (part ps k) (part qs k) = false := by unfold sameB; simp [he]
          have HE : Hid (¬ part ps k = part qs k) := he
          clear he
          go_wp2
          refine wp_region_still_tail 8 Tryd.mixed (by kernel_rfl) ?_
          simp only [List.take_succ_cons, List.take_zero, List.drop_succ_cons, List.drop_zero]
          repeat still_step
          refine wpStill_nil ?_
          go_wp2_with fail
          refine (same_any _ _ _ _ _ HS.out.1 HS.out.2).mono ?_
          rintro e w8 ⟨rfl, hb8⟩
          rw [es]
          have HB8 := tail w8 hb8
          clear hb8 tail c1 c2
          go_wp2
          go_ret
          exact ⟨ret_bool (sameP_not HE.out).symm, HB8.out⟩
      · have hk' : k = L := by omega
        subst hk'
        go_wp2
        go_ret
        exact ⟨ret_bool (sameP_all (by rw [← HL.out, ← HL'.out]) (by rw [← HL.out]; exact HI.out.1)).symm, HI.out.2⟩
  · have HN : Hid (¬ ps.length = qs.length) := by rw [← HL.out, ← HL'.out]; exact hne
    have hne' : ¬ (L : Int) = (L' : Int) := by omega
    clear hr hr'
    go_enter Tryd.func14, Tryd.ntmps14
    go_wp2
    go_ret
    exact ⟨ret_bool (sameP_len HN.out).symm, Below.refl _ _⟩
end Go.Proofs.YtilfmemfnheppaaDoor
