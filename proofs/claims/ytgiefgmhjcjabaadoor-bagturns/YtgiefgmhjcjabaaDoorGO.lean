/- The contract of the document's Out of a set. Conditions: those of has. -/
import Derived.Test.YtgiefgmhjcjabaaDoorGG
import Derived.Test.YtgiefgmhjcjabaaDoorUI
namespace Go.Proofs.YtgiefgmhjcjabaaDoor
open Go.RowKit Go.PlainAid Ln Go.Sort
set_option linter.unusedVariables false
set_option linter.unusedSimpArgs false

theorem outB_6 {l : List Val} {d : Dd} (h : d.o = 6) : outB l d = [yesV (inB (nv d.a 0) l)] := if_pos h
theorem outB_o {l : List Val} {d : Dd} (h : d.o ≠ 6) : outB l d = [] := if_neg h
theorem has_kept (past : List Dd) (hok : ∀ d ∈ past, OkB d) (x : Val) : hasE past x = inB x (keptB past) := by
  rw [Bool.eq_iff_iff, inB_iff]; exact (kept_has x past hok).symm
theorem okB_mem {ys : List YD} (hk : ∀ i, i < ys.length → OkB (yd ys i).1) : ∀ d ∈ ys.map (·.1), OkB d := by
  intro d hd
  obtain ⟨i, hi', rfl⟩ := List.getElem_of_mem hd
  rw [List.length_map] at hi'
  rw [List.getElem_map, ← yd_eq ys i hi']
  exact hk i hi'
set_option maxHeartbeats 4000000 in
theorem out_anyB (m : Int) (v : Value) (ys : List YD) (d : Dd) (va : Value) (w : World) (hv : DSl w v ys) (hi : InD w ys) (hk : ∀ i, i < ys.length → OkB (yd ys i).1) (hl : ys.length ≤ 1000000) (ha : VSl w va d.a) (hd : OkB d) :
    Calls Tryd.prog 15 #[.int .i64 m, v, .agg (ddC d va).toArray] w fun e w' => ∃ vo, e = .returned vo ∧ VSl w' vo (outB (keptB (ys.map (·.1))) d) ∧ Below w.heap.size w w' := by
  obtain ⟨yc, yo, ya⟩ := d
  have hH := fun w' (hb : Below w.heap.size w w') => has_any v ys (nv ya 0) w' (hv.later hb) (hi.later hb) hk hl
  rw [has_kept _ (okB_mem hk)] at hH
  have HH : Hid (∀ w', Below w.heap.size w w' → Calls Tryd.prog 21 #[v, .agg #[.int .i64 (nv ya 0).1, .int .i64 (nv ya 0).2.1, .string (nv ya 0).2.2]] w' fun e w'' => e = .returned (.bool (inB (nv ya 0) (keptB (ys.map (·.1))))) ∧ Below w'.heap.size w' w'') := hH
  obtain ⟨lo, hlo⟩ : ∃ lo, outB (keptB (ys.map (·.1))) ⟨yc, yo, ya⟩ = lo := ⟨_, rfl⟩
  have HLo : Hid (outB (keptB (ys.map (·.1))) ⟨yc, yo, ya⟩ = lo) := hlo
  rw [hlo]
  clear hlo hH
  have hlen : 0 < ya.length := by have : ya.length = 1 := hd.2; omega
  obtain ⟨bv, ov, cv, rfl, hvb, hcv, hvat⟩ := vsl_first ha hlen
  have hv0 := hvat 0 hlen
  rw [Nat.zero_mul, Nat.add_zero] at hv0
  have HV0 : Hid (At w bv ov (nv ya 0)) := hv0
  obtain ⟨u, hu⟩ : ∃ u, nv ya 0 = u := ⟨_, rfl⟩
  have HU : Hid (nv ya 0 = u) := hu
  obtain ⟨na, hna⟩ : ∃ na, ya.length = na := ⟨_, rfl⟩
  rw [hna] at hlen hcv ⊢
  rw [hu] at HH HV0
  clear hu hna hv0 hvat ha hd hv hi hk
  generalize keptB (ys.map (·.1)) = kb at *
  obtain ⟨g0, g1, g2⟩ := HV0.out
  simp only [ddC]
  by_cases h6 : yo = 6
  · subst h6
    have HL : Hid (lo = [yesV (inB u kb)]) := by show _ = _; rw [← HLo.out, outB_6 rfl]; dsimp only; rw [HU.out]
    clear HLo
    generalize inB u kb = ib at *
    go_enter Tryd.func15, Tryd.ntmps15
    go_wp2_with (first
      | (go_at_call 21; refine (HH.out _ (below_box _ _)).mono ?_; rintro e w2 ⟨rfl, hb2⟩)
      | (go_at_call 27; refine (yes_any _ _).mono ?_; rintro e w3 ⟨rfl, hb3⟩; simp only [encV]))
    go_ret
    exact ⟨_, rfl, by rw [HL.out]; exact (own_one w3 w3.heap.size (Nat.le_refl _) (yesV ib)).vsl, below_more (below_next (below_next (below_box _ _) hb2) hb3) _⟩
  · have e6 : (yo != 6) = true := by simp [h6]
    have HL : Hid (lo = []) := by show _ = _; rw [← HLo.out, outB_o h6]
    clear HLo h6
    go_enter Tryd.func15, Tryd.ntmps15
    go_wp2
    go_ret
    exact ⟨_, rfl, by rw [HL.out]; exact vsl_nil0 _, below_box _ _⟩
end Go.Proofs.YtgiefgmhjcjabaaDoor
