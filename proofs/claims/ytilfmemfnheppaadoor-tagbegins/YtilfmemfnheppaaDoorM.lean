/- The digest of parts, one behind the other, and that the document's examples hold. Conditions: the table holds the rounds' numbers; the parts have no more than 900,000 bytes. -/
import Derived.Test.YtilfmemfnheppaaDoorL
namespace Go.Proofs.YtilfmemfnheppaaDoor
open Go.RowKit Hx
set_option linter.unusedVariables false

/-- the k-th part -/
def part (ps : List (List Int)) (k : Nat) : List Int := ps.getD k []
theorem part_eq (ps : List (List Int)) (k : Nat) (h : k < ps.length) : part ps k = ps[k] := by unfold part; simp [h]
/-- in the world w the slice v has the parts ps -/
def PSl (w : World) (v : Value) (ps : List (List Int)) : Prop :=
  ∃ (a : Option Addr) (cap : Nat), v = .slice a ps.length cap ∧ ps.length ≤ 9223372036854775807 ∧ ps.length ≤ cap ∧
    (0 < ps.length → ∃ b off, a = some ⟨b, off, none⟩ ∧ b < w.heap.size ∧ ∀ i, i < ps.length → ∃ u, w.cell? ⟨b, off + i, none⟩ = some u ∧ Sl w u (part ps i))

theorem flat_next (ps : List (List Int)) (k : Nat) (h : k < ps.length) : (ps.take (k + 1)).flatten = (ps.take k).flatten ++ part ps k := by
  rw [List.take_succ_eq_append_getElem h, List.flatten_append, part_eq ps k h]; simp
theorem flat_le (ps : List (List Int)) (k : Nat) : (ps.take k).flatten.length ≤ ps.flatten.length := by
  have e : ps.flatten = (ps.take k).flatten ++ (ps.drop k).flatten := by rw [← List.flatten_append, List.take_append_drop]
  have h := congrArg List.length e
  rw [List.length_append] at h
  omega

theorem sl_block {w : World} {v : Value} {xs : List Int} (h : Sl w v xs) : ∀ b off n cap, v = .slice (some ⟨b, off, none⟩) n cap → 0 < xs.length → b < w.heap.size := by
  obtain ⟨a, c, rfl, _, _, _, hr⟩ := h
  intro b off n cap hv h0
  obtain ⟨b', off', rfl, hb, _⟩ := hr h0
  cases hv
  exact hb

set_option maxRecDepth 100000 in
set_option maxHeartbeats 1000000 in
theorem sum_any (v : Value) (ps : List (List Int)) (w : World) (hK : Kt w) (hv : PSl w v ps) (hsz : ps.flatten.length ≤ 900000) :
    Calls Tryd.prog 37 #[v] w fun en w' => en = .returned (arr .u8 (sumB ps.flatten)) ∧ Below w.heap.size w w' := by
  obtain ⟨ad, cap, rfl, hl, hcap, hr⟩ := hv
  have h32 : (Tryd.prog.info? 49).map (·.size) = some (sumB ps.flatten).length := by unfold sumB; rw [dgs_len]; exact Tryd.size49
  have hk0 := hK.pos
  go_enter Tryd.func37, Tryd.ntmps37
  go_wp2_with ((with_reducible refine wp_allocD 2 49 .u8 32 Tryd.zero49 ?_ ?_); (exact ⟨rfl, rfl, rfl⟩); intro p2 w2 hg2 hr2 hb2)
  refine (new_any _).mono ?_
  rintro e w3 ⟨g, rfl, hg3, H3, hb3⟩
  have l2 := hr2.lt
  have q2 : p2 < g := Nat.lt_of_lt_of_le l2 hg3
  have hb := below_next hb2 hb3
  have HI : Hid (Has w3 g [] ∧ Row w3 p2 .u8 (List.replicate 32 0) ∧ Below w.heap.size w w3) := ⟨H3, hr2.later hb3, hb⟩
  have q1 : w.heap.size ≤ p2 := hg2
  clear hr2 hb2 hb3 H3 hb hg2 hg3 l2
  go_wp2_with fail
  go_loopw [9] (fun i wr => ∃ k : Nat, k ≤ ps.length ∧ i = .int .i64 k ∧ Hid (Has wr g ((ps.take k).flatten) ∧ Row wr p2 .u8 (List.replicate 32 0) ∧ Below w.heap.size w wr)) (fun i _ => ps.length - (intOf i).toNat)
  case atStart => exact ⟨0, by omega, rfl, HI.out⟩
  case round =>
    clear HI
    obtain ⟨k, hk, rfl, HI⟩ := hrel
    by_cases hlt : k < ps.length
    · obtain ⟨b, off, rfl, hbs, hcell⟩ := hr (by omega)
      obtain ⟨u, hu, hsu⟩ := hcell k hlt
      obtain ⟨H, r2, hb⟩ := HI.out
      have hlt' : (k : Int) < (ps.length : Int) := by omega
      have cu : wr.cell? ⟨b, off + k, none⟩ = some u := (hb.cell (p := ⟨b, off + k, none⟩) hbs).trans hu
      have HS : Hid (Sl w u (part ps k)) := hsu
      clear hcell hr hu hsu H r2 hb
      go_wp2_with fail
      obtain ⟨H, r2, hb⟩ := HI.out
      have f1 := flat_le ps (k + 1)
      rw [flat_next ps k hlt, List.length_append] at f1
      refine (write_any g _ (part ps k) u wr (hK.below hb hk0) (by omega) H (HS.out.later hb) (fun b off n cap he h0 => by have := sl_block HS.out b off n cap he h0; omega) (by omega)).mono ?_
      rintro e w5 ⟨rfl, H5, o5⟩
      rw [← flat_next ps k hlt] at H5
      have a2 := r2.only o5 (show p2 ≠ g by omega)
      have ab := below_only hb o5 (show w.heap.size ≤ g by omega) (Nat.le_refl _)
      have HJ : Hid (Has w5 g ((ps.take (k + 1)).flatten) ∧ Row w5 p2 .u8 (List.replicate 32 0) ∧ Below w.heap.size w w5) := ⟨H5, a2, ab⟩
      clear H r2 hb f1 H5 o5 a2 ab cu
      go_wp2
      exact ⟨⟨k + 1, by omega, by go_num, HJ.out⟩, by simp [intOf]; omega⟩
    · have hk' : k = ps.length := by omega
      subst hk'
      obtain ⟨H, r2, hb⟩ := HI.out
      rw [List.take_length] at H
      have hKr := hK.below hb hk0
      go_wp2_with fail
      refine (hsum_any g ps.flatten _ hKr H hsz).mono ?_
      rintro e w5 ⟨rfl, hb5⟩
      have r5 := r2.later hb5
      have hb6 := below_next hb hb5
      go_wp2_with ((with_reducible refine wp_storeR 49 (.tmp 2) (.tmp 18) p2 .u8 (List.replicate 32 0) (sumB ps.flatten) h32 ?_ ?_ ?_ ?_ r5 ?_); (unfold sumB; rw [dgs_len]; rfl); (exact ⟨rfl, rfl⟩); (exact rfl); (exact rfl); intro w8 r8 o8)
      refine ret_row rfl p2 .u8 (sumB ps.flatten) _ Tryd.underlying49 rfl h32 rfl r8 rfl ⟨rfl, ?_⟩
      exact below_only hb6 o8 q1 (Nat.le_refl _)
end Go.Proofs.YtilfmemfnheppaaDoor
