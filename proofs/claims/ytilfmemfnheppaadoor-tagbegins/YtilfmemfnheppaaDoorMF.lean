/- The seal of parts, one behind the other. Conditions: the table holds the rounds' numbers; a key has no more than 900,000 bytes, the parts no more than 800,000. -/
import Derived.Test.YtilfmemfnheppaaDoorME
namespace Go.Proofs.YtilfmemfnheppaaDoor
open Go.RowKit Hx
set_option linter.unusedVariables false

theorem mwrite_any (m g : Nat) (key l bs : List Int) (v : Value) (w : World) (hK : Kt w) (hh : MHas w m g key l) (hv : Sl w v bs) (hne : ∀ b off n cap, v = .slice (some ⟨b, off, none⟩) n cap → 0 < bs.length → b ≠ g) (hsz : l.length + bs.length ≤ 900000) :
    Calls Tryd.prog 27 #[.pointer (some ⟨g, 0, none⟩), v] w fun en w' => en = .returned (.tuple #[]) ∧ MHas w' m g key (l ++ bs) ∧ Only g w w' := by
  obtain ⟨hm, hH, hg0, hmg⟩ := hh
  have hil := xorL_len (blkK key) 54
  rw [blkK_len] at hil
  refine (write_any g _ bs v w hK hg0 hH hv hne (by rw [List.length_append, hil]; omega)).mono ?_
  rintro e w' ⟨rfl, h', o'⟩
  exact ⟨rfl, ⟨hm.only o' hmg, by rw [← List.append_assoc]; exact h', hg0, hmg⟩, o'⟩

set_option maxRecDepth 100000 in
set_option maxHeartbeats 1000000 in
theorem msum_any (v u : Value) (key : List Int) (ps : List (List Int)) (w : World) (hK : Kt w) (hv : Sl w v key) (hu : PSl w u ps) (hks : key.length ≤ 900000) (hsz : ps.flatten.length ≤ 800000) :
    Calls Tryd.prog 22 #[v, u] w fun en w' => en = .returned (arr .u8 (sealB key ps.flatten)) ∧ Below w.heap.size w w' := by
  obtain ⟨ad, cap, rfl, hl, hcap, hr⟩ := hu
  have hse := sealB_len key ps.flatten
  have h32 : (Tryd.prog.info? 49).map (·.size) = some (sealB key ps.flatten).length := by rw [hse]; exact Tryd.size49
  have hk0 := hK.pos
  go_enter Tryd.func22, Tryd.ntmps22
  go_wp2_with ((with_reducible refine wp_allocD 4 49 .u8 32 Tryd.zero49 ?_ ?_); (exact ⟨rfl, rfl, rfl⟩); intro p2 w2 hg2 hr2 hb2)
  refine (mnew_any v key w2 (hK.below hb2 hk0) (hv.later hb2) hks).mono ?_
  rintro e w3 ⟨m, g, rfl, hgm, hg3, H3, hb3⟩
  have l2 := hr2.lt
  have q2 : p2 < g := Nat.lt_of_lt_of_le l2 hg3
  have hb := below_next hb2 hb3
  have HI : Hid (MHas w3 m g key [] ∧ Row w3 p2 .u8 (List.replicate 32 0) ∧ Below w.heap.size w w3) := ⟨H3, hr2.later hb3, hb⟩
  have q1 : w.heap.size ≤ p2 := hg2
  clear hr2 hb2 hb3 H3 hb hg2 hg3 l2 hgm
  go_wp2_with fail
  go_loopw [12] (fun i wr => ∃ k : Nat, k ≤ ps.length ∧ i = .int .i64 k ∧ Hid (MHas wr m g key ((ps.take k).flatten) ∧ Row wr p2 .u8 (List.replicate 32 0) ∧ Below w.heap.size w wr)) (fun i _ => ps.length - (intOf i).toNat)
  case atStart => exact ⟨0, by omega, rfl, HI.out⟩
  case round =>
    clear HI
    obtain ⟨k, hk, rfl, HI⟩ := hrel
    by_cases hlt : k < ps.length
    · obtain ⟨b, off, rfl, hbs, hcell⟩ := hr (by omega)
      obtain ⟨u, hu, hsu⟩ := hcell k hlt
      obtain ⟨H, r2, hb⟩ := HI.out
      have hlt' : (k : Int) < (ps.length : Int) := by omega
      have cu : wr.cell? ⟨b, off + k, none⟩ = some u := (hb.cell (p := ⟨b, off + k, none⟩) hbs).trans hu
      have cp := H.ptr
      have HS : Hid (Sl w u (part ps k)) := hsu
      clear hcell hr hu hsu H r2 hb
      go_wp2_with fail
      obtain ⟨H, r2, hb⟩ := HI.out
      have f1 := flat_le ps (k + 1)
      rw [flat_next ps k hlt, List.length_append] at f1
      refine (mwrite_any m g key _ (part ps k) u wr (hK.below hb hk0) H (HS.out.later hb) (fun b off n cap he h0 => by have := sl_block HS.out b off n cap he h0; omega) (by omega)).mono ?_
      rintro e w5 ⟨rfl, H5, o5⟩
      rw [← flat_next ps k hlt] at H5
      have a2 := r2.only o5 (show p2 ≠ g by omega)
      have ab := below_only hb o5 (show w.heap.size ≤ g by omega) (Nat.le_refl _)
      have HJ : Hid (MHas w5 m g key ((ps.take (k + 1)).flatten) ∧ Row w5 p2 .u8 (List.replicate 32 0) ∧ Below w.heap.size w w5) := ⟨H5, a2, ab⟩
      clear H r2 hb f1 H5 o5 a2 ab cu cp
      go_wp2
      exact ⟨⟨k + 1, by omega, by go_num, HJ.out⟩, by simp [intOf]; omega⟩
    · have hk' : k = ps.length := by omega
      subst hk'
      obtain ⟨H, r2, hb⟩ := HI.out
      rw [List.take_length] at H
      have hKr := hK.below hb hk0
      go_wp2_with fail
      refine (seal_any m g key ps.flatten _ hKr H hsz).mono ?_
      rintro e w5 ⟨rfl, hb5⟩
      have r5 := r2.later hb5
      have hb6 := below_next hb hb5
      go_wp2_with ((with_reducible refine wp_storeR 49 (.tmp 4) (.tmp 24) p2 .u8 (List.replicate 32 0) (sealB key ps.flatten) h32 ?_ ?_ ?_ ?_ r5 ?_); (rw [hse]; rfl); (exact ⟨rfl, rfl⟩); (exact rfl); (exact rfl); intro w8 r8 o8)
      refine ret_row rfl p2 .u8 (sealB key ps.flatten) _ Tryd.underlying49 rfl h32 rfl r8 rfl ⟨rfl, ?_⟩
      exact below_only hb6 o8 q1 (Nat.le_refl _)
end Go.Proofs.YtilfmemfnheppaaDoor
