/- The seal of all that was written, and the seal of parts. Conditions: the table holds the rounds' numbers; a key has no more than 900,000 bytes, and so has what is written. -/
import Derived.Test.YtilfmemfnheppaaDoorMD
namespace Go.Proofs.YtilfmemfnheppaaDoor
open Go.RowKit Hx
set_option linter.unusedVariables false

/-- the seal of bytes under a key -/
def sealB (key l : List Int) : List Int := sumB (xorL (blkK key) 92 ++ sumB (xorL (blkK key) 54 ++ l))
theorem sealB_len (key l : List Int) : (sealB key l).length = 32 := sumB_len _

theorem slice29o (w : World) (p off : Nat) : (Instr.sliceAt 59 (.pointer (some ⟨p, off, none⟩)) none none none).run Tryd.prog w = .ok (.slice (some ⟨p, off, none⟩) 64 64) w := by
  rw [run_sliceAt_array_all w 59 _ Tryd.arr59, Tryd.elem59, Tryd.sizeOf5, Tryd.len59]
  simp only [Result.andThen_ok, slicedAt, Nat.mul_one]
  rfl

set_option maxRecDepth 100000 in
set_option maxHeartbeats 1000000 in
theorem seal_any (m g : Nat) (key l : List Int) (w : World) (hK : Kt w) (hh : MHas w m g key l) (hsz : l.length ≤ 800000) :
    Calls Tryd.prog 28 #[.pointer (some ⟨m, 0, none⟩)] w fun en w' => en = .returned (arr .u8 (sealB key l)) ∧ Below w.heap.size w w' := by
  obtain ⟨hm, hH, hg0, hmg⟩ := hh
  have hil := xorL_len (blkK key) 54
  have hol := xorL_len (blkK key) 92
  rw [blkK_len] at hil hol
  obtain ⟨D, hD⟩ : ∃ D, sumB (xorL (blkK key) 54 ++ l) = D := ⟨_, rfl⟩
  have hDl : D.length = 32 := by rw [← hD]; exact sumB_len _
  have hDb : By D := by rw [← hD]; exact sumB_by _
  obtain ⟨E, hE⟩ : ∃ E, sealB key l = E := ⟨_, rfl⟩
  have hEl : E.length = 32 := by rw [← hE]; exact sealB_len _ _
  have HE : Hid (sumB (xorL (blkK key) 92 ++ D) = E) := by show _ = _; rw [← hE, ← hD]; rfl
  have HD : Hid (sumB (xorL (blkK key) 54 ++ l) = D) := hD
  rw [hE]
  have hob : By (xorL (blkK key) 92) := xorL_bd _ _
  have hlen : (xorL (blkK key) 54 ++ l).length ≤ 900000 := by rw [List.length_append, hil]; omega
  generalize xorL (blkK key) 92 = O at *
  generalize xorL (blkK key) 54 ++ l = L at *
  clear hD hE hil
  have h32 : (Tryd.prog.info? 49).map (·.size) = some D.length := by rw [hDl]; exact Tryd.size49
  have h32E : (Tryd.prog.info? 49).map (·.size) = some E.length := by rw [hEl]; exact Tryd.size49
  have hk0 := hK.pos
  have hsl := slice29o
  have hsl2 := slice25a
  have cp := hm.ptr
  go_enter Tryd.func28, Tryd.ntmps28
  go_wp2_with ((with_reducible refine wp_allocD 2 49 .u8 32 Tryd.zero49 ?_ ?_); (exact ⟨rfl, rfl, rfl⟩); intro p2 w2 hg2 hr2 hb2; replace cp := (hm.later hb2).ptr)
  refine (hsum_any g L w2 (hK.below hb2 hk0) (hH.later hb2) hlen).mono ?_
  rintro e w3 ⟨rfl, hb3⟩
  rw [HD.out]
  have r2 := hr2.later hb3
  have hB3 := below_next hb2 hb3
  have m3 := (hm.later hb2).later hb3
  have l2 := hr2.lt
  clear hr2 hb3 hb2 hm hH cp
  go_wp2_with (first
    | ((with_reducible refine wp_allocD 3 49 .u8 32 Tryd.zero49 ?_ ?_); (exact ⟨rfl, rfl, rfl⟩); intro p3 w4 hg4 hr4 hb4)
    | ((with_reducible refine wp_storeR 49 (.tmp 3) (.tmp 8) p3 .u8 (List.replicate 32 0) D h32 ?_ ?_ ?_ ?_ hr4 ?_); (rw [hDl]; rfl); (exact ⟨rfl, rfl⟩); (exact rfl); (exact rfl); intro w5 r5 o5))
  have q3 : p2 < p3 := Nat.lt_of_lt_of_le r2.lt hg4
  have q4 : m < p3 := Nat.lt_of_lt_of_le m3.lt hg4
  have R2 := (r2.later hb4).only o5 (show p2 ≠ p3 by omega)
  have m5 := (m3.later hb4).only o5 (show m ≠ p3 by omega)
  have hB5 := below_only (below_next hB3 hb4) o5 (by omega) (Nat.le_refl _)
  have s5 := row_sl r5 hDb hDl (by omega)
  have t5 := m5.sl hob
  clear r2 m3 hB3 hb4 hr4 o5 r5 m5
  refine wp_region_any Tryd.mixed ?_
  refine wpAny_take (i := 0) rfl (by kernel_rfl) (by kernel_rfl) (by kernel_rfl) (fun c a w h => h) (.inl ⟨rfl, fun w => rfl⟩) ?_
  refine wpAny_take (i := 1) (v := .pointer (some ⟨m, 0, none⟩)) rfl (by kernel_rfl) (by kernel_rfl) (by kernel_rfl) (fun c a w h => h) (.inl ⟨rfl, fun w => by go_simp⟩) ?_
  refine wpAny_take (i := 2) (v := .pointer (some ⟨m, 1, none⟩)) rfl (by kernel_rfl) (by kernel_rfl) (by kernel_rfl) (fun c a w h => h) (.inl ⟨rfl, fun w => by go_simp⟩) ?_
  refine wpAny_take (i := 3) (v := .slice (some ⟨m, 1, none⟩) 64 64) rfl (by kernel_rfl) (by kernel_rfl) (by kernel_rfl) (fun c a w h => h) (.inl ⟨rfl, fun w => by go_simp⟩) ?_
  refine wpAny_take (i := 4) (v := .slice (some ⟨p3, 0, none⟩) 32 32) rfl (by kernel_rfl) (by kernel_rfl) (by kernel_rfl) (fun c a w h => h) (.inl ⟨rfl, fun w => by go_simp⟩) ?_
  refine any_of_seq 5 (by rfl) (by kernel_rfl) ?_
  simp only [List.drop_succ_cons, List.drop_zero]
  have s6 : Sl ({ w5 with drawn := w5.drawn + 1 } : World) (.slice (some ⟨p3, 0, none⟩) 32 32) D := s5
  have t6 : Sl ({ w5 with drawn := w5.drawn + 1 } : World) (.slice (some ⟨m, 1, none⟩) 64 64) O := t5
  have R6 : Row ({ w5 with drawn := w5.drawn + 1 } : World) p2 .u8 (List.replicate 32 0) := R2
  have hB6 : Below w.heap.size w ({ w5 with drawn := w5.drawn + 1 } : World) := hB5.drew
  generalize ({ w5 with drawn := w5.drawn + 1 } : World) = w6 at s6 t6 R6 hB6 ⊢
  clear s5 t5 R2 hB5
  go_wp2_with fail
  have p7 := psl_two t6 s6 25
  have hb7 : Below w6.heap.size w6 (w6.alloc (.cells #[.slice (some ⟨m, 1, none⟩) 64 64, .slice (some ⟨p3, 0, none⟩) 32 32] 25)) := (Below.refl _ _).alloc (Nat.le_refl _) _
  generalize w6.alloc (.cells #[.slice (some ⟨m, 1, none⟩) 64 64, .slice (some ⟨p3, 0, none⟩) 32 32] 25) = w7 at p7 hb7 ⊢
  have hB7 := below_next hB6 hb7
  refine (sum_any _ [O, D] w7 (hK.below hB7 hk0) p7 (by simp [hDl, hol])).mono ?_
  rintro e w8 ⟨rfl, hb8⟩
  rw [show ([O, D] : List (List Int)).flatten = O ++ D by simp, HE.out]
  have r8 := (R6.later hb7).later hb8
  have hB8 := below_next hB7 hb8
  clear p7 hb7 hb8 hB7 R6 s6 t6 hB6
  go_wp2_with ((with_reducible refine wp_storeR 49 (.tmp 2) (.tmp 15) p2 .u8 (List.replicate 32 0) E h32E ?_ ?_ ?_ ?_ r8 ?_); (rw [hEl]; rfl); (exact ⟨rfl, rfl⟩); (exact rfl); (exact rfl); intro w9 r9 o9)
  refine ret_row rfl p2 .u8 E _ Tryd.underlying49 rfl h32E rfl r9 rfl ⟨rfl, ?_⟩
  exact below_only hB8 o9 hg2 (Nat.le_refl _)
end Go.Proofs.YtilfmemfnheppaaDoor
