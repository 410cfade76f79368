/- That the document's examples hold. Conditions: the table holds the rounds' numbers. -/
import Derived.Test.YtbfbhdhffdddeaaDoorN
import Derived.Lib.SlBytesConst
namespace Go.Proofs.YtbfbhdhffdddeaaDoor
open Go.RowKit Hx
set_option linter.unusedVariables false

theorem sl_lit (w : World) (xs : List Int) (hx : ∀ x ∈ xs, 0 ≤ x ∧ x ≤ 255) (hl : xs.length ≤ 100) (fr : Nat × Nat) : Sl (w.alloc (.cells (cells8 xs).toArray 5 fr)) (.slice (some ⟨w.heap.size, 0, none⟩) xs.length xs.length) xs := by
  refine ⟨_, _, rfl, hx, by omega, Nat.le_refl _, fun h => ⟨w.heap.size, 0, rfl, by simp, fun i hi => ?_⟩⟩
  rw [cell_of_row _ w.heap.size (0 + i) (cells8 xs).toArray 5 fr (heap_alloc_new w _), Nat.zero_add]
  simpa using cells8_at xs i hi

/-- one part, newly laid -/
theorem psl_one {w : World} {u : Value} {xs : List Int} (h : Sl w u xs) (o : Obj) (ho : ∃ T, o = .cells #[u] T) : PSl (w.alloc o) (.slice (some ⟨w.heap.size, 0, none⟩) 1 1) [xs] := by
  obtain ⟨T, rfl⟩ := ho
  refine ⟨some ⟨w.heap.size, 0, none⟩, 1, rfl, by simp, by simp, fun _ => ⟨w.heap.size, 0, rfl, by simp, fun i hi => ?_⟩⟩
  have hi0 : i = 0 := by simpa using hi
  subst hi0
  refine ⟨u, by simp, ?_⟩
  exact h.later ((Below.refl _ _).alloc (Nat.le_refl _) _)

set_option maxRecDepth 100000 in
set_option maxHeartbeats 1000000 in
theorem wakes_any (w : World) (hK : Kt w) : Calls Tryd.prog 10 #[] w fun en w' => en = .returned (.bool true) ∧ Below w.heap.size w w' := by
  obtain ⟨D, hS, hD, n0, n1, n2, n3⟩ : ∃ D : List Int, sumB ([[97, 98, 99]] : List (List Int)).flatten = D ∧ D.length = 32 ∧ nth D 0 = 186 ∧ nth D 1 = 120 ∧ nth D 2 = 22 ∧ nth D 3 = 191 :=
    ⟨dgs abcS 8, abc_sum, dgs_len _ _, abc_bytes.1, abc_bytes.2.1, abc_bytes.2.2.1, abc_bytes.2.2.2⟩
  have HS : Hid (sumB ([[97, 98, 99]] : List (List Int)).flatten = D) := hS
  have h32 : (Tryd.prog.info? 24).map (·.size) = some D.length := by rw [hD]; exact Tryd.size24
  clear hS
  have hc : ∀ (w3 : World) (p : Nat), Row w3 p .u8 D → w3.cell? ⟨p, 0, none⟩ = some (.int .u8 186) ∧ w3.cell? ⟨p, 1, none⟩ = some (.int .u8 120) ∧ w3.cell? ⟨p, 2, none⟩ = some (.int .u8 22) ∧ w3.cell? ⟨p, 3, none⟩ = some (.int .u8 191) := by
    intro w3 p r3
    refine ⟨?_, ?_, ?_, ?_⟩
    · rw [r3.cell 0 (by omega), n0]
    · rw [r3.cell 1 (by omega), n1]
    · rw [r3.cell 2 (by omega), n2]
    · rw [r3.cell 3 (by omega), n3]
  clear n0 n1 n2 n3
  have kc := fun (w : World) (C : Array Value) (n c : Nat) => Lib.run_convert_bytes_const (P := Tryd.prog) w 22 5 C n c Tryd.underlying22 Tryd.underlying5
  go_enter Tryd.func10, Tryd.ntmps10
  go_wp2_with fail
  clear kc
  have p1 : PSl ((w.alloc (.cells #[.int .u8 97, .int .u8 98, .int .u8 99] 5 (3, 4))).alloc (.cells #[.slice (some ⟨w.heap.size, 0, none⟩) 3 3] 22)) (.slice (some ⟨w.heap.size + 1, 0, none⟩) 1 1) [[97, 98, 99]] := by
    have s1 := sl_lit w [97, 98, 99] (by decide) (by decide) (3, 4)
    have h := psl_one s1 (.cells #[.slice (some ⟨w.heap.size, 0, none⟩) 3 3] 22) ⟨_, rfl⟩
    rw [World.size_alloc] at h
    exact h
  have hb1 : Below w.heap.size w ((w.alloc (.cells #[.int .u8 97, .int .u8 98, .int .u8 99] 5 (3, 4))).alloc (.cells #[.slice (some ⟨w.heap.size, 0, none⟩) 3 3] 22)) := ((Below.refl _ _).alloc (Nat.le_refl _) _).alloc (by simp) _
  generalize (w.alloc (.cells #[.int .u8 97, .int .u8 98, .int .u8 99] 5 (3, 4))).alloc (.cells #[.slice (some ⟨w.heap.size, 0, none⟩) 3 3] 22) = w0 at p1 hb1 ⊢
  have hK0 := hK.below hb1 hK.pos
  refine (sum_any (.slice (some ⟨w.heap.size + 1, 0, none⟩) 1 1) [[97, 98, 99]] w0 hK0 p1 (by decide)).mono ?_
  rintro e w1 ⟨rfl, hb2⟩
  rw [HS.out]
  have hb := hb1.trans (hb2.mono hb1.size)
  clear p1 hb1 hb2 HS hK0
  go_wp2_with (first
    | ((with_reducible refine wp_allocD 1 24 .u8 32 Tryd.zero24 ?_ ?_); (exact ⟨rfl, rfl, rfl⟩); intro p w2 hg2 hr2 hb2)
    | ((with_reducible refine wp_storeR 24 (.tmp 1) (.tmp 5) p .u8 (List.replicate 32 0) D h32 ?_ ?_ ?_ ?_ hr2 ?_); (simp [hD]); (exact ⟨rfl, rfl⟩); (exact rfl); (exact rfl); intro w3 r3 o3; obtain ⟨c0, c1, c2, c3⟩ := hc _ _ r3))
  have hb3 := below_only (below_next hb hb2) o3 (by have := hb.size; omega) (Nat.le_refl _)
  clear hb hb2 o3 r3 hr2 hg2
  refine (pad_any 55 (by decide) (by decide) _).mono ?_
  rintro e w4 ⟨v4, rfl, s4, hb4⟩
  obtain ⟨ad, cap, rfl, _⟩ := s4
  rw [pad55]
  go_wp2_with fail
  refine (pad_any 56 (by decide) (by decide) _).mono ?_
  rintro e w5 ⟨v5, rfl, s5, hb5⟩
  obtain ⟨ad5, cap5, rfl, _⟩ := s5
  rw [pad56]
  go_wp2
  go_ret
  exact ⟨rfl, below_next (below_next hb3 hb4) hb5⟩
end Go.Proofs.YtbfbhdhffdddeaaDoor
