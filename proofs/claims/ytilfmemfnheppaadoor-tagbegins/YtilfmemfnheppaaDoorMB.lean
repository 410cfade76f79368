/- A key's block, by the program and by the document. Conditions: the table holds the rounds' numbers; a key has no more than 900,000 bytes. -/
import Derived.Test.YtilfmemfnheppaaDoorMA
import Derived.Test.YtilfmemfnheppaaDoorO
import Derived.Test.YtilfmemfnheppaaDoorS
namespace Go.Proofs.YtilfmemfnheppaaDoor
open Go.RowKit Hx
set_option linter.unusedVariables false

/-- an array of bytes in memory, as a slice of all of it -/
theorem row_sl {w : World} {p n : Nat} {xs : List Int} (h : Row w p .u8 xs) (hb : By xs) (hn : xs.length = n) (hs : n ≤ 1000000) : Sl w (.slice (some ⟨p, 0, none⟩) n n) xs := by
  refine ⟨some ⟨p, 0, none⟩, n, by rw [hn], hb, by omega, by omega, fun _ => ⟨p, 0, rfl, h.lt, fun i hi => ?_⟩⟩
  rw [Nat.zero_add]
  exact h.cell i hi

theorem slice25a (w : World) (p : Nat) : (Instr.sliceAt 49 (.pointer (some ⟨p, 0, none⟩)) none none none).run Tryd.prog w = .ok (.slice (some ⟨p, 0, none⟩) 32 32) w := by
  rw [run_sliceAt_array_all w 49 _ Tryd.arr49, Tryd.elem49, Tryd.sizeOf5, Tryd.len49]
  simp only [Result.andThen_ok, slicedAt, Nat.mul_one]
  rfl

/-- copy of a slice of bytes into an array -/
theorem wp_copyS {P : Program} {ops : Array Oper} {rest : List Oper} {o : Oper} {a : Act} {w : World} {Q : Exit → Act → World → Prop} (d s : Operand) (T elem : TypeId) (g off n c : Nat) (v : Value) (xs ys : List Int)
    (hop : o.guard = none ∧ o.op = .call { callee := .builtin .copy, args := #[d, s], argTypes := #[T, T] }) (hd : a.eval d = .slice (some ⟨g, off, none⟩) n c) (hs : a.eval s = v) (hv : Sl w v ys)
    (hu : P.underlying T = some (.slice elem)) (he : (P.info? elem).map (·.size) = some 1) (hr : Row w g .u8 xs) (hmn : ys.length ≤ n) (hfit : off + ys.length ≤ xs.length)
    (hK : ∀ w', Row w' g .u8 (xs.take off ++ ys ++ xs.drop (off + ys.length)) → Only g w w' → wpList P ops Q rest (a.put o.dst (goInt ys.length)) w') : wpList P ops Q (o :: rest) a w := by
  by_cases h0 : 0 < ys.length
  · obtain ⟨b, o2, cap, rfl, hb, hc⟩ := sl_cells hv h0
    exact wp_copyR d s T T elem g off n c ⟨b, o2, none⟩ ys.length cap xs ys hop hd hs hu he hr rfl hmn hfit hc hK
  · have hy : ys = [] := List.eq_nil_of_length_eq_zero (by omega)
    subst hy
    obtain ⟨ad, cap, rfl, _⟩ := hv
    have hrun := run_copy_none (P := P) w T T o.type elem (some ⟨g, off, none⟩) ad n c 0 cap hu he (by simp)
    refine wpList_plain hop.1 fun K hK' => ?_
    unfold Oper.wp execOp
    simp only [hop.2, resolve, List.map_toArray, List.map_cons, List.map_nil, hd, hs, List.length_nil, Sem.run_bind, Sem.run_pure, Result.andThen_ok, invoke, builtin, hrun]
    exact hK' _ _ (hK _ (by simpa using hr) (Only.refl _ _))

/-- a key's block -/
def blkK (key : List Int) : List Int := if key.length ≤ 64 then key ++ List.replicate (64 - key.length) 0 else sumB key ++ List.replicate 32 0
theorem sumB_len (l : List Int) : (sumB l).length = 32 := by unfold sumB; rw [dgs_len]
theorem sumB_by (l : List Int) : By (sumB l) := dgs_by _ _
theorem blkK_len (key : List Int) : (blkK key).length = 64 := by
  unfold blkK
  by_cases h : key.length ≤ 64
  · rw [if_pos h]; simp; omega
  · rw [if_neg h]; simp [sumB_len]
theorem blkK_by {key : List Int} (h : By key) : By (blkK key) := by
  intro x hx
  unfold blkK at hx
  split at hx
  · simp only [List.mem_append, List.mem_replicate] at hx
    rcases hx with hx | ⟨_, rfl⟩
    · exact h x hx
    · omega
  · simp only [List.mem_append, List.mem_replicate] at hx
    rcases hx with hx | ⟨_, rfl⟩
    · exact sumB_by _ x hx
    · omega
theorem lt63 {n : Nat} (h : n ≤ 64) : (n : Int) ≤ 64 := by omega

set_option maxRecDepth 100000 in
set_option maxHeartbeats 1000000 in
theorem block_any (v : Value) (key : List Int) (w : World) (hK : Kt w) (hv : Sl w v key) (hsz : key.length ≤ 900000) :
    Calls Tryd.prog 32 #[v] w fun en w' => en = .returned (arr .u8 (blkK key)) ∧ Below w.heap.size w w' := by
  have h64 : (Tryd.prog.info? 59).map (·.size) = some (blkK key).length := by rw [blkK_len]; exact Tryd.size59
  have hbl := blkK_len key
  have hinf : (Tryd.prog.info? 5).map (·.size) = some 1 := by kernel_rfl
  have hsl := slice30a
  have hsl2 := slice25a
  have hk0 := hK.pos
  obtain ⟨ad, cap, rfl, hv'⟩ := id hv
  have HV : Hid (Sl w (.slice ad key.length cap) key) := hv
  clear hv hv'
  by_cases hle : key.length ≤ 64
  · have hle' : (key.length : Int) ≤ 64 := lt63 hle
    have HB : Hid (blkK key = (List.replicate 64 0).take 0 ++ key ++ (List.replicate 64 0).drop (0 + key.length)) := by
      show _ = _
      unfold blkK; rw [if_pos hle, List.drop_replicate, List.take_zero, List.nil_append, Nat.zero_add]
    go_enter Tryd.func32, Tryd.ntmps32
    go_wp2_with (first
      | ((with_reducible refine wp_allocD 2 59 .u8 64 Tryd.zero59 ?_ ?_); (exact ⟨rfl, rfl, rfl⟩); intro p2 w2 hg2 hr2 hb2)
      | ((with_reducible refine wp_allocD 3 59 .u8 64 Tryd.zero59 ?_ ?_); (exact ⟨rfl, rfl, rfl⟩); intro p3 w3 hg3 hr3 hb3)
      | ((with_reducible refine wp_copyS (.tmp 8) (.tmp 9) 25 5 p3 0 64 64 _ (List.replicate 64 0) key ?_ ?_ ?_ ((HV.out.later hb2).later hb3) Tryd.underlying25 hinf hr3 hle (by simpa using hle) ?_); (exact ⟨rfl, rfl⟩); (exact rfl); (exact rfl); intro w4 r4 o4; rw [← HB.out] at r4)
      | ((with_reducible refine wp_loadR 59 (.tmp 3) p3 .u8 (blkK key) _ Tryd.underlying59 rfl h64 ?_ ?_ r4 ?_); (exact ⟨rfl, rfl⟩); (exact rfl))
      | ((with_reducible refine wp_storeR 59 (.tmp 2) (.tmp 11) p2 .u8 (List.replicate 64 0) (blkK key) h64 ?_ ?_ ?_ ?_ ((hr2.later hb3).only o4 (by have := hr2.lt; omega)) ?_); (rw [hbl]; rfl); (exact ⟨rfl, rfl⟩); (exact rfl); (exact rfl); intro w5 r5 o5))
    refine ret_row rfl p2 .u8 (blkK key) _ Tryd.underlying59 rfl h64 rfl r5 rfl ⟨rfl, ?_⟩
    have := hb2.size
    exact below_only (below_only (below_next hb2 hb3) o4 (by omega) (Nat.le_refl _)) o5 hg2 (Nat.le_refl _)
  · have hle' : ¬ (key.length : Int) ≤ 64 := by omega
    have HB : Hid (blkK key = (List.replicate 64 0).take 0 ++ sumB key ++ (List.replicate 64 0).drop (0 + (sumB key).length)) := by
      show _ = _
      unfold blkK; rw [if_neg hle, List.drop_replicate, List.take_zero, List.nil_append, Nat.zero_add, sumB_len]
    have h32 : (Tryd.prog.info? 49).map (·.size) = some (sumB key).length := by rw [sumB_len]; exact Tryd.size49
    have hs32 := sumB_len key
    have e64 : (List.replicate 64 (0 : Int)).length = 64 := rfl
    go_enter Tryd.func32, Tryd.ntmps32
    go_wp2_with (first
      | ((with_reducible refine wp_allocD 2 59 .u8 64 Tryd.zero59 ?_ ?_); (exact ⟨rfl, rfl, rfl⟩); intro p2 w2 hg2 hr2 hb2)
      | ((with_reducible refine wp_allocD 3 59 .u8 64 Tryd.zero59 ?_ ?_); (exact ⟨rfl, rfl, rfl⟩); intro p3 w3 hg3 hr3 hb3))
    have s3 : Sl w3 (.slice ad key.length cap) key := (HV.out.later hb2).later hb3
    have p1 := psl_one s3 (.cells #[.slice ad key.length cap] 25) ⟨_, rfl⟩
    have hb4 : Below w3.heap.size w3 (w3.alloc (.cells #[.slice ad key.length cap] 25)) := (Below.refl _ _).alloc (Nat.le_refl _) _
    have l2 := hr2.lt
    have l3 := hr3.lt
    have q1 : w.heap.size ≤ p2 := hg2
    have q2 : p2 < p3 := Nat.lt_of_lt_of_le l2 hg3
    generalize w3.alloc (.cells #[.slice ad key.length cap] 25) = w4 at p1 hb4 ⊢
    have hb := below_next (below_next hb2 hb3) hb4
    refine (sum_any _ [key] w4 (hK.below hb hk0) p1 (by simpa using hsz)).mono ?_
    rintro e w5 ⟨rfl, hb5⟩
    have r2 := ((hr2.later hb3).later hb4).later hb5
    have r3 := (hr3.later hb4).later hb5
    have hb' := below_next hb hb5
    rw [show ([key] : List (List Int)).flatten = key by simp]
    clear hr2 hr3 hb2 hb3 hb4 hb5 hb s3 p1
    go_wp2_with (first
      | ((with_reducible refine wp_allocD 4 49 .u8 32 Tryd.zero49 ?_ ?_); (exact ⟨rfl, rfl, rfl⟩); intro p4 w6 hg6 hr6 hb6)
      | ((with_reducible refine wp_storeR 49 (.tmp 4) (.tmp 14) p4 .u8 (List.replicate 32 0) (sumB key) h32 ?_ ?_ ?_ ?_ hr6 ?_); (rw [hs32]; rfl); (exact ⟨rfl, rfl⟩); (exact rfl); (exact rfl); intro w7 r7 o7))
    have l6 := hr6.lt
    have q3 : p3 < p4 := Nat.lt_of_lt_of_le r3.lt hg6
    have R2 := (r2.later hb6).only o7 (show p2 ≠ p4 by omega)
    have R3 := (r3.later hb6).only o7 (show p3 ≠ p4 by omega)
    have hB7 := below_only (below_next hb' hb6) o7 (by omega) (Nat.le_refl _)
    have s7 := row_sl r7 (sumB_by key) hs32 (by omega)
    clear r2 r3 hb6 o7 hr6 hb'
    refine wp_region_any Tryd.mixed ?_
    refine wpAny_take (i := 0) (v := .slice (some ⟨p3, 0, none⟩) 64 64) rfl (by kernel_rfl) (by kernel_rfl) (by kernel_rfl) (fun c a w h => h) (.inl ⟨rfl, fun w => by go_simp⟩) ?_
    refine wpAny_take (i := 1) (v := .slice (some ⟨p4, 0, none⟩) 32 32) rfl (by kernel_rfl) (by kernel_rfl) (by kernel_rfl) (fun c a w h => h) (.inl ⟨rfl, fun w => by go_simp⟩) ?_
    refine any_of_seq 2 (by rfl) (by kernel_rfl) ?_
    simp only [List.drop_succ_cons, List.drop_zero]
    have s8 : Sl ({ w7 with drawn := w7.drawn + 1 } : World) (.slice (some ⟨p4, 0, none⟩) 32 32) (sumB key) := s7
    have R3' : Row ({ w7 with drawn := w7.drawn + 1 } : World) p3 .u8 (List.replicate 64 0) := R3
    have R2' : Row ({ w7 with drawn := w7.drawn + 1 } : World) p2 .u8 (List.replicate 64 0) := R2
    have hB8 : Below w.heap.size w ({ w7 with drawn := w7.drawn + 1 } : World) := hB7.drew
    generalize ({ w7 with drawn := w7.drawn + 1 } : World) = w8 at s8 R3' R2' hB8 ⊢
    go_wp2_with (first
      | ((with_reducible refine wp_copyS (.tmp 15) (.tmp 16) 25 5 p3 0 64 64 _ (List.replicate 64 0) (sumB key) ?_ ?_ ?_ s8 Tryd.underlying25 hinf R3' (by omega) (by rw [hs32]; decide) ?_); (exact ⟨rfl, rfl⟩); (exact rfl); (exact rfl); intro w9 r9 o9; rw [← HB.out] at r9)
      | ((with_reducible refine wp_loadR 59 (.tmp 3) p3 .u8 (blkK key) _ Tryd.underlying59 rfl h64 ?_ ?_ r9 ?_); (exact ⟨rfl, rfl⟩); (exact rfl))
      | ((with_reducible refine wp_storeR 59 (.tmp 2) (.tmp 18) p2 .u8 (List.replicate 64 0) (blkK key) h64 ?_ ?_ ?_ ?_ (R2'.only o9 (by omega)) ?_); (rw [hbl]; rfl); (exact ⟨rfl, rfl⟩); (exact rfl); (exact rfl); intro w10 r10 o10))
    refine ret_row rfl p2 .u8 (blkK key) _ Tryd.underlying59 rfl h64 rfl r10 rfl ⟨rfl, ?_⟩
    exact below_only (below_only hB8 o9 (by omega) (Nat.le_refl _)) o10 (by omega) (Nat.le_refl _)
end Go.Proofs.YtilfmemfnheppaaDoor
