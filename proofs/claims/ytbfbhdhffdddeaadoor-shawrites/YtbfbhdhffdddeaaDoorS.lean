/- The walk of ShaTurns. Conditions: the table holds the rounds' numbers. -/
import Derived.Test.YtbfbhdhffdddeaaDoorLaid
import Derived.Test.YtbfbhdhffdddeaaDoorG
namespace Go.Proofs.YtbfbhdhffdddeaaDoor
open Go.RowKit Hx
set_option linter.unusedVariables false

theorem slice30a (w : World) (p : Nat) : (Instr.sliceAt 30 (.pointer (some ⟨p, 0, none⟩)) none none none).run Tryd.prog w = .ok (.slice (some ⟨p, 0, none⟩) 64 64) w := by
  rw [run_sliceAt_array_all w 30 _ Tryd.arr30, Tryd.elem30, Tryd.sizeOf5, Tryd.len30]
  simp only [Result.andThen_ok, slicedAt, Nat.mul_one]
  rfl

theorem wpOp_do {P : Program} {ops : Array Oper} {Q : Exit → Act → World → Prop} {K : Act → World → Prop} {a : Act} {w : World} {o : Oper} (i : Nat) (ho : ops[i]? = some o) (hg : o.guard = none) (h : o.wp P a w K Q) : wpOp P ops Q i K a w := by
  unfold wpOp
  rw [ho]
  show if Region.wanted o (yielded ops a.tmps) then _ else _
  rw [if_pos (by simp [Region.wanted, hg])]
  exact .inl h
/-- a new array of noughts, as an operation that comes up in a region that draws its order -/
theorem wpOp_allocR {P : Program} {ops : Array Oper} {Q : Exit → Act → World → Prop} {K : Act → World → Prop} {a : Act} {w : World} {o : Oper} (i : Nat) (ho : ops[i]? = some o) (ty : TypeId) (k : IntKind) (n : Nat)
    (hz : (P.info? ty).bind (·.zero) = some (arr k (List.replicate n 0))) (hop : o.guard = none ∧ o.op = .alloc ty)
    (hK : ∀ g w', w.heap.size ≤ g → Row w' g k (List.replicate n 0) → Below w.heap.size w w' → K (a.put o.dst (.pointer (some ⟨g, 0, none⟩))) w') : wpOp P ops Q i K a w := by
  refine wpOp_do i ho hop.1 ?_
  have hrun : (Instr.alloc ty true (.tuple #[])).run P w = .ok (.pointer (some ⟨w.heap.size, 0, none⟩)) (w.alloc (.cells (cellsK k (List.replicate n 0)).toArray ty)) := by
    cases hi : P.info? ty with
    | none => simp [hi] at hz
    | some i =>
      have hz' : i.zero = some (arr k (List.replicate n 0)) := by simpa [hi] using hz
      simp [Instr.alloc, zeroValue, typeInfo, hi, hz', newVar, newRow, arr, Value.cells]
  unfold Oper.wp
  simp only [execOp, hop.2, Sem.run_bind, hrun, Result.andThen_ok, Sem.run_pure]
  exact hK w.heap.size _ (Nat.le_refl _) ⟨ty, heap_alloc_new w _⟩ ((Below.refl _ _).alloc (Nat.le_refl _) _)

set_option maxRecDepth 100000 in
set_option maxHeartbeats 1000000 in
theorem law_turns (s blk : List Int) (w : World) (hK : Kt w) (hs : St s) (hB : Blk blk) :
    Calls Tryd.prog 4 #[arr .u32 s, arr .u8 blk] w fun en w' => en = .returned (.bool true) ∧ Below w.heap.size w w' := by
  have h8 : (Tryd.prog.info? 29).map (·.size) = some s.length := by rw [hs.1]; exact Tryd.size29
  have h8' : (Tryd.prog.info? 32).map (·.size) = some s.length := by rw [hs.1]; exact Tryd.size32
  have h64 : (Tryd.prog.info? 30).map (·.size) = some blk.length := by rw [hB.1]; exact Tryd.size30
  have hk0 := hK.pos
  go_enter Tryd.func4, Tryd.ntmps4
  go_wp2_with (first
    | ((with_reducible refine wp_boxR 29 (.tmp 0) .u32 s ?_ ?_ ?_); (exact rfl); (exact ⟨rfl, rfl⟩); intro p2 w2 hg2 hr2 hb2)
    | ((with_reducible refine wp_boxR 30 (.tmp 1) .u8 blk ?_ ?_ ?_); (exact rfl); (exact ⟨rfl, rfl⟩); intro p3 w3 hg3 hr3 hb3))
  have hbA := below_next hb2 hb3
  refine (wakes_any _ (hK.below hbA hk0)).mono ?_
  rintro e w4 ⟨rfl, hb4⟩
  have r2 := (hr2.later hb3).later hb4
  have r3 := hr3.later hb4
  have hbB := below_next hbA hb4
  have q2 : w.heap.size ≤ p2 := hg2
  have q3 : p2 < p3 := Nat.lt_of_lt_of_le hr2.lt hg3
  clear hr2 hr3 hb2 hb3 hb4 hbA hg2 hg3
  go_wp2_with ((with_reducible refine wp_allocD 5 32 .u64 8 Tryd.zero32 ?_ ?_); (exact ⟨rfl, rfl, rfl⟩); intro p5 w5 hg5 hr5 hb5)
  have q5 : p3 < p5 := Nat.lt_of_lt_of_le r3.lt hg5
  have HI : Hid (Row w5 p2 .u32 s ∧ Row w5 p3 .u8 blk ∧ Row w5 p5 .u64 (s.take 0 ++ List.replicate (8 - 0) 0) ∧ Below w.heap.size w w5) := ⟨r2.later hb5, r3.later hb5, hr5, below_next hbB hb5⟩
  clear r2 r3 hr5 hb5 hg5 hbB
  go_loopw [12] (fun i wr => ∃ k : Nat, k ≤ 8 ∧ i = .int .i64 k ∧ Hid (Row wr p2 .u32 s ∧ Row wr p3 .u8 blk ∧ Row wr p5 .u64 (s.take k ++ List.replicate (8 - k) 0) ∧ Below w.heap.size w wr)) (fun i _ => 8 - (intOf i).toNat)
  case atStart => exact ⟨0, by omega, rfl, HI.out⟩
  case round =>
    clear HI
    obtain ⟨k, hk, rfl, HI⟩ := hrel
    by_cases hlt : k < 8
    · have hlt' : (k : Int) < 8 := by omega
      have hk0' : (0 : Int) ≤ (k : Int) := by omega
      obtain ⟨r2, r3, r5, hb⟩ := HI.out
      have c2 := r2.cell k (by rw [hs.1]; exact hlt)
      have c5 := r5.cell k (by simp [hs.1]; omega)
      have f5 := r5.froz k
      obtain ⟨x0, x1⟩ := nth_wd hs.2 k
      have HT : Hid (s.take k ++ [nth s k] = s.take (k + 1)) := take_next s k (by rw [hs.1]; exact hlt)
      clear r2 r3 r5 hb
      generalize nth (s.take k ++ List.replicate (8 - k) 0) k = z at c5
      generalize nth s k = X at c2 x0 x1 HT
      go_wp2
      obtain ⟨r2, r3, r5, hb⟩ := HI.out
      have o := only_setCell wr p5 k (.int .u64 X)
      have a2 := r2.only o (show p2 ≠ p5 by omega)
      have a3 := r3.only o (show p3 ≠ p5 by omega)
      have a5 := r5.set k X
      rw [show 8 - k = (8 - (k + 1)) + 1 by omega] at a5
      have e := set_next (s.take k) (8 - (k + 1)) X
      rw [show (s.take k).length = k by rw [List.length_take, hs.1]; omega] at e
      rw [e, HT.out] at a5
      have ab := below_only hb o (show w.heap.size ≤ p5 by omega) (Nat.le_refl _)
      exact ⟨⟨k + 1, by omega, by go_num, a2, a3, a5, ab⟩, by simp [intOf]; omega⟩
    · have hk' : k = 8 := by omega
      subst hk'
      obtain ⟨r2, r3, r5, hb⟩ := HI.out
      rw [List.take_of_length_le (by rw [hs.1]; omega), Nat.sub_self, List.replicate_zero, List.append_nil] at r5
      have hst := turn_st (blk := blk) hs
      have H5 : Hid (Row wr p5 .u64 s) := r5
      have s3 : Sl wr (.slice (some ⟨p3, 0, none⟩) 64 64) blk := by
        have := r3.part hB.2 0 64 64 (by rw [hB.1]; omega) (by omega) (by omega)
        rw [List.drop_zero, List.take_of_length_le (by rw [hB.1]; omega)] at this
        exact this
      have hsl := fun w => slice30a w p3
      have W5 : Hid (wr.rangeAt p5 0 (cellsK .u64 s)) := r5.range
      have HT8 : (Tryd.prog.info? 32).map (·.size) = some (turn s blk).length := by rw [hst.1]; exact Tryd.size32
      have hT8 := hst.1
      have HT29 : (Tryd.prog.info? 29).map (·.size) = some (turn s blk).length := by rw [hst.1]; exact Tryd.size29
      go_wp2_with fail
      refine wp_region_any Tryd.mixed ?_
      refine wpAny_take (i := 1) (v := .slice (some ⟨p3, 0, none⟩) 64 64) rfl (by kernel_rfl) (by kernel_rfl) (by kernel_rfl) (fun c a w h => h) (.inl ⟨rfl, fun w => by go_simp⟩) ?_
      refine wpAny_all (rs := [0, 3]) (by kernel_rfl) (by simp) (fun i hi => ?_)
      simp only [List.mem_cons, List.not_mem_nil, or_false] at hi
      rcases hi with rfl | rfl
      · refine wpOp_loadM 0 (by rfl) 32 (.tmp 5) p5 0 .u64 s _ Tryd.underlying32 rfl h8' (by exact ⟨rfl, rfl⟩) (by kernel_rfl) W5.out ?_
        refine wpAny_all (rs := [2, 3]) (by kernel_rfl) (by simp) (fun i hi => ?_)
        simp only [List.mem_cons, List.not_mem_nil, or_false] at hi
        rcases hi with rfl | rfl
        · refine wpOp_do 2 (by rfl) (by rfl) ?_
          go_wp2_with fail
          refine (rturn_any s blk hs hB _ wr.drew (show Sl wr.drew _ _ from s3)).mono ?_
          rintro e w6 ⟨rfl, hb6⟩
          have hb6' : Below wr.heap.size wr w6 := ⟨hb6.os, hb6.tape, hb6.output, hb6.size, hb6.block⟩
          refine any_of_seq 3 (by rfl) (by kernel_rfl) ?_
          simp only [List.drop_succ_cons, List.drop_zero]
          have k2 := r2.later hb6'
          have k3 := r3.later hb6'
          have kb := below_next hb hb6'
          have k5 := r5.later hb6'
          clear hb6 hb6' r2 r3 r5 hb W5 s3 hsl H5 HI
          go_wp2_with (first
            | ((with_reducible refine wp_allocD 7 32 .u64 8 Tryd.zero32 ?_ ?_); (exact ⟨rfl, rfl, rfl⟩); intro p7 w7 hg7 hr7 hb7a; have q7 : p5 < p7 := Nat.lt_of_lt_of_le k5.lt hg7; replace k2 := k2.later hb7a; replace k3 := k3.later hb7a; replace kb := below_next kb hb7a; clear k5 hb7a)
            | ((with_reducible refine wp_storeR 32 (.tmp 7) (.tmp 24) p7 .u64 (List.replicate 8 0) (turn s blk) HT8 ?_ ?_ ?_ ?_ hr7 ?_); (rw [hT8]; rfl); (exact ⟨rfl, rfl⟩); (exact rfl); (exact rfl); intro w7' R7 ho7; have R2 := k2.only ho7 (show p2 ≠ p7 by omega); have R3 := k3.only ho7 (show p3 ≠ p7 by omega); have hb7 := below_only kb ho7 (show w.heap.size ≤ p7 by omega) (Nat.le_refl _))
            | ((with_reducible refine wp_loadR 29 (.tmp 2) p2 .u32 s _ Tryd.underlying29 rfl h8 ?_ ?_ R2 ?_); (exact ⟨rfl, rfl⟩); (exact rfl))
            | ((with_reducible refine wp_loadR 30 (.tmp 3) p3 .u8 blk _ Tryd.underlying30 rfl h64 ?_ ?_ R3 ?_); (exact ⟨rfl, rfl⟩); (exact rfl)))
          have hK7 := hK.below hb7 hk0
          refine (turn_any s blk hs hB _ hK7).mono ?_
          rintro e w8 ⟨rfl, hb8⟩
          have R7' := R7.later hb8
          have hb8' := below_next hb7 hb8
          go_wp2_with (first
            | ((with_reducible refine wp_allocD 8 29 .u32 8 Tryd.zero29 ?_ ?_); (exact ⟨rfl, rfl, rfl⟩); intro p8 w9 hg9 hr9 hb9)
            | ((with_reducible refine wp_storeR 29 (.tmp 8) (.tmp 27) p8 .u32 (List.replicate 8 0) (turn s blk) HT29 ?_ ?_ ?_ ?_ hr9 ?_); (rw [hT8]; rfl); (exact ⟨rfl, rfl⟩); (exact rfl); (exact rfl); intro w10 hr10 ho10))
          have HJ : Hid (Row w10 p7 .u64 (turn s blk) ∧ Row w10 p8 .u32 (turn s blk) ∧ Below w.heap.size w w10) :=
            ⟨(R7'.later hb9).only ho10 (by have := R7'.lt; omega), hr10, below_only (below_next hb8' hb9) ho10 (by have := hb8'.size; omega) (Nat.le_refl _)⟩
          clear R2 R3 R7 R7' hr9 hb9 ho10 hr10 hb8 hb8' hb7 hK7 hg9
          go_loopw [28] (fun i wr => ∃ k : Nat, k ≤ 8 ∧ i = .int .i64 k ∧ Hid (Row wr p7 .u64 (turn s blk) ∧ Row wr p8 .u32 (turn s blk) ∧ Below w.heap.size w wr)) (fun i _ => 8 - (intOf i).toNat)
          case atStart => exact ⟨0, by omega, rfl, HJ.out⟩
          case round =>
            clear HJ
            obtain ⟨k, hk, rfl, HJ⟩ := hrel
            by_cases hlt : k < 8
            · have hlt' : (k : Int) < 8 := by omega
              have hk0' : (0 : Int) ≤ (k : Int) := by omega
              obtain ⟨r7, r8, hb⟩ := HJ.out
              have c7 := r7.cell k (by rw [hT8]; exact hlt)
              have c8 := r8.cell k (by rw [hT8]; exact hlt)
              obtain ⟨x0, x1⟩ := nth_wd hst.2 k
              have HB : Hid (Below w.heap.size w wr) := hb
              clear r7 r8 hb
              generalize nth (turn s blk) k = X at c7 c8 x0 x1
              have eX : IntKind.u64.wrap X = X := by rw [IntKind.wrap_u64]; omega
              have hne : (X != X) = false := by simp
              go_wp2
              go_quiet (fail)
              go_wp2
              obtain ⟨r7, r8, hb⟩ := HJ.out
              exact ⟨⟨k + 1, by omega, by go_num, r7, r8, below_drewN hb _⟩, by simp [intOf]; omega⟩
            · obtain ⟨r7, r8, hb⟩ := HJ.out
              go_wp2
              go_ret
              exact ⟨rfl, hb⟩
        · refine wpOp_allocR 3 (by rfl) 32 .u64 8 Tryd.zero32 (by exact ⟨rfl, rfl⟩) ?_
          intro p7 w7 hg7 hr7 hb7b
          have hb7a : Below wr.heap.size wr w7 := ⟨hb7b.os, hb7b.tape, hb7b.output, hb7b.size, hb7b.block⟩
          replace hg7 : wr.heap.size ≤ p7 := hg7
          clear hb7b
          refine wpAny_all (rs := [2]) (by kernel_rfl) (by simp) (fun i hi => ?_)
          obtain rfl : i = 2 := by simpa using hi
          refine wpOp_do 2 (by rfl) (by rfl) ?_
          go_wp2_with fail
          refine (rturn_any s blk hs hB _ w7 (s3.later hb7a)).mono ?_
          rintro e w6 ⟨rfl, hb6⟩
          refine any_of_seq 4 (by rfl) (by kernel_rfl) ?_
          simp only [List.drop_succ_cons, List.drop_zero]
          have k2 := (r2.later hb7a).later hb6
          have k3 := (r3.later hb7a).later hb6
          have kb := below_next (below_next hb hb7a) hb6
          replace hr7 := hr7.later hb6
          have q7 : p5 < p7 := Nat.lt_of_lt_of_le r5.lt hg7
          clear hb6 r2 r3 r5 hb W5 s3 hsl H5 HI hb7a
          go_wp2_with (first
            | ((with_reducible refine wp_storeR 32 (.tmp 7) (.tmp 24) p7 .u64 (List.replicate 8 0) (turn s blk) HT8 ?_ ?_ ?_ ?_ hr7 ?_); (rw [hT8]; rfl); (exact ⟨rfl, rfl⟩); (exact rfl); (exact rfl); intro w7' R7 ho7; have R2 := k2.only ho7 (show p2 ≠ p7 by omega); have R3 := k3.only ho7 (show p3 ≠ p7 by omega); have hb7 := below_only kb ho7 (show w.heap.size ≤ p7 by omega) (Nat.le_refl _))
            | ((with_reducible refine wp_loadR 29 (.tmp 2) p2 .u32 s _ Tryd.underlying29 rfl h8 ?_ ?_ R2 ?_); (exact ⟨rfl, rfl⟩); (exact rfl))
            | ((with_reducible refine wp_loadR 30 (.tmp 3) p3 .u8 blk _ Tryd.underlying30 rfl h64 ?_ ?_ R3 ?_); (exact ⟨rfl, rfl⟩); (exact rfl)))
          have hK7 := hK.below hb7 hk0
          refine (turn_any s blk hs hB _ hK7).mono ?_
          rintro e w8 ⟨rfl, hb8⟩
          have R7' := R7.later hb8
          have hb8' := below_next hb7 hb8
          go_wp2_with (first
            | ((with_reducible refine wp_allocD 8 29 .u32 8 Tryd.zero29 ?_ ?_); (exact ⟨rfl, rfl, rfl⟩); intro p8 w9 hg9 hr9 hb9)
            | ((with_reducible refine wp_storeR 29 (.tmp 8) (.tmp 27) p8 .u32 (List.replicate 8 0) (turn s blk) HT29 ?_ ?_ ?_ ?_ hr9 ?_); (rw [hT8]; rfl); (exact ⟨rfl, rfl⟩); (exact rfl); (exact rfl); intro w10 hr10 ho10))
          have HJ : Hid (Row w10 p7 .u64 (turn s blk) ∧ Row w10 p8 .u32 (turn s blk) ∧ Below w.heap.size w w10) :=
            ⟨(R7'.later hb9).only ho10 (by have := R7'.lt; omega), hr10, below_only (below_next hb8' hb9) ho10 (by have := hb8'.size; omega) (Nat.le_refl _)⟩
          clear R2 R3 R7 R7' hr9 hb9 ho10 hr10 hb8 hb8' hb7 hK7 hg9
          go_loopw [28] (fun i wr => ∃ k : Nat, k ≤ 8 ∧ i = .int .i64 k ∧ Hid (Row wr p7 .u64 (turn s blk) ∧ Row wr p8 .u32 (turn s blk) ∧ Below w.heap.size w wr)) (fun i _ => 8 - (intOf i).toNat)
          case atStart => exact ⟨0, by omega, rfl, HJ.out⟩
          case round =>
            clear HJ
            obtain ⟨k, hk, rfl, HJ⟩ := hrel
            by_cases hlt : k < 8
            · have hlt' : (k : Int) < 8 := by omega
              have hk0' : (0 : Int) ≤ (k : Int) := by omega
              obtain ⟨r7, r8, hb⟩ := HJ.out
              have c7 := r7.cell k (by rw [hT8]; exact hlt)
              have c8 := r8.cell k (by rw [hT8]; exact hlt)
              obtain ⟨x0, x1⟩ := nth_wd hst.2 k
              have HB : Hid (Below w.heap.size w wr) := hb
              clear r7 r8 hb
              generalize nth (turn s blk) k = X at c7 c8 x0 x1
              have eX : IntKind.u64.wrap X = X := by rw [IntKind.wrap_u64]; omega
              have hne : (X != X) = false := by simp
              go_wp2
              go_quiet (fail)
              go_wp2
              obtain ⟨r7, r8, hb⟩ := HJ.out
              exact ⟨⟨k + 1, by omega, by go_num, r7, r8, below_drewN hb _⟩, by simp [intOf]; omega⟩
            · obtain ⟨r7, r8, hb⟩ := HJ.out
              go_wp2
              go_ret
              exact ⟨rfl, hb⟩
      · refine wpOp_allocR 3 (by rfl) 32 .u64 8 Tryd.zero32 (by exact ⟨rfl, rfl⟩) ?_
        intro p7 w7 hg7 hr7 hb7b
        have hb7a : Below wr.heap.size wr w7 := ⟨hb7b.os, hb7b.tape, hb7b.output, hb7b.size, hb7b.block⟩
        replace hg7 : wr.heap.size ≤ p7 := hg7
        clear hb7b
        refine wpAny_all (rs := [0]) (by kernel_rfl) (by simp) (fun i hi => ?_)
        obtain rfl : i = 0 := by simpa using hi
        refine wpOp_loadM 0 (by rfl) 32 (.tmp 5) p5 0 .u64 s _ Tryd.underlying32 rfl h8' (by exact ⟨rfl, rfl⟩) (by kernel_rfl) (r5.later hb7a).range ?_
        refine wpAny_all (rs := [2]) (by kernel_rfl) (by simp) (fun i hi => ?_)
        obtain rfl : i = 2 := by simpa using hi
        refine wpOp_do 2 (by rfl) (by rfl) ?_
        go_wp2_with fail
        refine (rturn_any s blk hs hB _ w7 (s3.later hb7a)).mono ?_
        rintro e w6 ⟨rfl, hb6⟩
        refine any_of_seq 4 (by rfl) (by kernel_rfl) ?_
        simp only [List.drop_succ_cons, List.drop_zero]
        have k2 := (r2.later hb7a).later hb6
        have k3 := (r3.later hb7a).later hb6
        have kb := below_next (below_next hb hb7a) hb6
        replace hr7 := hr7.later hb6
        have q7 : p5 < p7 := Nat.lt_of_lt_of_le r5.lt hg7
        clear hb6 r2 r3 r5 hb W5 s3 hsl H5 HI hb7a
        go_wp2_with (first
          | ((with_reducible refine wp_storeR 32 (.tmp 7) (.tmp 24) p7 .u64 (List.replicate 8 0) (turn s blk) HT8 ?_ ?_ ?_ ?_ hr7 ?_); (rw [hT8]; rfl); (exact ⟨rfl, rfl⟩); (exact rfl); (exact rfl); intro w7' R7 ho7; have R2 := k2.only ho7 (show p2 ≠ p7 by omega); have R3 := k3.only ho7 (show p3 ≠ p7 by omega); have hb7 := below_only kb ho7 (show w.heap.size ≤ p7 by omega) (Nat.le_refl _))
          | ((with_reducible refine wp_loadR 29 (.tmp 2) p2 .u32 s _ Tryd.underlying29 rfl h8 ?_ ?_ R2 ?_); (exact ⟨rfl, rfl⟩); (exact rfl))
          | ((with_reducible refine wp_loadR 30 (.tmp 3) p3 .u8 blk _ Tryd.underlying30 rfl h64 ?_ ?_ R3 ?_); (exact ⟨rfl, rfl⟩); (exact rfl)))
        have hK7 := hK.below hb7 hk0
        refine (turn_any s blk hs hB _ hK7).mono ?_
        rintro e w8 ⟨rfl, hb8⟩
        have R7' := R7.later hb8
        have hb8' := below_next hb7 hb8
        go_wp2_with (first
          | ((with_reducible refine wp_allocD 8 29 .u32 8 Tryd.zero29 ?_ ?_); (exact ⟨rfl, rfl, rfl⟩); intro p8 w9 hg9 hr9 hb9)
          | ((with_reducible refine wp_storeR 29 (.tmp 8) (.tmp 27) p8 .u32 (List.replicate 8 0) (turn s blk) HT29 ?_ ?_ ?_ ?_ hr9 ?_); (rw [hT8]; rfl); (exact ⟨rfl, rfl⟩); (exact rfl); (exact rfl); intro w10 hr10 ho10))
        have HJ : Hid (Row w10 p7 .u64 (turn s blk) ∧ Row w10 p8 .u32 (turn s blk) ∧ Below w.heap.size w w10) :=
          ⟨(R7'.later hb9).only ho10 (by have := R7'.lt; omega), hr10, below_only (below_next hb8' hb9) ho10 (by have := hb8'.size; omega) (Nat.le_refl _)⟩
        clear R2 R3 R7 R7' hr9 hb9 ho10 hr10 hb8 hb8' hb7 hK7 hg9
        go_loopw [28] (fun i wr => ∃ k : Nat, k ≤ 8 ∧ i = .int .i64 k ∧ Hid (Row wr p7 .u64 (turn s blk) ∧ Row wr p8 .u32 (turn s blk) ∧ Below w.heap.size w wr)) (fun i _ => 8 - (intOf i).toNat)
        case atStart => exact ⟨0, by omega, rfl, HJ.out⟩
        case round =>
          clear HJ
          obtain ⟨k, hk, rfl, HJ⟩ := hrel
          by_cases hlt : k < 8
          · have hlt' : (k : Int) < 8 := by omega
            have hk0' : (0 : Int) ≤ (k : Int) := by omega
            obtain ⟨r7, r8, hb⟩ := HJ.out
            have c7 := r7.cell k (by rw [hT8]; exact hlt)
            have c8 := r8.cell k (by rw [hT8]; exact hlt)
            obtain ⟨x0, x1⟩ := nth_wd hst.2 k
            have HB : Hid (Below w.heap.size w wr) := hb
            clear r7 r8 hb
            generalize nth (turn s blk) k = X at c7 c8 x0 x1
            have eX : IntKind.u64.wrap X = X := by rw [IntKind.wrap_u64]; omega
            have hne : (X != X) = false := by simp
            go_wp2
            go_quiet (fail)
            go_wp2
            obtain ⟨r7, r8, hb⟩ := HJ.out
            exact ⟨⟨k + 1, by omega, by go_num, r7, r8, below_drewN hb _⟩, by simp [intOf]; omega⟩
          · obtain ⟨r7, r8, hb⟩ := HJ.out
            go_wp2
            go_ret
            exact ⟨rfl, hb⟩
end Go.Proofs.YtbfbhdhffdddeaaDoor
