/- A new seal in the making. Conditions: the table holds the rounds' numbers; a key has no more than 900,000 bytes. -/
import Derived.Test.YtilfmemfnheppaaDoorMC
namespace Go.Proofs.YtilfmemfnheppaaDoor
open Go.RowKit Hx
set_option linter.unusedVariables false

/-- in the world w the Mac at block m, whose Hash is at block g, is one of that key, and has had the bytes l -/
def MHas (w : World) (m g : Nat) (key l : List Int) : Prop := MRow w m g (xorL (blkK key) 92) ∧ Has w g (xorL (blkK key) 54 ++ l) ∧ 0 < g ∧ m ≠ g
theorem MHas.later {w w' : World} {m g : Nat} {key l : List Int} (h : MHas w m g key l) (hb : Below w.heap.size w w') : MHas w' m g key l := ⟨h.1.later hb, h.2.1.later hb, h.2.2⟩
theorem MHas.ptr {w : World} {m g : Nat} {key l : List Int} (h : MHas w m g key l) : w.cell? ⟨m, 0, none⟩ = some (.pointer (some ⟨g, 0, none⟩)) := h.1.ptr

/-- a new Mac, as an operation that comes up in a region that draws its order -/
theorem wpOp_boxM {P : Program} {ops : Array Oper} {Q : Exit → Act → World → Prop} {K : Act → World → Prop} {a : Act} {w : World} {o : Oper} (i : Nat) (ho : ops[i]? = some o) (ty : TypeId) (x : Operand) (g : Nat) (ob : List Int) (h2 : ob.length = 64)
    (hx : a.eval x = .agg (mcells g ob).toArray) (hop : o.guard = none ∧ o.op = .box ty x)
    (hK : ∀ m w', w.heap.size ≤ m → MRow w' m g ob → Below w.heap.size w w' → K (a.put o.dst (.pointer (some ⟨m, 0, none⟩))) w') : wpOp P ops Q i K a w := by
  refine wpOp_do i ho hop.1 ?_
  unfold Oper.wp execOp
  simp only [hop.2, hx, Sem.run_bind, Instr.box, newVar, newRow, Value.cells, run_newObj_alloc, Sem.run_pure, Result.andThen_ok]
  exact hK w.heap.size _ (Nat.le_refl _) ⟨⟨ty, heap_alloc_new w _⟩, h2⟩ ((Below.refl _ _).alloc (Nat.le_refl _) _)
/-- a value is built, as an operation that comes up in a region that draws its order -/
theorem yieldsIf_build {P : Program} {ops : Array Oper} {S : World → Prop} {o : Oper} {a : Act} (t : TypeId) (parts : Array (Nat × Operand)) (cs : Array Value) (hw : Region.wanted o (yielded ops a.tmps) = true) (ho : o.op = .build t parts)
    (hf : P.built t (parts.map fun (i, x) => (i, a.eval x)).toList = some cs) : YieldsIf P ops S o (.agg cs) a := by
  refine .inl ⟨hw, fun w _ => ?_⟩
  unfold execOp
  simp only [ho, Sem.run_bind, run_build w t _ cs hf, Result.andThen_ok]
  rfl

theorem built38a (a : Act) (x y : Operand) (g : Nat) (ob : List Int) (h : ob.length = 64) (hx : a.eval x = .pointer (some ⟨g, 0, none⟩)) (hy : a.eval y = arr .u8 ob) :
    Tryd.prog.built 61 ((#[(0, x), (1, y)] : Array (Nat × Operand)).map fun (i, x) => (i, a.eval x)).toList = some (mcells g ob).toArray := by
  simp only [List.map_toArray, List.map_cons, List.map_nil, hx, hy]
  exact built38 g ob h

set_option maxRecDepth 100000 in
set_option maxHeartbeats 1000000 in
theorem mnew_any (v : Value) (key : List Int) (w : World) (hK : Kt w) (hv : Sl w v key) (hsz : key.length ≤ 900000) :
    Calls Tryd.prog 26 #[v] w fun en w' => ∃ m g, en = .returned (.pointer (some ⟨m, 0, none⟩)) ∧ w.heap.size ≤ m ∧ w.heap.size ≤ g ∧ MHas w' m g key [] ∧ Below w.heap.size w w' := by
  have h64 : (Tryd.prog.info? 59).map (·.size) = some (blkK key).length := by rw [blkK_len]; exact Tryd.size59
  have hbl := blkK_len key
  have hk0 := hK.pos
  go_enter Tryd.func26, Tryd.ntmps26
  go_wp2_with fail
  refine (block_any v key w hK hv hsz).mono ?_
  rintro e w1 ⟨rfl, hb1⟩
  go_wp2_with (first
    | ((with_reducible refine wp_allocD 3 59 .u8 64 Tryd.zero59 ?_ ?_); (exact ⟨rfl, rfl, rfl⟩); intro p3 w2 hg2 hr2 hb2)
    | ((with_reducible refine wp_storeR 59 (.tmp 3) (.tmp 7) p3 .u8 (List.replicate 64 0) (blkK key) h64 ?_ ?_ ?_ ?_ hr2 ?_); (rw [hbl]; rfl); (exact ⟨rfl, rfl⟩); (exact rfl); (exact rfl); intro w3 r3 o3))
  have hb3 := below_only (below_next hb1 hb2) o3 (by have := hb1.size; omega) (Nat.le_refl _)
  have q3 : w.heap.size ≤ p3 := Nat.le_trans hb1.size hg2
  clear hb1 hb2 o3 hr2 hg2
  have hol := xorL_len (blkK key) 92
  rw [hbl] at hol
  have hil := xorL_len (blkK key) 54
  rw [hbl] at hil
  have hsl := slice30a
  refine wp_region_held (S := fun w' => Row w' p3 .u8 (blkK key)) Tryd.mixed ?_
  have r3' : Row ({ w3 with drawn := w3.drawn + 1 } : World) p3 .u8 (blkK key) := r3
  have hb3' : Below w.heap.size w ({ w3 with drawn := w3.drawn + 1 } : World) := hb3.drew
  generalize ({ w3 with drawn := w3.drawn + 1 } : World) = wd at r3' hb3' ⊢
  clear r3 hb3
  refine takeH 1 9 (arr .u8 (blkK key)) rfl rfl (by kernel_rfl) (by kernel_rfl) (by kernel_rfl) (fun c a w h => h) (yieldsIf_load_mid rfl 59 (.tmp 3) rfl p3 0 rfl (cellsK .u8 (blkK key)) _ (fun w h => h.range) Tryd.underlying59 rfl (by rw [cellsK_len]; exact h64)) r3' ?_
  simp only [List.setIfInBounds_toArray, List.set_cons_zero, List.set_cons_succ]
  refine wpAnyH_all (rs := [0]) (by kernel_rfl) (by simp) (fun i hi => ?_)
  obtain rfl : i = 0 := by simpa using hi
  refine wpOp_doG 0 (by rfl) (by rfl) ?_
  go_wp2_with fail
  refine (new_any _).mono ?_
  rintro e w4 ⟨g, rfl, hg4, H4, hb4⟩
  have r4 := r3'.later hb4
  have hB4 := below_next hb3' hb4
  refine ⟨r4, ?_⟩
  refine wpAnyH_all (rs := [2]) (by kernel_rfl) (by simp) (fun i hi => ?_)
  obtain rfl : i = 2 := by simpa using hi
  refine wpOp_doG 2 (by rfl) (by rfl) ?_
  go_wp2_with fail
  refine (masked_any (blkK key) hbl 92 _).mono ?_
  rintro e w5 ⟨rfl, hb5⟩
  have r5 := r4.later hb5
  have H5 := H4.later hb5
  have hB5 := below_next hB4 hb5
  refine ⟨r5, ?_⟩
  refine takeH 3 11 (.agg (mcells g (xorL (blkK key) 92)).toArray) rfl rfl (by kernel_rfl) (by kernel_rfl) (by kernel_rfl) (fun c a w h => h) (yieldsIf_build 61 _ _ rfl rfl (built38a _ _ _ g _ hol rfl rfl)) r5 ?_
  simp only [List.setIfInBounds_toArray, List.set_cons_zero, List.set_cons_succ]
  refine wpAnyH_all (rs := [4]) (by kernel_rfl) (by simp) (fun i hi => ?_)
  obtain rfl : i = 4 := by simpa using hi
  refine wpOp_boxM 4 (by rfl) 61 (.tmp 11) g (xorL (blkK key) 92) hol rfl ⟨rfl, rfl⟩ ?_
  intro m w6 hg6 hm6 hb6
  have r6 := r5.later hb6
  have H6 := H5.later hb6
  have hB6 := below_next hB5 hb6
  have q4 : w.heap.size ≤ g := Nat.le_trans hb3'.size hg4
  have q5 : g < m := Nat.lt_of_lt_of_le H5.lt hg6
  refine ⟨r6, ?_⟩
  simp only [Act.put, List.setIfInBounds_toArray]
  refine takeH 5 4 (.pointer (some ⟨m, 0, none⟩)) rfl rfl (by kernel_rfl) (by kernel_rfl) (by kernel_rfl) (fun c a w h => h) (.inl ⟨rfl, fun w _ => rfl⟩) r6 ?_
  simp only [List.setIfInBounds_toArray, List.set_cons_zero, List.set_cons_succ]
  refine wpAnyH_done (by kernel_rfl) ?_ _
  clear r3' hb3' r4 r5 H4 H5 hb4 hb5 hb6 hB4 hB5 hg4 hg6
  go_wp2_with ((with_reducible refine wp_loadR 59 (.tmp 3) p3 .u8 (blkK key) _ Tryd.underlying59 rfl h64 ?_ ?_ r6 ?_); (exact ⟨rfl, rfl⟩); (exact rfl))
  refine (masked_any (blkK key) hbl 54 _).mono ?_
  rintro e w7 ⟨rfl, hb7⟩
  have H7 := H6.later hb7
  have m7 := hm6.later hb7
  have hB7 := below_next hB6 hb7
  have h642 : (Tryd.prog.info? 59).map (·.size) = some (xorL (blkK key) 54).length := by rw [hil]; exact Tryd.size59
  clear r6 H6 hm6 hb7 hB6
  go_wp2_with (first
    | ((with_reducible refine wp_allocD 5 59 .u8 64 Tryd.zero59 ?_ ?_); (exact ⟨rfl, rfl, rfl⟩); intro p5 w8 hg8 hr8 hb8)
    | ((with_reducible refine wp_storeR 59 (.tmp 5) (.tmp 14) p5 .u8 (List.replicate 64 0) (xorL (blkK key) 54) h642 ?_ ?_ ?_ ?_ hr8 ?_); (rw [hil]; rfl); (exact ⟨rfl, rfl⟩); (exact rfl); (exact rfl); intro w9 r9 o9))
  have l7 := H7.lt
  have l7m := m7.lt
  have q6 : g < p5 := Nat.lt_of_lt_of_le l7 hg8
  have q7 : m < p5 := Nat.lt_of_lt_of_le l7m hg8
  have H9 := (H7.later hb8).only o9 (show g ≠ p5 by omega)
  have m9 := (m7.later hb8).only o9 (show m ≠ p5 by omega)
  have hB9 := below_only (below_next hB7 hb8) o9 (by have := hB7.size; omega) (Nat.le_refl _)
  have s9 := row_sl r9 (xorL_bd _ _) hil (by omega)
  have cp := m9.ptr
  clear H7 m7 hB7 hb8 hr8 o9 r9 hg8
  refine wp_region_still_tail 5 Tryd.mixed (by kernel_rfl) ?_
  simp only [List.take_succ_cons, List.take_zero, List.drop_succ_cons, List.drop_zero]
  repeat still_step
  refine wpStill_nil ?_
  go_wp2_with fail
  refine (write_any g [] (xorL (blkK key) 54) _ _ (hK.below hB9.drew hk0) (by omega) H9 s9 (fun b off n cap he h0 => by cases he; omega) (by rw [hil]; decide)).mono ?_
  rintro e w10 ⟨rfl, H10, o10⟩
  have m10 : MRow w10 m g (xorL (blkK key) 92) := m9.only o10.undrew (show m ≠ g by omega)
  have hB10 := below_only hB9 o10.undrew q4 (Nat.le_refl _)
  go_wp2
  go_ret
  refine ⟨m, g, rfl, by omega, q4, ⟨m10, by simpa using H10, by omega, by omega⟩, hB10⟩
end Go.Proofs.YtilfmemfnheppaaDoor
