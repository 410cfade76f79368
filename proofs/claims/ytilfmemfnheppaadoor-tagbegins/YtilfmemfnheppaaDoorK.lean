/- The bytes of a digest; a new digest in the making; what it is asked for. Conditions: the table holds the rounds' numbers; no more than a million bytes are written. -/
import Derived.Test.YtilfmemfnheppaaDoorJ
namespace Go.Proofs.YtilfmemfnheppaaDoor
open Go.RowKit Hx
set_option linter.unusedVariables false

/-- the bytes of the first k words -/
def dgs (s : List Int) : Nat → List Int
  | 0 => []
  | k + 1 => dgs s k ++ bigB (nth s k) 4
theorem dgs_len (s : List Int) (k : Nat) : (dgs s k).length = 4 * k := by
  induction k with
  | zero => rfl
  | succ k ih => simp [dgs, ih, bigB_len]; omega
theorem dgs_by (s : List Int) (k : Nat) : By (dgs s k) := by
  induction k with
  | zero => intro x hx; simp [dgs] at hx
  | succ k ih =>
    intro x hx
    simp only [dgs, List.mem_append] at hx
    rcases hx with hx | hx
    · exact ih x hx
    · exact bigB_bd _ _ x hx

theorem Tryd.arr49 : Tryd.prog.underlying 49 = some (.array (Tryd.prog.arrayLen 49) (Tryd.prog.elem 49)) := by kernel_rfl
theorem Tryd.len49 : Tryd.prog.arrayLen 49 = 32 := by kernel_rfl
theorem Tryd.elem49 : Tryd.prog.elem 49 = 5 := by kernel_rfl
theorem slice24 (w : World) (p k : Nat) (hk : k < 8) : (Instr.sliceAt 49 (.pointer (some ⟨p, 0, none⟩)) (some (.int .i64 (4 * (k : Int)))) none none).run Tryd.prog w =
    .ok (.slice (some ⟨p, 4 * k, none⟩) (32 - 4 * k) (32 - 4 * k)) w := by
  have e1 : (4 * (k : Int)).toNat = 4 * k := by omega
  have e3 : (⟨p, 0, none⟩ : Addr).add (4 * k) = ⟨p, 4 * k, none⟩ := by rw [Addr.add_mid, Nat.zero_add]
  rw [run_sliceAt_array_l w 49 _ Tryd.arr49 .i64 _ (by omega) (by rw [Tryd.len49]; omega), Tryd.elem49, Tryd.sizeOf5, Tryd.len49, e1]
  simp only [Result.andThen_ok, slicedAt, Nat.mul_one, e3]
  rw [if_neg (by omega)]

/-- copy into an array: the cells from an offset on -/
theorem wp_copyR {P : Program} {ops : Array Oper} {rest : List Oper} {o : Oper} {a : Act} {w : World} {Q : Exit → Act → World → Prop} (d s : Operand) (T ty elem : TypeId) (g off n c : Nat) (ad : Addr) (m c' : Nat) (xs ys : List Int)
    (hop : o.guard = none ∧ o.op = .call { callee := .builtin .copy, args := #[d, s], argTypes := #[T, T] }) (hd : a.eval d = .slice (some ⟨g, off, none⟩) n c) (hs : a.eval s = .slice (some ad) m c')
    (hu : P.underlying T = some (.slice elem)) (he : (P.info? elem).map (·.size) = some 1) (hr : Row w g .u8 xs) (hm : ys.length = m) (hmn : m ≤ n) (hfit : off + m ≤ xs.length)
    (hsrc : ∀ j u, (cells8 ys)[j]? = some u → w.cell? (ad.add j) = some u)
    (hK : ∀ w', Row w' g .u8 (xs.take off ++ ys ++ xs.drop (off + m)) → Only g w w' → wpList P ops Q rest (a.put o.dst (goInt m)) w') : wpList P ops Q (o :: rest) a w := by
  obtain ⟨Ty, hg⟩ := hr
  have hrun := run_copy_row (P := P) w T T o.type elem g off n c ad m c' (cellsK .u8 xs).toArray Ty (cells8 ys) hu he hg (by rw [cells8_len, hm]; show m = min m n; omega) hsrc (by simp [cells8_len, cellsK_len, hm]; omega) (cells8_one ys)
  have e : ((cellsK .u8 xs).toArray.toList.take off ++ cells8 ys ++ (cellsK .u8 xs).toArray.toList.drop (off + (cells8 ys).length)) = cellsK .u8 (xs.take off ++ ys ++ xs.drop (off + m)) := by
    rw [cells8_len, hm]; simp [cellsK, cells8]
  rw [e, cells8_len, hm] at hrun
  refine wpList_plain hop.1 fun K hK' => ?_
  unfold Oper.wp execOp
  simp only [hop.2, resolve, List.map_toArray, List.map_cons, List.map_nil, hd, hs, Sem.run_bind, Sem.run_pure, Result.andThen_ok, invoke, builtin, hrun]
  exact hK' _ _ (hK _ ⟨Ty, setRow_heap w g _ _ Ty _ hg⟩ (only_setRow w g _))

theorem dgs_next (s : List Int) (k : Nat) (h : k < 8) :
    (dgs s k ++ List.replicate (32 - 4 * k) 0).take (4 * k) ++ bigB (nth s k) 4 ++ (dgs s k ++ List.replicate (32 - 4 * k) 0).drop (4 * k + 4) = dgs s (k + 1) ++ List.replicate (32 - 4 * (k + 1)) 0 := by
  have hl := dgs_len s k
  have e : (dgs s k).drop (4 * k) = [] := List.drop_eq_nil_of_le (by omega)
  rw [List.take_append_of_le_length (by omega), List.take_of_length_le (by omega), ← List.drop_drop, List.drop_append_of_le_length (by omega), e, List.nil_append, List.drop_replicate]
  rw [show 32 - 4 * k - 4 = 32 - 4 * (k + 1) by omega]
  rfl

theorem index29 (s : List Int) (hs : s.length = 8) (k : Nat) (hk : k < 8) (w : World) : (Instr.index 69 (arr .u32 s) (.int .i64 k)).run Tryd.prog w = .ok (.int .u32 (nth s k)) w := by
  simp [Instr.index, arr, asIntOf, run_underlying Tryd.underlying69, Tryd.sizeOf68, part, Tryd.isAgg68, hk, cellsK_at .u32 s k (by omega)]

set_option maxRecDepth 100000 in
set_option maxHeartbeats 1000000 in
theorem digest_any (s : List Int) (hs : St s) (w : World) :
    Calls Tryd.prog 45 #[arr .u32 s] w fun en w' => en = .returned (arr .u8 (dgs s 8)) ∧ Below w.heap.size w w' := by
  have h8 : (Tryd.prog.info? 69).map (·.size) = some s.length := by rw [hs.1]; exact Tryd.size69
  have h32 : (Tryd.prog.info? 49).map (·.size) = some (dgs s 8).length := by rw [dgs_len]; exact Tryd.size49
  go_enter Tryd.func45, Tryd.ntmps45
  go_wp2_with (first
    | ((with_reducible refine wp_boxR 69 (.tmp 0) .u32 s ?_ ?_ ?_); (exact rfl); (exact ⟨rfl, rfl⟩); intro p1 w1 hg1 hr1 hb1)
    | ((with_reducible refine wp_allocD 2 49 .u8 32 Tryd.zero49 ?_ ?_); (exact ⟨rfl, rfl, rfl⟩); intro p2 w2 hg2 hr2 hb2; replace hr1 := hr1.later hb2)
    | ((with_reducible refine wp_allocD 3 49 .u8 32 Tryd.zero49 ?_ ?_); (exact ⟨rfl, rfl, rfl⟩); intro p3 w3 hg3 hr3 hb3; replace hr1 := hr1.later hb3)
    | ((with_reducible refine wp_loadR 69 (.tmp 1) p1 .u32 s _ Tryd.underlying69 rfl h8 ?_ ?_ hr1 ?_); (exact ⟨rfl, rfl⟩); (exact rfl)))
  have HI : Hid (Row w3 p2 .u8 (List.replicate 32 0) ∧ Row w3 p3 .u8 (dgs s 0 ++ List.replicate (32 - 4 * 0) 0) ∧ Below w.heap.size w w3) := ⟨hr2.later hb3, hr3, below_next (below_next hb1 hb2) hb3⟩
  have q1 : w.heap.size ≤ p2 := Nat.le_trans hb1.size hg2
  have q2 : p2 < p3 := Nat.lt_of_lt_of_le hr2.lt hg3
  clear hr1 hr2 hr3 hb1 hb2 hb3 hg1 hg2 hg3
  go_loopw [7] (fun i wr => ∃ k : Nat, k ≤ 8 ∧ i = .int .i64 k ∧ Hid (Row wr p2 .u8 (List.replicate 32 0) ∧ Row wr p3 .u8 (dgs s k ++ List.replicate (32 - 4 * k) 0) ∧ Below w.heap.size w wr)) (fun i _ => 8 - (intOf i).toNat)
  case atStart => exact ⟨0, by omega, rfl, HI.out⟩
  case round =>
    clear HI
    obtain ⟨k, hk, rfl, HI⟩ := hrel
    by_cases hlt : k < 8
    · have hlt' : (k : Int) < 8 := by omega
      have hk0 : (0 : Int) ≤ (k : Int) := by omega
      have hix := index29 s hs.1 k hlt
      have hsl := fun w => slice24 w p3 k hlt
      have hw4 : IntKind.i64.wrap (4 * (k : Int)) = 4 * (k : Int) := wrap_small _ (by omega) (by omega)
      obtain ⟨x0, x1⟩ := nth_wd hs.2 k
      have HD : Hid ((dgs s k ++ List.replicate (32 - 4 * k) 0).take (4 * k) ++ bigB (nth s k) 4 ++ (dgs s k ++ List.replicate (32 - 4 * k) 0).drop (4 * k + 4) = dgs s (k + 1) ++ List.replicate (32 - 4 * (k + 1)) 0) := dgs_next s k hlt
      generalize nth s k = X at hix x0 x1 HD
      have hwX : IntKind.u64.wrap X = X := by rw [IntKind.wrap_u64]; omega
      go_wp2
      refine wp_region_any Tryd.mixed ?_
      refine wpAny_take (i := 0) rfl (by kernel_rfl) (by kernel_rfl) (by kernel_rfl) (fun c a w h => h) (.inl ⟨rfl, fun w => rfl⟩) ?_
      refine wpAny_take (i := 1) (v := .int .i64 (4 * (k : Int))) rfl (by kernel_rfl) (by kernel_rfl) (by kernel_rfl) (fun c a w h => h) (.inl ⟨rfl, fun w => by go_simp⟩) ?_
      refine wpAny_take (i := 2) (v := .slice (some ⟨p3, 4 * k, none⟩) (32 - 4 * k) (32 - 4 * k)) rfl (by kernel_rfl) (by kernel_rfl) (by kernel_rfl) (fun c a w h => h) (.inl ⟨rfl, fun w => by go_simp⟩) ?_
      refine wpAny_take (i := 3) rfl (by kernel_rfl) (by kernel_rfl) (by kernel_rfl) (fun c a w h => h) (.inl ⟨rfl, fun w => rfl⟩) ?_
      refine wpAny_take (i := 4) (v := .int .u64 X) rfl (by kernel_rfl) (by kernel_rfl) (by kernel_rfl) (fun c a w h => h) (.inl ⟨rfl, fun w => by go_simp⟩) ?_
      refine any_of_seq 5 (by rfl) (by kernel_rfl) ?_
      simp only [List.drop_succ_cons, List.drop_zero]
      go_wp2_with fail
      refine (big_any X 4 _ x0 (by omega)).mono ?_
      rintro en w4 ⟨v4, rfl, s4, hb4⟩
      have s4' : Sl w4 v4 (bigB X 4) := s4
      obtain ⟨b, off, cap, hv, hbs, hcl⟩ := sl_cells s4' (by rw [bigB_len]; omega)
      rw [bigB_len] at hv
      subst hv
      have hb4' : Below wr.heap.size wr w4 := ⟨hb4.os, hb4.tape, hb4.output, hb4.size, hb4.block⟩
      obtain ⟨r2, r3, hb⟩ := HI.out
      have r2' := r2.later hb4'
      have r3' := r3.later hb4'
      have hb' := below_next hb hb4'
      have hfit : 4 * k + 4 ≤ (dgs s k ++ List.replicate (32 - 4 * k) (0 : Int)).length := by simp [dgs_len]; omega
      have hmn : 4 ≤ 32 - 4 * k := by omega
      have hbl := bigB_len X 4
      have hinf : (Tryd.prog.info? 5).map (·.size) = some 1 := by kernel_rfl
      clear s4 s4' hb4 hb4' hix hsl
      go_wp2_with ((with_reducible refine wp_copyR (.tmp 13) (.tmp 16) 25 25 5 p3 (4 * k) (32 - 4 * k) (32 - 4 * k) ⟨b, off, none⟩ 4 cap (dgs s k ++ List.replicate (32 - 4 * k) 0) (bigB X 4) ?_ ?_ ?_ Tryd.underlying25 hinf r3' hbl hmn hfit hcl ?_); (exact ⟨rfl, rfl⟩); (exact rfl); (exact rfl); intro w5 r5 o5)
      rw [HD.out] at r5
      have a2 := r2'.only o5 (show p2 ≠ p3 by omega)
      have ab := below_only hb' o5 (show w.heap.size ≤ p3 by omega) (Nat.le_refl _)
      refine ⟨⟨k + 1, by omega, by go_num, a2, r5, ab⟩, by simp [intOf]; omega⟩
    · have hk' : k = 8 := by omega
      subst hk'
      obtain ⟨r2, r3, hb⟩ := HI.out
      have r3' : Row wr p3 .u8 (dgs s 8) := by simpa using r3
      have R3 : Hid (Row wr p3 .u8 (dgs s 8)) := r3'
      go_wp2_with (first
        | ((with_reducible refine wp_loadR 49 (.tmp 3) p3 .u8 (dgs s 8) _ Tryd.underlying49 rfl h32 ?_ ?_ R3.out ?_); (exact ⟨rfl, rfl⟩); (exact rfl))
        | ((with_reducible refine wp_storeR 49 (.tmp 2) (.tmp 19) p2 .u8 (List.replicate 32 0) (dgs s 8) h32 ?_ ?_ ?_ ?_ r2 ?_); (rw [dgs_len]; rfl); (exact ⟨rfl, rfl⟩); (exact rfl); (exact rfl); intro w5 r5 o5))
      refine ret_row rfl p2 .u8 (dgs s 8) _ Tryd.underlying49 rfl h32 rfl r5 rfl ⟨rfl, ?_⟩
      exact below_only hb o5 q1 (Nat.le_refl _)
end Go.Proofs.YtilfmemfnheppaaDoor
