/- A new digest in the making, and the digest of all that was written. Conditions: the table holds the rounds' numbers; no more than a million bytes are written. -/
import Derived.Test.YtilfmemfnheppaaDoorK
namespace Go.Proofs.YtilfmemfnheppaaDoor
open Go.RowKit Hx
set_option linter.unusedVariables false

section
variable {P : Program} {ops : Array Oper} {rest : List Oper} {o : Oper} {a : Act} {w : World} {Q : Exit → Act → World → Prop}
/-- a Hash is built of its words -/
theorem wp_buildH (t : TypeId) (st blk : List Int) (n : Int)
    (hop : o.guard = none ∧ ∃ parts, o.op = .build t parts ∧ P.built t (parts.map fun (i, x) => (i, a.eval x)).toList = some (hcells st blk n).toArray)
    (hK : wpList P ops Q rest (a.put o.dst (.agg (hcells st blk n).toArray)) w) : wpList P ops Q (o :: rest) a w := by
  obtain ⟨hg, parts, ho, hf⟩ := hop
  refine wpList_build hg t parts ho (by rw [hf]; rfl) ?_
  rw [hf]
  exact hK
/-- a new Hash -/
theorem wp_boxH (ty : TypeId) (x : Operand) (st blk : List Int) (n : Int) (h1 : st.length = 8) (h2 : blk.length = 64) (hx : a.eval x = .agg (hcells st blk n).toArray)
    (hop : o.guard = none ∧ o.op = .box ty x)
    (hK : ∀ g w', w.heap.size ≤ g → HRow w' g st blk n → Below w.heap.size w w' → wpList P ops Q rest (a.put o.dst (.pointer (some ⟨g, 0, none⟩))) w') : wpList P ops Q (o :: rest) a w := by
  refine wpList_plain hop.1 fun K hK' => ?_
  unfold Oper.wp execOp
  simp only [hop.2, hx, Sem.run_bind, Instr.box, newVar, newRow, Value.cells, run_newObj_alloc, Sem.run_pure, Result.andThen_ok]
  refine hK' _ _ (hK w.heap.size _ (Nat.le_refl _) ⟨⟨ty, heap_alloc_new w _⟩, h1, h2⟩ ?_)
  exact (Below.refl _ _).alloc (Nat.le_refl _) _
/-- a new Hash of noughts -/
theorem wp_allocH (ty : TypeId) (st blk : List Int) (n : Int) (h1 : st.length = 8) (h2 : blk.length = 64) (hz : (P.info? ty).bind (·.zero) = some (.agg (hcells st blk n).toArray))
    (hop : o.guard = none ∧ o.op = .alloc ty)
    (hK : ∀ g w', w.heap.size ≤ g → HRow w' g st blk n → Below w.heap.size w w' → wpList P ops Q rest (a.put o.dst (.pointer (some ⟨g, 0, none⟩))) w') : wpList P ops Q (o :: rest) a w := by
  refine wpList_plain hop.1 fun K hK' => ?_
  have hrun : (Instr.alloc ty true (.tuple #[])).run P w = .ok (.pointer (some ⟨w.heap.size, 0, none⟩)) (w.alloc (.cells (hcells st blk n).toArray ty)) := by
    cases hi : P.info? ty with
    | none => simp [hi] at hz
    | some i =>
      have hz' : i.zero = some (.agg (hcells st blk n).toArray) := by simpa [hi] using hz
      simp [Instr.alloc, zeroValue, typeInfo, hi, hz', newVar, newRow, Value.cells]
  unfold Oper.wp
  simp only [execOp, hop.2, Sem.run_bind, hrun, Result.andThen_ok, Sem.run_pure]
  refine hK' _ _ (hK w.heap.size _ (Nat.le_refl _) ⟨⟨ty, heap_alloc_new w _⟩, h1, h2⟩ ?_)
  exact (Below.refl _ _).alloc (Nat.le_refl _) _
/-- a Hash is read whole -/
theorem wp_loadH (ty : TypeId) (x : Operand) (g : Nat) (st blk : List Int) (n : Int) (d : TypeDesc) (hu : P.underlying ty = some d) (hd : d.isRow = true) (hi : (P.info? ty).map (·.size) = some 73)
    (hop : o.guard = none ∧ o.op = .load ty x) (hx : a.eval x = .pointer (some ⟨g, 0, none⟩)) (hr : HRow w g st blk n)
    (hK : wpList P ops Q rest (a.put o.dst (.agg (hcells st blk n).toArray)) w) : wpList P ops Q (o :: rest) a w :=
  wpList_load_mid hop.1 ty x hop.2 g 0 hx (hcells st blk n) d (fun j v hv => by rw [Nat.zero_add, hr.at]; exact hv) hu hd (by rw [hcells_len hr.2.1 hr.2.2]; exact hi) hK
/-- a Hash is written whole -/
theorem wp_storeA (ty : TypeId) (x y : Operand) (g : Nat) (st blk st' blk' : List Int) (n n' : Int) (hi : (P.info? ty).map (·.size) = some 73) (h1 : st'.length = 8) (h2 : blk'.length = 64)
    (hop : o.guard = none ∧ o.op = .store ty x y) (hx : a.eval x = .pointer (some ⟨g, 0, none⟩)) (hy : a.eval y = .agg (hcells st' blk' n').toArray) (hr : HRow w g st blk n)
    (hK : ∀ w', HRow w' g st' blk' n' → Only g w w' → wpList P ops Q rest (a.put o.dst undef) w') : wpList P ops Q (o :: rest) a w := by
  obtain ⟨⟨T, hg⟩, k1, k2⟩ := hr
  have hone : (hcells st' blk' n').toArray.all (·.oneCell') = true := by
    refine all_oneCell_toArray (fun v hv => ?_)
    simp only [hcells, List.mem_append, List.mem_singleton] at hv
    rcases hv with hv | hv | rfl
    · exact cellsK_one _ _ v hv
    · exact cellsK_one _ _ v hv
    · rfl
  refine wpList_store_row hop.1 ty x y hop.2 g (hcells st' blk' n').toArray hx hy T _ hg (by simpa [hcells_len h1 h2] using hi) (by simp [hcells_len h1 h2, hcells_len k1 k2]) hone ?_
  exact hK _ ⟨⟨T, setRow_heap w g _ _ T _ hg⟩, h1, h2⟩ (only_setRow w g _)
end

theorem Tryd.size71 : (Tryd.prog.info? 71).map (·.size) = some 73 := by kernel_rfl
theorem Tryd.zero71 : (Tryd.prog.info? 71).bind (·.zero) = some (.agg (hcells (List.replicate 8 0) (List.replicate 64 0) 0).toArray) := by kernel_rfl

set_option maxRecDepth 100000 in
theorem new_any (w : World) : Calls Tryd.prog 33 #[] w fun en w' => ∃ g, en = .returned (.pointer (some ⟨g, 0, none⟩)) ∧ w.heap.size ≤ g ∧ Has w' g [] ∧ Below w.heap.size w w' := by
  have hl8 : startP.length = 8 := rfl
  have hz64 : (List.replicate 64 (0 : Int)).length = 64 := rfl
  go_enter Tryd.func33, Tryd.ntmps33
  go_wp2_with fail
  refine (start_any _).mono ?_
  rintro e w1 ⟨rfl, hb1⟩
  go_wp2_with (first
    | ((with_reducible refine wp_buildH 71 startP (List.replicate 64 0) 0 ?_ ?_); (exact ⟨rfl, _, rfl, by kernel_rfl⟩))
    | ((with_reducible refine wp_boxH 71 (.tmp 2) startP (List.replicate 64 0) 0 hl8 hz64 ?_ ?_ ?_); (exact rfl); (exact ⟨rfl, rfl⟩); intro g w2 hg2 h2 hb2))
  go_ret
  refine ⟨g, rfl, Nat.le_trans hb1.size hg2, ⟨List.replicate 64 0, h2, fun x hx => by have := List.eq_of_mem_replicate hx; omega, rfl, fun x hx => by cases hx⟩, below_next hb1 hb2⟩

/-- the digest of bytes -/
def padded (l : List Int) : List Int := l ++ padB l.length
def sumB (l : List Int) : List Int := dgs (tn (padded l) ((padded l).length / 64)) 8
theorem padded_by {l : List Int} (h : By l) : By (padded l) := by
  intro x hx
  simp only [padded, List.mem_append] at hx
  rcases hx with hx | hx
  · exact h x hx
  · exact padB_bd _ x hx

set_option maxRecDepth 100000 in
set_option maxHeartbeats 1000000 in
theorem hsum_any (g : Nat) (l : List Int) (w : World) (hK : Kt w) (hh : Has w g l) (hsz : l.length ≤ 900000) :
    Calls Tryd.prog 36 #[.pointer (some ⟨g, 0, none⟩)] w fun en w' => en = .returned (arr .u8 (sumB l)) ∧ Below w.heap.size w w' := by
  obtain ⟨blk, hR, hBy, hT, hBl⟩ := hh
  have h32 : (Tryd.prog.info? 49).map (·.size) = some (sumB l).length := by unfold sumB; rw [dgs_len]; exact Tryd.size49
  obtain ⟨S, hS⟩ : ∃ S, S = tn l (l.length / 64) := ⟨_, rfl⟩
  rw [← hS] at hR
  have HS : Hid (S = tn l (l.length / 64)) := hS
  have HT : Hid (blk.take (l.length % 64) = l.drop (64 * (l.length / 64))) := hT
  clear hS hT
  have hS8 := hR.2.1
  have hb64 := hR.2.2
  obtain ⟨M, hM⟩ : ∃ M : Int, M = l.length := ⟨_, rfl⟩
  rw [← hM] at hR
  have HM : Hid (M = l.length) := hM
  have hM0 : 0 ≤ M := by omega
  have hM1 : M < 18446744073709551616 := by omega
  clear hM
  have hz8 : (List.replicate 8 (0 : Int)).length = 8 := rfl
  have hz64 : (List.replicate 64 (0 : Int)).length = 64 := rfl
  go_enter Tryd.func36, Tryd.ntmps36
  go_wp2_with (first
    | ((with_reducible refine wp_allocD 2 49 .u8 32 Tryd.zero49 ?_ ?_); (exact ⟨rfl, rfl, rfl⟩); intro p2 w2 hg2 hr2 hb2; replace hR := hR.later hb2; have c72 := hR.len)
    | ((with_reducible refine wp_loadH 71 (.tmp 5) g S blk M _ Tryd.underlying71 rfl Tryd.size71 ?_ ?_ hR ?_); (exact ⟨rfl, rfl⟩); (exact rfl))
    | ((with_reducible refine wp_allocH 71 (List.replicate 8 0) (List.replicate 64 0) 0 hz8 hz64 Tryd.zero71 ?_ ?_); (exact ⟨rfl, rfl⟩); intro p3 w3 hg3 hr3 hb3)
    | ((with_reducible refine wp_storeA 71 (.tmp 3) (.tmp 6) p3 (List.replicate 8 0) (List.replicate 64 0) S blk 0 M Tryd.size71 hS8 hb64 ?_ ?_ ?_ hr3 ?_); (exact ⟨rfl, rfl⟩); (exact rfl); (exact rfl); intro w4 hr4 ho4; have c72 := ((hR.later hb3).only ho4 (by have := hR.lt; have := hr3.lt; omega)).len))
  have l3 := hr3.lt
  have l2 := hr2.lt
  have q2 : p2 < p3 := Nat.lt_of_lt_of_le l2 hg3
  have hk0 := hK.pos
  have hb4 : Below w.heap.size w w4 := below_only (below_next hb2 hb3) ho4 (by have := hb2.size; omega) (Nat.le_refl _)
  have hr2' := (hr2.later hb3).only ho4 (show p2 ≠ p3 by omega)
  refine (pad_own M hM0 hM1 _).mono ?_
  rintro e w5 ⟨v5, rfl, ow5, hb5⟩
  have hm := HM.out
  have hr5 := hr4.later hb5
  have hn : noughts M < 64 := noughts_lt M
  have hpl := padB_len M
  have H5 : Has w5 p3 l := ⟨blk, by rw [← HS.out, ← hm]; exact hr5, hBy, HT.out, hBl⟩
  have s5 : Sl w5 v5 (padB M) := Sl.of_own ow5 (padB_bd M) (by omega)
  have hb5' := below_next hb4 hb5
  have hr25 := hr2'.later hb5
  have l4 := hr4.lt
  have hne : ∀ b off n cap, v5 = .slice (some ⟨b, off, none⟩) n cap → 0 < (padB M).length → b ≠ p3 := by
    intro b off n cap hv h0 hbp
    have := (World.ownsRow.lt ow5 b (by rw [hv]; rfl)).1
    omega
  clear c72 hr5 hb5 hb2 hb3 ho4 hr3 hr4 hR
  go_wp2_with fail
  refine (write_any p3 l (padB M) v5 w5 (hK.below hb5' hk0) (by omega) H5 s5 hne (by omega)).mono ?_
  rintro e w6 ⟨rfl, H6, o6⟩
  have hpd : l ++ padB M = padded l := by unfold padded; rw [hm]
  rw [hpd] at H6
  have hst6 := tn_st (padded l) ((padded l).length / 64)
  obtain ⟨blk', hR', _, _, _⟩ := H6
  have hr6 := hr25.only o6 (show p2 ≠ p3 by omega)
  have hb6 := below_only hb5' o6 (show w.heap.size ≤ p3 by omega) (Nat.le_refl _)
  have HSB : Hid (sumB l = dgs (tn (padded l) ((padded l).length / 64)) 8) := rfl
  generalize tn (padded l) ((padded l).length / 64) = S6 at hR' hst6 HSB
  have h8 : (Tryd.prog.info? 69).map (·.size) = some S6.length := by rw [hst6.1]; exact Tryd.size69
  have W6 : Hid (w6.rangeAt p3 0 (cellsK .u32 S6)) := hR'.words
  have R6 : Hid (Row w6 p2 .u8 (List.replicate 32 0)) := hr6
  clear hr2' hr25 H5 s5 ow5 hne hR' hr6 o6 hb5' hb4
  go_wp2_with ((with_reducible refine wp_loadM 69 (.tmp 13) p3 0 .u32 S6 _ Tryd.underlying69 rfl h8 ?_ ?_ W6.out ?_); (exact ⟨rfl, rfl⟩); (exact rfl))
  refine (digest_any S6 hst6 _).mono ?_
  rintro e w7 ⟨rfl, hb7⟩
  have r7 := R6.out.later hb7
  have hb8 := below_next hb6 hb7
  rw [← HSB.out]
  go_wp2_with ((with_reducible refine wp_storeR 49 (.tmp 2) (.tmp 15) p2 .u8 (List.replicate 32 0) (sumB l) h32 ?_ ?_ ?_ ?_ r7 ?_); (rw [HSB.out, dgs_len]; rfl); (exact ⟨rfl, rfl⟩); (exact rfl); (exact rfl); intro w8 r8 o8)
  refine ret_row rfl p2 .u8 (sumB l) _ Tryd.underlying49 rfl h32 rfl r8 rfl ⟨rfl, ?_⟩
  exact below_only hb8 o8 hg2 (Nat.le_refl _)
end Go.Proofs.YtilfmemfnheppaaDoor
