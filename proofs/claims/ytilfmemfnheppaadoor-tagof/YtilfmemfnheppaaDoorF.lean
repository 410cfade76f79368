/- The document's own beginning, rounds' numbers, and what its Turn begins with. Conditions: named in each. -/
import Derived.Test.YtilfmemfnheppaaDoorE
namespace Go.Proofs.YtilfmemfnheppaaDoor
open Go.RowKit Hx
set_option linter.unusedVariables false

/-- an array is built of its parts -/
theorem wp_buildR {P : Program} {ops : Array Oper} {rest : List Oper} {o : Oper} {a : Act} {w : World} {Q : Exit → Act → World → Prop} (t : TypeId) (k : IntKind) (xs : List Int)
    (hop : o.guard = none ∧ ∃ parts, o.op = .build t parts ∧ P.built t (parts.map fun (i, x) => (i, a.eval x)).toList = some (cellsK k xs).toArray)
    (hK : wpList P ops Q rest (a.put o.dst (arr k xs)) w) : wpList P ops Q (o :: rest) a w := by
  obtain ⟨hg, parts, ho, hf⟩ := hop
  refine wpList_build hg t parts ho (by rw [hf]; rfl) ?_
  rw [hf]
  exact hK

set_option maxRecDepth 100000 in
theorem ks_any (w : World) : Calls Tryd.prog 47 #[] w fun en w' => en = .returned (arr .u64 kTab) ∧ Below w.heap.size w w' := by
  have hk : (Tryd.prog.info? 83).map (·.size) = some kTab.length := Tryd.size83
  go_enter Tryd.func47, Tryd.ntmps47
  go_wp2_with (first
    | ((with_reducible refine wp_allocR 83 .u64 64 Tryd.zero83 ?_ ?_); (exact ⟨rfl, rfl⟩); intro p w1 hg1 hr1 hb1)
    | ((with_reducible refine wp_buildR 83 .u64 kTab ?_ ?_); (exact ⟨rfl, _, rfl, by kernel_rfl⟩))
    | ((with_reducible refine wp_storeR 83 (.tmp 0) (.tmp 1) p .u64 (List.replicate 64 0) kTab hk ?_ ?_ ?_ ?_ hr1 ?_); (exact rfl); (exact ⟨rfl, rfl⟩); (exact rfl); (exact rfl); intro w2 r2 o2))
  refine ret_row rfl p .u64 kTab _ Tryd.underlying83 rfl hk rfl r2 rfl ⟨rfl, ?_⟩
  exact below_only hb1 o2 hg1 (Nat.le_refl _)

/-- the beginning -/
def startS : List Int := [1779033703, 3144134277, 1013904242, 2773480762, 1359893119, 2600822924, 528734635, 1541459225]
theorem startS_st : St startS := ⟨rfl, by unfold Wd startS; decide⟩
set_option maxRecDepth 100000 in
theorem rstart_any (w : World) : Calls Tryd.prog 39 #[] w fun en w' => en = .returned (arr .u64 startS) ∧ Below w.heap.size w w' := by
  have hk : (Tryd.prog.info? 75).map (·.size) = some startS.length := Tryd.size75
  go_enter Tryd.func39, Tryd.ntmps39
  go_wp2_with (first
    | ((with_reducible refine wp_allocR 75 .u64 8 Tryd.zero75 ?_ ?_); (exact ⟨rfl, rfl⟩); intro p w1 hg1 hr1 hb1)
    | ((with_reducible refine wp_buildR 75 .u64 startS ?_ ?_); (exact ⟨rfl, _, rfl, by kernel_rfl⟩))
    | ((with_reducible refine wp_storeR 75 (.tmp 0) (.tmp 1) p .u64 (List.replicate 8 0) startS hk ?_ ?_ ?_ ?_ hr1 ?_); (exact rfl); (exact ⟨rfl, rfl⟩); (exact rfl); (exact rfl); intro w2 r2 o2))
  refine ret_row rfl p .u64 startS _ Tryd.underlying75 rfl hk rfl r2 rfl ⟨rfl, ?_⟩
  exact below_only hb1 o2 hg1 (Nat.le_refl _)
end Go.Proofs.YtilfmemfnheppaaDoor
