/- The contract of Args. Conditions: the table lies in memory. -/
import Derived.Test.YtdhlheilgagcpaaGreatDoorSE
namespace Go.Proofs.YtdhlheilgagcpaaGreatDoor
open Go.RowKit Go.PlainAid
set_option linter.unusedVariables false
set_option linter.unusedSimpArgs false

/-- how Args ends: what it answers lies in new memory -/
def RArgsN (w : World) (m o : Int) (e : Ending) (w' : World) : Prop := ∃ v, e = .returned (.tuple #[v, .bool (fi m o)]) ∧ ISl w' v (fr m o).inn ∧ (∀ g, v.ownBlock = some g → w.heap.size ≤ g) ∧ Below w.heap.size w w'
set_option maxHeartbeats 2000000 in
theorem args_new (m o : Int) (w : World) (ht : Tb w) : Calls Tryz.prog 75 #[.int .i64 m, .int .i64 o] w fun e w' => RArgsN w m o e w' := by
  have hF := find_any m o w ht
  have hL2 : (fr m o).inn.length ≤ 2 := by have := fr_all (p := fun r => decide (r.inn.length ≤ 2)) rfl m o; simpa using this
  cases hfi : fi m o
  · go_enter Tryz.func75, Tryz.ntmps75
    go_wp2_with (go_at_call 93; refine hF.mono ?_; rintro e w1 ⟨vi, vo, rfl, hi, ho, hb1⟩; obtain ⟨ai, ci, rfl⟩ := hi.form; obtain ⟨ao, co, rfl⟩ := ho.form; clear hi ho)
    refine bodyPost_ret (v := .tuple #[.slice none 0 0, .bool false]) (by simp [results, Tryz.f75, go_sem]) rfl ?_
    unfold RArgsN
    rw [hfi, fr_not hfi]
    exact ⟨_, rfl, ISl.nil _, (fun g hg => nomatch hg), below_more hb1 _⟩
  · obtain ⟨n, hn⟩ : ∃ n, (fr m o).inn.length = n := ⟨_, rfl⟩
    have HN : Hid ((fr m o).inn.length = n) := hn
    have HC : Hid ((cellsI (fr m o).inn).length = n) := by show _ = _; rw [cellsI_len, hn]
    rw [hn] at hL2
    clear hn
    have hmk := fun w => makeI n (by omega) w
    go_enter Tryz.func75, Tryz.ntmps75
    go_wp2_with (first | (go_at_call 93; refine hF.mono ?_; rintro e w1 ⟨vi, vo, rfl, hi, ho, hb1⟩; obtain ⟨ao, co, rfl⟩ := ho.form; have HI : Hid (ISl w1 vi (fr m o).inn) := hi; obtain ⟨ai, ci, rfl⟩ := hi.form; rw [HN.out] at HI ⊢; have hB : w.heap.size ≤ w1.heap.size + 1 := (Nat.le_succ_of_le hb1.size); clear hi ho) | ((with_reducible refine wpList_copy_splice ?_ (.tmp 21) (.tmp 23) 78 78 ?_ 3 Tryz.underlying78 (by kernel_rfl) (some ⟨w1.heap.size + 1, 0, none⟩) ai n n n ci ?_ ?_ (w1.heap.size + 1) 0 (cellsI (List.replicate n 0)) 3 (heap2 w1 _ _) (cellsI (fr m o).inn) ((HC.out).trans (Nat.min_self n).symm) (fun h => ⟨rfl, isl_src HI.out (below_more (below_box _ _) _) (by rw [cellsI_len] at h; exact h)⟩) (by rw [HC.out, cellsI_len]; simp) (cellsI_one _) w.heap.size w (below_next hb1 (below_more (below_box _ _) _)) hB ?_); (exact rfl); (exact rfl); (first | exact rfl | (simp; done)); (exact rfl); intro w3 HG3 hb3))
    refine bodyPost_ret (v := .tuple #[.slice (some ⟨w1.heap.size + 1, 0, none⟩) n n, .bool true]) (by simp [results, Tryz.f75, go_sem]) rfl ?_
    unfold RArgsN
    rw [hfi]
    refine ⟨_, rfl, ?_, (fun g hg => (by simp [Value.ownBlock] at hg; omega)), hb3⟩
    have h3 := HG3.out
    rw [splice_all (by rw [HC.out, cellsI_len]; simp)] at h3
    have := isl_block h3 (by rw [HN.out]; omega)
    rw [HN.out] at this
    exact this
end Go.Proofs.YtdhlheilgagcpaaGreatDoor
