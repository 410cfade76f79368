/- An event's cells; how many values an event of a line has; the document's examples. Conditions: the tables lie in memory. -/
import Derived.Test.YtdhlheilgagcpaaGreatDoorBJ
namespace Go.Proofs.YtdhlheilgagcpaaGreatDoor
open Go.RowKit Go.PlainAid Ln
set_option linter.unusedVariables false
set_option linter.unusedSimpArgs false

theorem ev_cells {wz : World} {q : Nat} {x : Ev} {fa fr : Value} (h : Blk wz q (evC x fa fr) 37) : wz.cell? ⟨q, 0, none⟩ = some (.int .i64 x.t) ∧ wz.cell? ⟨q, 1, none⟩ = some (.int .i64 x.c.1) ∧ wz.cell? ⟨q, 2, none⟩ = some (.int .i64 x.c.2.1) ∧ wz.cell? ⟨q, 3, none⟩ = some (.string x.c.2.2) ∧ wz.cell? ⟨q, 4, none⟩ = some (.int .i64 x.y) ∧ wz.cell? ⟨q, 5, none⟩ = some (.int .i64 x.m) ∧ wz.cell? ⟨q, 6, none⟩ = some (.int .i64 x.k.1) ∧ wz.cell? ⟨q, 7, none⟩ = some (.int .i64 x.k.2.1) ∧ wz.cell? ⟨q, 8, none⟩ = some (.string x.k.2.2) ∧ wz.cell? ⟨q, 9, none⟩ = some (.int .i64 x.o) ∧ wz.cell? ⟨q, 10, none⟩ = some fa ∧ wz.cell? ⟨q, 11, none⟩ = some fr ∧ wz.cell? ⟨q, 12, none⟩ = some (.bool x.nd) ∧ wz.cell? ⟨q, 13, none⟩ = some (.string x.n) :=
  ⟨h.cell 0 _ rfl, h.cell 1 _ rfl, h.cell 2 _ rfl, h.cell 3 _ rfl, h.cell 4 _ rfl, h.cell 5 _ rfl, h.cell 6 _ rfl, h.cell 7 _ rfl, h.cell 8 _ rfl, h.cell 9 _ rfl, h.cell 10 _ rfl, h.cell 11 _ rfl, h.cell 12 _ rfl, h.cell 13 _ rfl⟩
theorem pE_len (l : List UInt8) (h : l.length ≤ 900000) : (pE l).1.a.length ≤ 1000000 ∧ (pE l).1.r.length ≤ 1000000 := by
  have h1 := pcs_len 32 (noteR l).1
  have h2 := note_le l
  unfold pE
  split
  · show (eEv _).a.length ≤ _ ∧ (eEv _).r.length ≤ _
    have h3 := cD_len (l3 (pcs 32 (noteR l).1))
    unfold eEv
    split
    · refine ⟨?_, Nat.zero_le _⟩
      show (aV _ _).length ≤ _
      rw [aV_len]; omega
    · split
      · refine ⟨Nat.zero_le _, ?_⟩
        show (aV _ _).length ≤ _
        rw [aV_len, l3_eq, List.length_drop]; omega
      · exact ⟨Nat.zero_le _, Nat.zero_le _⟩
  · split <;> exact ⟨Nat.zero_le _, Nat.zero_le _⟩
theorem ex_a : (pE [53, 32, 97, 32, 111, 107, 32, 51]).2 = 0 ∧ (pE [53, 32, 97, 32, 111, 107, 32, 51]).1.y = 2 ∧ (pE [53, 32, 97, 32, 111, 107, 32, 51]).1.r.length = 1 := by decide +kernel
theorem ex_b : (pE [53, 32, 97, 32, 100, 111, 110, 101]).2 = 2 := by decide +kernel
theorem ex_c : (pE [45, 53, 32, 97, 32, 111, 107]).2 = 2 := by decide +kernel
theorem OwnV.one {w : World} {B : Nat} {v : Value} {xs : List Val} (h : OwnV w B v xs) : v.oneCell' = true := by obtain ⟨a1, c1, e1⟩ := h.form; rw [e1]; rfl
end Go.Proofs.YtdhlheilgagcpaaGreatDoor
