/- What a text is as a value; the contract of Parse. Conditions: the text is at most 2^62 bytes. The contract of the document's Parse. Conditions: the text is at most 2^62 bytes. -/
import Derived.Test.YtdhlheilgagcpaaGreatDoorBV
import Derived.Test.YtdhlheilgagcpaaGreatDoorBN
namespace Go.Proofs.YtdhlheilgagcpaaGreatDoor
open Go.RowKit Go.PlainAid
set_option linter.unusedVariables false

/-- what a text is as a value: the kind, the number, the text, the error -/
def parR (s : ByteArray) : Int × Int × ByteArray × Int :=
  if s.toList = [126] then (0, 0, noB, 0) else if s.toList = [84] then (3, 1, noB, 0) else if s.toList = [70] then (3, 0, noB, 0)
  else if wordP s then (2, 0, s, 0) else if (sgnR s).2 = 0 then (1, (sgnR s).1, noB, 0) else (0, 0, noB, (sgnR s).2)
/-- an answer of four parts: a value and an error -/
def ansV (r : Int × Int × ByteArray × Int) : Ending := .returned (.tuple #[.agg #[.int .i64 r.1, .int .i64 r.2.1, .string r.2.2.1], .int .i64 r.2.2.2])

theorem parR_none {s : ByteArray} (h : s.toList = [126]) : parR s = (0, 0, noB, 0) := if_pos h
theorem parR_yes {s : ByteArray} (h : s.toList = [84]) : parR s = (3, 1, noB, 0) := by unfold parR; rw [if_neg (by rw [h]; decide), if_pos h]
theorem parR_no {s : ByteArray} (h : s.toList = [70]) : parR s = (3, 0, noB, 0) := by unfold parR; rw [if_neg (by rw [h]; decide), if_neg (by rw [h]; decide), if_pos h]
theorem parR_word {s : ByteArray} (h1 : ¬ s.toList = [126]) (h2 : ¬ s.toList = [84]) (h3 : ¬ s.toList = [70]) (h : wordP s) : parR s = (2, 0, s, 0) := by unfold parR; rw [if_neg h1, if_neg h2, if_neg h3, if_pos h]
theorem parR_num {s : ByteArray} (h1 : ¬ s.toList = [126]) (h2 : ¬ s.toList = [84]) (h3 : ¬ s.toList = [70]) (h4 : ¬ wordP s) (h : (sgnR s).2 = 0) : parR s = (1, (sgnR s).1, noB, 0) := by unfold parR; rw [if_neg h1, if_neg h2, if_neg h3, if_neg h4, if_pos h]
theorem parR_bad {s : ByteArray} (h1 : ¬ s.toList = [126]) (h2 : ¬ s.toList = [84]) (h3 : ¬ s.toList = [70]) (h4 : ¬ wordP s) (h : ¬ (sgnR s).2 = 0) : parR s = (0, 0, noB, (sgnR s).2) := by unfold parR; rw [if_neg h1, if_neg h2, if_neg h3, if_neg h4, if_neg h]

set_option maxHeartbeats 1600000 in
theorem vparse_any (s : ByteArray) (w : World) (hz : s.size ≤ 4611686018427387904) :
    Calls Tryz.prog 76 #[.string s] w fun e w' => e = ansV (parR s) ∧ Below w.heap.size w w' := by
  by_cases h1 : s.toList = [126]
  · rw [parR_none h1]
    go_enter Tryz.func76, Tryz.ntmps76
    go_wp2
    refine bodyPost_ret (v := .tuple #[.agg #[.int .i64 0, .int .i64 0, .string noB], .int .i64 0]) (by simp [results, Tryz.f76, go_sem]; rfl) rfl ?_
    exact ⟨rfl, by first | exact below_more (Below.refl _ _) _ | skip⟩
  by_cases h2 : s.toList = [84]
  · rw [parR_yes h2]
    go_enter Tryz.func76, Tryz.ntmps76
    go_wp2_with (go_at_call 61; refine (ofBool_any 1 _).mono ?_; rintro e w1 ⟨rfl, hb1⟩; have HB : Hid (Below w.heap.size w w1) := below_next (below_more (Below.refl _ _) _) hb1; obtain ⟨c6, c0, c1, c2, z0, z1, z2⟩ := (VBox.new w 0 0 noB 34).later hb1; clear hb1 h1 h2)
    refine bodyPost_ret (v := .tuple #[.agg #[.int .i64 3, .int .i64 1, .string noB], .int .i64 0]) (by simp [results, Tryz.f76, go_sem, c0, c1, c2]) rfl ?_
    exact ⟨rfl, below_store HB.out (Nat.le_refl _) _ _ _⟩
  by_cases h3 : s.toList = [70]
  · rw [parR_no h3]
    go_enter Tryz.func76, Tryz.ntmps76
    go_wp2_with (go_at_call 61; refine (ofBool_any 0 _).mono ?_; rintro e w1 ⟨rfl, hb1⟩; have HB : Hid (Below w.heap.size w w1) := below_next (below_more (Below.refl _ _) _) hb1; obtain ⟨c6, c0, c1, c2, z0, z1, z2⟩ := (VBox.new w 0 0 noB 34).later hb1; clear hb1)
    refine bodyPost_ret (v := .tuple #[.agg #[.int .i64 3, .int .i64 0, .string noB], .int .i64 0]) (by simp [results, Tryz.f76, go_sem, c0, c1, c2]) rfl ?_
    exact ⟨rfl, below_store HB.out (Nat.le_refl _) _ _ _⟩
  have h1' : (s.toList == [126]) = false := beq_false_of_ne h1
  have h2' : (s.toList == [84]) = false := beq_false_of_ne h2
  have h3' : (s.toList == [70]) = false := beq_false_of_ne h3
  have hW := isWord_any s
  by_cases h4 : wordP s
  · rw [parR_word h1 h2 h3 h4]
    rw [wordB_t h4] at hW
    clear h4 h1 h2 h3
    go_enter Tryz.func76, Tryz.ntmps76
    go_wp2_with (first | (go_at_call 83; refine (hW _ hz).mono ?_; rintro e w1 ⟨rfl, rfl⟩) | (go_at_call 82; refine (ofWord_any s _).mono ?_; rintro e w1 ⟨rfl, hb1⟩; have HB : Hid (Below w.heap.size w w1) := below_next (below_more (Below.refl _ _) _) hb1; obtain ⟨c6, c0, c1, c2, z0, z1, z2⟩ := (VBox.new w 0 0 noB 34).later hb1; clear hb1))
    refine bodyPost_ret (v := .tuple #[.agg #[.int .i64 2, .int .i64 0, .string s], .int .i64 0]) (by simp [results, Tryz.f76, go_sem, c0, c1, c2]) rfl ?_
    exact ⟨rfl, below_store HB.out (Nat.le_refl _) _ _ _⟩
  have hP := parse_any s
  rw [wordB_f h4] at hW
  by_cases h5 : (sgnR s).2 = 0
  · rw [parR_num h1 h2 h3 h4 h5]
    rw [h5] at hP
    generalize (sgnR s).1 = n at *
    clear h4 h5 h1 h2 h3
    go_enter Tryz.func76, Tryz.ntmps76
    go_wp2_with (first | (go_at_call 83; refine (hW _ hz).mono ?_; rintro e w1 ⟨rfl, rfl⟩) | (go_at_call 94; refine (hP _ hz).mono ?_; rintro e w1 ⟨rfl, hb1⟩; have HB : Hid (Below w.heap.size w w1) := below_next (below_more (Below.refl _ _) _) hb1; obtain ⟨c6, c0, c1, c2, z0, z1, z2⟩ := (VBox.new w 0 0 noB 34).later hb1; clear hb1) | (go_at_call 81; refine (ofNumber_any n _).mono ?_; rintro e w2 ⟨rfl, hb2⟩; have HB2 : Hid (Below w.heap.size w w2) := below_next HB.out hb2; obtain ⟨d6, d0, d1, d2, y0, y1, y2⟩ := VBox.later (show VBox w1 w.heap.size 0 0 noB from ⟨c6, c0, c1, c2, z0, z1, z2⟩) hb2; clear hb2))
    refine bodyPost_ret (v := .tuple #[.agg #[.int .i64 1, .int .i64 n, .string noB], .int .i64 0]) (by simp [results, Tryz.f76, go_sem, d0, d1, d2]) rfl ?_
    exact ⟨rfl, below_store HB2.out (Nat.le_refl _) _ _ _⟩
  · rw [parR_bad h1 h2 h3 h4 h5]
    generalize (sgnR s).1 = n at *
    generalize (sgnR s).2 = c at *
    have h5' : (c == 0) = false := by simp [h5]
    clear h4 h5 h1 h2 h3
    go_enter Tryz.func76, Tryz.ntmps76
    go_wp2_with (first | (go_at_call 83; refine (hW _ hz).mono ?_; rintro e w1 ⟨rfl, rfl⟩) | (go_at_call 94; refine (hP _ hz).mono ?_; rintro e w1 ⟨rfl, hb1⟩; have HB : Hid (Below w.heap.size w w1) := below_next (below_more (Below.refl _ _) _) hb1; obtain ⟨c6, c0, c1, c2, z0, z1, z2⟩ := (VBox.new w 0 0 noB 34).later hb1; clear hb1))
    refine bodyPost_ret (v := .tuple #[.agg #[.int .i64 0, .int .i64 0, .string noB], .int .i64 c]) (by simp [results, Tryz.f76, go_sem, c0, c1, c2]; rfl) rfl ?_
    exact ⟨rfl, below_store HB.out (Nat.le_refl _) _ _ _⟩
end Go.Proofs.YtdhlheilgagcpaaGreatDoor
namespace Go.Proofs.YtdhlheilgagcpaaGreatDoor
open Go.RowKit Go.PlainAid
set_option linter.unusedVariables false

theorem below_b2 (w : World) (a b : Obj) : Below w.heap.size w ((w.alloc a).alloc b) := below_more (below_more (Below.refl _ _) _) _
theorem below_b3 (w : World) (a b c : Obj) : Below w.heap.size w (((w.alloc a).alloc b).alloc c) := below_more (below_b2 w a b) _

end Go.Proofs.YtdhlheilgagcpaaGreatDoor
