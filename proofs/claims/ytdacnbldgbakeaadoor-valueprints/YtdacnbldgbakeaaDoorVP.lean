/- The contract of the document's Parse. Conditions: the text is at most 2^62 bytes. -/
import Derived.Test.YtdacnbldgbakeaaDoorVD
import Derived.Test.YtdacnbldgbakeaaDoorVB
import Derived.Test.YtdacnbldgbakeaaDoorNG
namespace Go.Proofs.YtdacnbldgbakeaaDoor
open Go.RowKit Go.PlainAid
set_option linter.unusedVariables false

theorem below_b2 (w : World) (a b : Obj) : Below w.heap.size w ((w.alloc a).alloc b) := below_more (below_more (Below.refl _ _) _) _
theorem below_b3 (w : World) (a b c : Obj) : Below w.heap.size w (((w.alloc a).alloc b).alloc c) := below_more (below_b2 w a b) _

set_option maxHeartbeats 1600000 in
theorem vrparse_any (s : ByteArray) (w : World) (hz : s.size ≤ 4611686018427387904) :
    Calls Tryd.prog 12 #[.string s] w fun e w' => e = ansV (parR s) ∧ Below w.heap.size w w' := by
  by_cases h1 : s.toList = [126]
  · rw [parR_none h1]
    go_enter Tryd.func12, Tryd.ntmps12
    go_wp2
    refine bodyPost_ret (v := .tuple #[.agg #[.int .i64 0, .int .i64 0, .string noB], .int .i64 0]) (by simp [results, Tryd.f12, go_sem]; rfl) rfl ?_
    exact ⟨rfl, below_b2 _ _ _⟩
  by_cases h2 : s.toList = [84]
  · rw [parR_yes h2]
    go_enter Tryd.func12, Tryd.ntmps12
    go_wp2
    refine bodyPost_ret (v := .tuple #[.agg #[.int .i64 3, .int .i64 1, .string noB], .int .i64 0]) (by simp [results, Tryd.f12, go_sem]; rfl) rfl ?_
    exact ⟨rfl, below_b3 _ _ _ _⟩
  by_cases h3 : s.toList = [70]
  · rw [parR_no h3]
    go_enter Tryd.func12, Tryd.ntmps12
    go_wp2
    refine bodyPost_ret (v := .tuple #[.agg #[.int .i64 3, .int .i64 0, .string noB], .int .i64 0]) (by simp [results, Tryd.f12, go_sem]; rfl) rfl ?_
    exact ⟨rfl, below_b3 _ _ _ _⟩
  have h1' : (s.toList == [126]) = false := beq_false_of_ne h1
  have h2' : (s.toList == [84]) = false := beq_false_of_ne h2
  have h3' : (s.toList == [70]) = false := beq_false_of_ne h3
  have hW := risWord_any s
  by_cases h4 : wordP s
  · rw [parR_word h1 h2 h3 h4]
    rw [wordB_t h4] at hW
    clear h4 h1 h2 h3
    go_enter Tryd.func12, Tryd.ntmps12
    go_wp2_with (go_at_call 18; refine (hW _ hz).mono ?_; rintro e w1 ⟨rfl, rfl⟩)
    refine bodyPost_ret (v := .tuple #[.agg #[.int .i64 2, .int .i64 0, .string s], .int .i64 0]) (by simp [results, Tryd.f12, go_sem]) rfl ?_
    exact ⟨rfl, below_b2 _ _ _⟩
  have hP := rparse_any s
  rw [wordB_f h4] at hW
  by_cases h5 : (sgnR s).2 = 0
  · rw [parR_num h1 h2 h3 h4 h5]
    rw [h5] at hP
    generalize (sgnR s).1 = n at *
    clear h4 h5 h1 h2 h3
    go_enter Tryd.func12, Tryd.ntmps12
    go_wp2_with (first | (go_at_call 18; refine (hW _ hz).mono ?_; rintro e w1 ⟨rfl, rfl⟩) | (go_at_call 21; refine (hP _ hz).mono ?_; rintro e w1 ⟨rfl, rfl⟩))
    refine bodyPost_ret (v := .tuple #[.agg #[.int .i64 1, .int .i64 n, .string noB], .int .i64 0]) (by simp [results, Tryd.f12, go_sem]; rfl) rfl ?_
    exact ⟨rfl, below_b2 _ _ _⟩
  · rw [parR_bad h1 h2 h3 h4 h5]
    generalize (sgnR s).1 = n at *
    generalize (sgnR s).2 = c at *
    have h5' : (c == 0) = false := by simp [h5]
    clear h4 h5 h1 h2 h3
    go_enter Tryd.func12, Tryd.ntmps12
    go_wp2_with (first | (go_at_call 18; refine (hW _ hz).mono ?_; rintro e w1 ⟨rfl, rfl⟩) | (go_at_call 21; refine (hP _ hz).mono ?_; rintro e w1 ⟨rfl, rfl⟩))
    refine bodyPost_ret (v := .tuple #[.agg #[.int .i64 0, .int .i64 0, .string noB], .int .i64 c]) (by simp [results, Tryd.f12, go_sem]; rfl) rfl ?_
    exact ⟨rfl, below_b2 _ _ _⟩
end Go.Proofs.YtdacnbldgbakeaaDoor
