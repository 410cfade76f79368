/- The walk of LineNotes. No conditions. -/
import Derived.Test.YtmmlafhifnmkpaaLI
import Derived.Test.YtmmlafhifnmkpaaLE
namespace Go.Proofs.Ytmmlafhifnmkpaa
open Go.RowKit Go.PlainAid
set_option linter.unusedVariables false

/-- what is told of a line, laid in memory -/
def NBox (w : World) (p : Nat) (a b : ByteArray) (x y : Bool) : Prop :=
  p < w.heap.size ∧ w.cell? ⟨p, 0, none⟩ = some (.string a) ∧ w.cell? ⟨p, 1, none⟩ = some (.string b) ∧ w.cell? ⟨p, 2, none⟩ = some (.bool x) ∧ w.cell? ⟨p, 3, none⟩ = some (.bool y)
theorem NBox.new (w : World) (a b : ByteArray) (x y : Bool) (T : TypeId) : NBox (w.alloc (.cells #[.string a, .string b, .bool x, .bool y] T)) w.heap.size a b x y := ⟨by simp, by simp, by simp, by simp, by simp⟩
/-- a line's note is one of these -/
theorem noteR_cases (l : List UInt8) : (∃ a b x, noteR l = (a, b, x, true)) ∨ noteR l = ([], [], false, false) := by
  unfold noteR
  split
  · split
    · exact .inl ⟨_, _, _, rfl⟩
    · exact .inr rfl
  · exact .inl ⟨_, _, _, rfl⟩

set_option maxHeartbeats 4000000 in
theorem law_notes (s : ByteArray) (w : World) : Calls Try.prog 4 #[.string s] w fun e w' => e = .returned (.bool true) ∧ Below w.heap.size w w' := by
  by_cases hs : 2000 < s.size
  · have hs' : (2000 : Int) < (s.size : Int) := by omega
    go_enter Try.func4, Try.ntmps4
    go_wp2_with fail
    refine (wakes_any _).mono ?_
    rintro e w1 ⟨rfl, hb1⟩
    go_wp2
    go_ret
    exact ⟨rfl, hb1⟩
  · have hs' : ¬ (2000 : Int) < (s.size : Int) := by omega
    have h1 := note_any s
    have h2 := rnote_any s
    rcases noteR_cases (tx s) with ⟨a, b, x, hr⟩ | hr
    · rw [hr] at h1 h2
      unfold notA at h1
      unfold notV at h2
      simp only [if_true] at h1
      clear hr
      go_enter Try.func4, Try.ntmps4
      go_wp2_with fail
      refine (wakes_any _).mono ?_
      rintro e w1 ⟨rfl, hb1⟩
      go_wp2_with fail
      refine (h1 _ (by omega)).mono ?_
      rintro e w2 ⟨rfl, hb2⟩
      replace hb2 := below_next hb1 hb2
      go_wp2_with fail
      refine (h2 _ (by omega)).mono ?_
      rintro e w3 ⟨rfl, hb3⟩
      replace hb3 := below_next hb2 hb3
      clear hb1 hb2
      go_wp2_with fail
      go_ret
      exact ⟨ret_b (by simp), below_more hb3 _⟩
    · rw [hr] at h1 h2
      unfold notA at h1
      unfold notV at h2
      simp only [Bool.false_eq_true, if_false] at h1
      clear hr
      have hn := bs_toList []
      go_enter Try.func4, Try.ntmps4
      go_wp2_with fail
      refine (wakes_any _).mono ?_
      rintro e w1 ⟨rfl, hb1⟩
      go_wp2_with fail
      refine (h1 _ (by omega)).mono ?_
      rintro e w2 ⟨rfl, hb2⟩
      replace hb2 := below_next hb1 hb2
      go_wp2_with fail
      refine (h2 _ (by omega)).mono ?_
      rintro e w3 ⟨rfl, hb3⟩
      replace hb3 := below_next hb2 hb3
      clear hb1 hb2
      go_wp2_with fail
      go_ret
      exact ⟨ret_b (by simp), below_more hb3 _⟩
end Go.Proofs.Ytmmlafhifnmkpaa
