/- The words of the models and of what is done; the contracts of the document's ModelName and OpName. No conditions. -/
import Derived.Test.YtoefcbhcceikoaaDoorSA
namespace Go.Proofs.YtoefcbhcceikoaaDoor
open Go.RowKit Go.PlainAid
set_option linter.unusedVariables false

/-- a model's word -/
def mn (m : Int) : ByteArray := if m = 1 then ⟨#[114, 101, 103]⟩ else if m = 2 then ⟨#[99, 97, 115]⟩ else if m = 3 then ⟨#[115, 101, 116]⟩ else if m = 4 then ⟨#[109, 97, 112]⟩ else if m = 5 then ⟨#[102, 105, 102, 111]⟩ else if m = 6 then ⟨#[115, 116, 97, 99, 107]⟩ else if m = 7 then ⟨#[108, 111, 99, 107]⟩ else if m = 8 then ⟨#[99, 111, 117, 110, 116]⟩ else if m = 9 then ⟨#[109, 97, 120]⟩ else if m = 10 then ⟨#[111, 109, 97, 112]⟩ else ⟨#[]⟩
/-- the word of what is done -/
def on (m : Int) : ByteArray := if m = 1 then ⟨#[119, 114, 105, 116, 101]⟩ else if m = 2 then ⟨#[114, 101, 97, 100]⟩ else if m = 3 then ⟨#[115, 119, 97, 112]⟩ else if m = 4 then ⟨#[97, 100, 100]⟩ else if m = 5 then ⟨#[100, 101, 108]⟩ else if m = 6 then ⟨#[104, 97, 115]⟩ else if m = 7 then ⟨#[112, 117, 116]⟩ else if m = 8 then ⟨#[103, 101, 116]⟩ else if m = 9 then ⟨#[112, 117, 115, 104]⟩ else if m = 10 then ⟨#[112, 111, 112]⟩ else if m = 11 then ⟨#[116, 97, 107, 101]⟩ else if m = 12 then ⟨#[102, 114, 101, 101]⟩ else if m = 13 then ⟨#[115, 99, 97, 110]⟩ else ⟨#[]⟩
set_option maxHeartbeats 4000000 in
theorem rmodelName_any (m : Int) (w : World) : Calls Tryd.prog 14 #[.int .i64 m] w fun e w' => e = .returned (.string (mn m)) ∧ Below w.heap.size w w' := by
  by_cases h1 : m = 1
  · subst h1
    go_enter Tryd.func14, Tryd.ntmps14
    go_wp2
    go_ret
    exact ⟨rfl, Below.refl _ _⟩
  by_cases h2 : m = 2
  · subst h2
    go_enter Tryd.func14, Tryd.ntmps14
    go_wp2
    go_ret
    exact ⟨rfl, Below.refl _ _⟩
  by_cases h3 : m = 3
  · subst h3
    go_enter Tryd.func14, Tryd.ntmps14
    go_wp2
    go_ret
    exact ⟨rfl, Below.refl _ _⟩
  by_cases h4 : m = 4
  · subst h4
    go_enter Tryd.func14, Tryd.ntmps14
    go_wp2
    go_ret
    exact ⟨rfl, Below.refl _ _⟩
  by_cases h5 : m = 5
  · subst h5
    go_enter Tryd.func14, Tryd.ntmps14
    go_wp2
    go_ret
    exact ⟨rfl, Below.refl _ _⟩
  by_cases h6 : m = 6
  · subst h6
    go_enter Tryd.func14, Tryd.ntmps14
    go_wp2
    go_ret
    exact ⟨rfl, Below.refl _ _⟩
  by_cases h7 : m = 7
  · subst h7
    go_enter Tryd.func14, Tryd.ntmps14
    go_wp2
    go_ret
    exact ⟨rfl, Below.refl _ _⟩
  by_cases h8 : m = 8
  · subst h8
    go_enter Tryd.func14, Tryd.ntmps14
    go_wp2
    go_ret
    exact ⟨rfl, Below.refl _ _⟩
  by_cases h9 : m = 9
  · subst h9
    go_enter Tryd.func14, Tryd.ntmps14
    go_wp2
    go_ret
    exact ⟨rfl, Below.refl _ _⟩
  by_cases h10 : m = 10
  · subst h10
    go_enter Tryd.func14, Tryd.ntmps14
    go_wp2
    go_ret
    exact ⟨rfl, Below.refl _ _⟩
  have e : mn m = ⟨#[]⟩ := by unfold mn; simp only [h1, h2, h3, h4, h5, h6, h7, h8, h9, h10, if_false]
  rw [e]
  have k1 : (m == 1) = false := by simp [h1]
  have k2 : (m == 2) = false := by simp [h2]
  have k3 : (m == 3) = false := by simp [h3]
  have k4 : (m == 4) = false := by simp [h4]
  have k5 : (m == 5) = false := by simp [h5]
  have k6 : (m == 6) = false := by simp [h6]
  have k7 : (m == 7) = false := by simp [h7]
  have k8 : (m == 8) = false := by simp [h8]
  have k9 : (m == 9) = false := by simp [h9]
  have k10 : (m == 10) = false := by simp [h10]
  clear h1 h2 h3 h4 h5 h6 h7 h8 h9 h10
  go_enter Tryd.func14, Tryd.ntmps14
  go_wp2
  go_ret
  exact ⟨rfl, Below.refl _ _⟩
set_option maxHeartbeats 4000000 in
theorem ropName_any (m : Int) (w : World) : Calls Tryd.prog 16 #[.int .i64 m] w fun e w' => e = .returned (.string (on m)) ∧ Below w.heap.size w w' := by
  by_cases h1 : m = 1
  · subst h1
    go_enter Tryd.func16, Tryd.ntmps16
    go_wp2
    go_ret
    exact ⟨rfl, Below.refl _ _⟩
  by_cases h2 : m = 2
  · subst h2
    go_enter Tryd.func16, Tryd.ntmps16
    go_wp2
    go_ret
    exact ⟨rfl, Below.refl _ _⟩
  by_cases h3 : m = 3
  · subst h3
    go_enter Tryd.func16, Tryd.ntmps16
    go_wp2
    go_ret
    exact ⟨rfl, Below.refl _ _⟩
  by_cases h4 : m = 4
  · subst h4
    go_enter Tryd.func16, Tryd.ntmps16
    go_wp2
    go_ret
    exact ⟨rfl, Below.refl _ _⟩
  by_cases h5 : m = 5
  · subst h5
    go_enter Tryd.func16, Tryd.ntmps16
    go_wp2
    go_ret
    exact ⟨rfl, Below.refl _ _⟩
  by_cases h6 : m = 6
  · subst h6
    go_enter Tryd.func16, Tryd.ntmps16
    go_wp2
    go_ret
    exact ⟨rfl, Below.refl _ _⟩
  by_cases h7 : m = 7
  · subst h7
    go_enter Tryd.func16, Tryd.ntmps16
    go_wp2
    go_ret
    exact ⟨rfl, Below.refl _ _⟩
  by_cases h8 : m = 8
  · subst h8
    go_enter Tryd.func16, Tryd.ntmps16
    go_wp2
    go_ret
    exact ⟨rfl, Below.refl _ _⟩
  by_cases h9 : m = 9
  · subst h9
    go_enter Tryd.func16, Tryd.ntmps16
    go_wp2
    go_ret
    exact ⟨rfl, Below.refl _ _⟩
  by_cases h10 : m = 10
  · subst h10
    go_enter Tryd.func16, Tryd.ntmps16
    go_wp2
    go_ret
    exact ⟨rfl, Below.refl _ _⟩
  by_cases h11 : m = 11
  · subst h11
    go_enter Tryd.func16, Tryd.ntmps16
    go_wp2
    go_ret
    exact ⟨rfl, Below.refl _ _⟩
  by_cases h12 : m = 12
  · subst h12
    go_enter Tryd.func16, Tryd.ntmps16
    go_wp2
    go_ret
    exact ⟨rfl, Below.refl _ _⟩
  by_cases h13 : m = 13
  · subst h13
    go_enter Tryd.func16, Tryd.ntmps16
    go_wp2
    go_ret
    exact ⟨rfl, Below.refl _ _⟩
  have e : on m = ⟨#[]⟩ := by unfold on; simp only [h1, h2, h3, h4, h5, h6, h7, h8, h9, h10, h11, h12, h13, if_false]
  rw [e]
  have k1 : (m == 1) = false := by simp [h1]
  have k2 : (m == 2) = false := by simp [h2]
  have k3 : (m == 3) = false := by simp [h3]
  have k4 : (m == 4) = false := by simp [h4]
  have k5 : (m == 5) = false := by simp [h5]
  have k6 : (m == 6) = false := by simp [h6]
  have k7 : (m == 7) = false := by simp [h7]
  have k8 : (m == 8) = false := by simp [h8]
  have k9 : (m == 9) = false := by simp [h9]
  have k10 : (m == 10) = false := by simp [h10]
  have k11 : (m == 11) = false := by simp [h11]
  have k12 : (m == 12) = false := by simp [h12]
  have k13 : (m == 13) = false := by simp [h13]
  clear h1 h2 h3 h4 h5 h6 h7 h8 h9 h10 h11 h12 h13
  go_enter Tryd.func16, Tryd.ntmps16
  go_wp2
  go_ret
  exact ⟨rfl, Below.refl _ _⟩

end Go.Proofs.YtoefcbhcceikoaaDoor
