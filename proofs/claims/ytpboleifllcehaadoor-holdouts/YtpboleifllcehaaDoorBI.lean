/- The words of the models and of what is done; the contracts of the document's ModelName and OpName. No conditions. The document's table, by the texts: boxes, and the first rows. Conditions: what the two words' functions answer. -/
import Derived.Test.YtpboleifllcehaaDoorBS
namespace Go.Proofs.YtpboleifllcehaaDoor
open Go.RowKit Go.PlainAid
set_option linter.unusedVariables false

/-- a model's word -/
def mn (m : Int) : ByteArray := if m = 1 then ⟨#[114, 101, 103]⟩ else if m = 2 then ⟨#[99, 97, 115]⟩ else if m = 3 then ⟨#[115, 101, 116]⟩ else if m = 4 then ⟨#[109, 97, 112]⟩ else if m = 5 then ⟨#[102, 105, 102, 111]⟩ else if m = 6 then ⟨#[115, 116, 97, 99, 107]⟩ else if m = 7 then ⟨#[108, 111, 99, 107]⟩ else if m = 8 then ⟨#[99, 111, 117, 110, 116]⟩ else if m = 9 then ⟨#[109, 97, 120]⟩ else if m = 10 then ⟨#[111, 109, 97, 112]⟩ else ⟨#[]⟩
/-- the word of what is done -/
def on (m : Int) : ByteArray := if m = 1 then ⟨#[119, 114, 105, 116, 101]⟩ else if m = 2 then ⟨#[114, 101, 97, 100]⟩ else if m = 3 then ⟨#[115, 119, 97, 112]⟩ else if m = 4 then ⟨#[97, 100, 100]⟩ else if m = 5 then ⟨#[100, 101, 108]⟩ else if m = 6 then ⟨#[104, 97, 115]⟩ else if m = 7 then ⟨#[112, 117, 116]⟩ else if m = 8 then ⟨#[103, 101, 116]⟩ else if m = 9 then ⟨#[112, 117, 115, 104]⟩ else if m = 10 then ⟨#[112, 111, 112]⟩ else if m = 11 then ⟨#[116, 97, 107, 101]⟩ else if m = 12 then ⟨#[102, 114, 101, 101]⟩ else if m = 13 then ⟨#[115, 99, 97, 110]⟩ else ⟨#[]⟩
set_option maxHeartbeats 4000000 in
theorem rmodelName_any (m : Int) (w : World) : Calls Tryd.prog 38 #[.int .i64 m] w fun e w' => e = .returned (.string (mn m)) ∧ Below w.heap.size w w' := by
  by_cases h1 : m = 1
  · subst h1
    go_enter Tryd.func38, Tryd.ntmps38
    go_wp2
    go_ret
    exact ⟨rfl, Below.refl _ _⟩
  by_cases h2 : m = 2
  · subst h2
    go_enter Tryd.func38, Tryd.ntmps38
    go_wp2
    go_ret
    exact ⟨rfl, Below.refl _ _⟩
  by_cases h3 : m = 3
  · subst h3
    go_enter Tryd.func38, Tryd.ntmps38
    go_wp2
    go_ret
    exact ⟨rfl, Below.refl _ _⟩
  by_cases h4 : m = 4
  · subst h4
    go_enter Tryd.func38, Tryd.ntmps38
    go_wp2
    go_ret
    exact ⟨rfl, Below.refl _ _⟩
  by_cases h5 : m = 5
  · subst h5
    go_enter Tryd.func38, Tryd.ntmps38
    go_wp2
    go_ret
    exact ⟨rfl, Below.refl _ _⟩
  by_cases h6 : m = 6
  · subst h6
    go_enter Tryd.func38, Tryd.ntmps38
    go_wp2
    go_ret
    exact ⟨rfl, Below.refl _ _⟩
  by_cases h7 : m = 7
  · subst h7
    go_enter Tryd.func38, Tryd.ntmps38
    go_wp2
    go_ret
    exact ⟨rfl, Below.refl _ _⟩
  by_cases h8 : m = 8
  · subst h8
    go_enter Tryd.func38, Tryd.ntmps38
    go_wp2
    go_ret
    exact ⟨rfl, Below.refl _ _⟩
  by_cases h9 : m = 9
  · subst h9
    go_enter Tryd.func38, Tryd.ntmps38
    go_wp2
    go_ret
    exact ⟨rfl, Below.refl _ _⟩
  by_cases h10 : m = 10
  · subst h10
    go_enter Tryd.func38, Tryd.ntmps38
    go_wp2
    go_ret
    exact ⟨rfl, Below.refl _ _⟩
  have e : mn m = ⟨#[]⟩ := by unfold mn; simp only [h1, h2, h3, h4, h5, h6, h7, h8, h9, h10, if_false]
  rw [e]
  have k1 : (m == 1) = false := by simp [h1]
  have k2 : (m == 2) = false := by simp [h2]
  have k3 : (m == 3) = false := by simp [h3]
  have k4 : (m == 4) = false := by simp [h4]
  have k5 : (m == 5) = false := by simp [h5]
  have k6 : (m == 6) = false := by simp [h6]
  have k7 : (m == 7) = false := by simp [h7]
  have k8 : (m == 8) = false := by simp [h8]
  have k9 : (m == 9) = false := by simp [h9]
  have k10 : (m == 10) = false := by simp [h10]
  clear h1 h2 h3 h4 h5 h6 h7 h8 h9 h10
  go_enter Tryd.func38, Tryd.ntmps38
  go_wp2
  go_ret
  exact ⟨rfl, Below.refl _ _⟩
set_option maxHeartbeats 4000000 in
theorem ropName_any (m : Int) (w : World) : Calls Tryd.prog 39 #[.int .i64 m] w fun e w' => e = .returned (.string (on m)) ∧ Below w.heap.size w w' := by
  by_cases h1 : m = 1
  · subst h1
    go_enter Tryd.func39, Tryd.ntmps39
    go_wp2
    go_ret
    exact ⟨rfl, Below.refl _ _⟩
  by_cases h2 : m = 2
  · subst h2
    go_enter Tryd.func39, Tryd.ntmps39
    go_wp2
    go_ret
    exact ⟨rfl, Below.refl _ _⟩
  by_cases h3 : m = 3
  · subst h3
    go_enter Tryd.func39, Tryd.ntmps39
    go_wp2
    go_ret
    exact ⟨rfl, Below.refl _ _⟩
  by_cases h4 : m = 4
  · subst h4
    go_enter Tryd.func39, Tryd.ntmps39
    go_wp2
    go_ret
    exact ⟨rfl, Below.refl _ _⟩
  by_cases h5 : m = 5
  · subst h5
    go_enter Tryd.func39, Tryd.ntmps39
    go_wp2
    go_ret
    exact ⟨rfl, Below.refl _ _⟩
  by_cases h6 : m = 6
  · subst h6
    go_enter Tryd.func39, Tryd.ntmps39
    go_wp2
    go_ret
    exact ⟨rfl, Below.refl _ _⟩
  by_cases h7 : m = 7
  · subst h7
    go_enter Tryd.func39, Tryd.ntmps39
    go_wp2
    go_ret
    exact ⟨rfl, Below.refl _ _⟩
  by_cases h8 : m = 8
  · subst h8
    go_enter Tryd.func39, Tryd.ntmps39
    go_wp2
    go_ret
    exact ⟨rfl, Below.refl _ _⟩
  by_cases h9 : m = 9
  · subst h9
    go_enter Tryd.func39, Tryd.ntmps39
    go_wp2
    go_ret
    exact ⟨rfl, Below.refl _ _⟩
  by_cases h10 : m = 10
  · subst h10
    go_enter Tryd.func39, Tryd.ntmps39
    go_wp2
    go_ret
    exact ⟨rfl, Below.refl _ _⟩
  by_cases h11 : m = 11
  · subst h11
    go_enter Tryd.func39, Tryd.ntmps39
    go_wp2
    go_ret
    exact ⟨rfl, Below.refl _ _⟩
  by_cases h12 : m = 12
  · subst h12
    go_enter Tryd.func39, Tryd.ntmps39
    go_wp2
    go_ret
    exact ⟨rfl, Below.refl _ _⟩
  by_cases h13 : m = 13
  · subst h13
    go_enter Tryd.func39, Tryd.ntmps39
    go_wp2
    go_ret
    exact ⟨rfl, Below.refl _ _⟩
  have e : on m = ⟨#[]⟩ := by unfold on; simp only [h1, h2, h3, h4, h5, h6, h7, h8, h9, h10, h11, h12, h13, if_false]
  rw [e]
  have k1 : (m == 1) = false := by simp [h1]
  have k2 : (m == 2) = false := by simp [h2]
  have k3 : (m == 3) = false := by simp [h3]
  have k4 : (m == 4) = false := by simp [h4]
  have k5 : (m == 5) = false := by simp [h5]
  have k6 : (m == 6) = false := by simp [h6]
  have k7 : (m == 7) = false := by simp [h7]
  have k8 : (m == 8) = false := by simp [h8]
  have k9 : (m == 9) = false := by simp [h9]
  have k10 : (m == 10) = false := by simp [h10]
  have k11 : (m == 11) = false := by simp [h11]
  have k12 : (m == 12) = false := by simp [h12]
  have k13 : (m == 13) = false := by simp [h13]
  clear h1 h2 h3 h4 h5 h6 h7 h8 h9 h10 h11 h12 h13
  go_enter Tryd.func39, Tryd.ntmps39
  go_wp2
  go_ret
  exact ⟨rfl, Below.refl _ _⟩

end Go.Proofs.YtpboleifllcehaaDoor
namespace Go.Proofs.YtpboleifllcehaaDoor
open Go.RowKit Go.PlainAid
set_option linter.unusedVariables false
set_option linter.unusedSimpArgs false

theorem below_box (w : World) (o : Obj) : Below w.heap.size w (w.alloc o) := below_more (Below.refl _ _) o
/-- a struct of four cells laid in memory, nothing in it -/
def SBox (w : World) (p : Nat) (a b c d : Value) : Prop :=
  p < w.heap.size ∧ w.cell? ⟨p, 0, none⟩ = some a ∧ w.cell? ⟨p, 1, none⟩ = some b ∧ w.cell? ⟨p, 2, none⟩ = some c ∧ w.cell? ⟨p, 3, none⟩ = some d ∧
    w.frozen? ⟨p, 0, none⟩ = false ∧ w.frozen? ⟨p, 1, none⟩ = false ∧ w.frozen? ⟨p, 2, none⟩ = false ∧ w.frozen? ⟨p, 3, none⟩ = false
theorem SBox.later {w w' : World} {p : Nat} {a b c d : Value} (h : SBox w p a b c d) (hb : Below w.heap.size w w') : SBox w' p a b c d := by
  obtain ⟨h0, h1, h2, h3, h4, f0, f1, f2, f3⟩ := h
  exact ⟨Nat.lt_of_lt_of_le h0 hb.size, (hb.cell (p := ⟨p, 0, none⟩) h0).trans h1, (hb.cell (p := ⟨p, 1, none⟩) h0).trans h2, (hb.cell (p := ⟨p, 2, none⟩) h0).trans h3, (hb.cell (p := ⟨p, 3, none⟩) h0).trans h4,
    (hb.frozen (p := ⟨p, 0, none⟩) h0).trans f0, (hb.frozen (p := ⟨p, 1, none⟩) h0).trans f1, (hb.frozen (p := ⟨p, 2, none⟩) h0).trans f2, (hb.frozen (p := ⟨p, 3, none⟩) h0).trans f3⟩
theorem SBox.new (w : World) (T : TypeId) : SBox (w.alloc (.cells #[.slice none 0 0, .int .i64 0, .bool false, .bool false] T)) w.heap.size (.slice none 0 0) (.int .i64 0) (.bool false) (.bool false) :=
  ⟨by simp, by simp, by simp, by simp, by simp, by simp, by simp, by simp, by simp⟩
theorem below_store4 {w a : World} (h : Below w.heap.size w a) {p : Nat} (hp : w.heap.size ≤ p) (x y z u : Value) :
    Below w.heap.size w ((((a.setCell ⟨p, 0, none⟩ x).setCell ⟨p, 1, none⟩ y).setCell ⟨p, 2, none⟩ z).setCell ⟨p, 3, none⟩ u) :=
  (((h.setCell hp x).setCell hp y).setCell hp z).setCell hp u
theorem isl_1 {w : World} {g : Nat} {a : Int} (h : w.cell? ⟨g, 0, none⟩ = some (.int .i64 a)) (hl : g < w.heap.size) : ISl w (.slice (some ⟨g, 0, none⟩) 1 1) [a] := by
  refine ⟨_, 1, rfl, by simp, by simp, .inr ⟨g, 0, rfl, hl, fun i hi => ?_⟩⟩
  have hi1 : i = 0 := by simpa using hi
  subst hi1
  exact h
theorem isl_2 {w : World} {g : Nat} {a b : Int} (h : w.cell? ⟨g, 0, none⟩ = some (.int .i64 a)) (h' : w.cell? ⟨g, 1, none⟩ = some (.int .i64 b)) (hl : g < w.heap.size) : ISl w (.slice (some ⟨g, 0, none⟩) 2 2) [a, b] := by
  refine ⟨_, 2, rfl, by simp, by simp, .inr ⟨g, 0, rfl, hl, fun i hi => ?_⟩⟩
  have hi1 : i = 0 ∨ i = 1 := by simp at hi; omega
  rcases hi1 with rfl | rfl
  · exact h
  · exact h'
/-- how the document's Find ends, told by the sign's parts -/
def RD (w : World) (inn : List Int) (d : Int) (may is : Bool) (e : Ending) (w' : World) : Prop := ∃ vi, e = .returned (.agg #[vi, .int .i64 d, .bool may, .bool is]) ∧ ISl w' vi inn ∧ Below w.heap.size w w'

set_option maxHeartbeats 4000000 in
theorem rfind_0 (m o : Int) (A U : ByteArray) (w : World) (q1 : ¬ 9223372036854775807 < A.size + 1) (q2 : ¬ 9223372036854775807 < (A ++ (⟨#[32]⟩ : ByteArray)).size + U.size) (hM : ∀ w, Calls Tryd.prog 38 #[.int .i64 m] w fun e w' => e = .returned (.string A) ∧ Below w.heap.size w w') (hO : ∀ w, Calls Tryd.prog 39 #[.int .i64 o] w fun e w' => e = .returned (.string U) ∧ Below w.heap.size w w')  (e0 : ((A ++ (⟨#[32]⟩ : ByteArray) ++ U).toList == [114, 101, 103, 32, 119, 114, 105, 116, 101]) = true) :
    Calls Tryd.prog 34 #[.int .i64 m, .int .i64 o] w fun e w' => RD w [2] (-1) false true e w' := by
  have S0 := SBox.new w 67
  have hb0 := below_box w (.cells #[.slice none 0 0, .int .i64 0, .bool false, .bool false] 67)
  go_enter Tryd.func34, Tryd.ntmps34
  go_wp2_with fail
  generalize w.alloc (.cells #[.slice none 0 0, .int .i64 0, .bool false, .bool false] 67) = w0 at *
  refine (hM _).mono ?_
  rintro e w1 ⟨rfl, hb1⟩
  go_wp2_with fail
  generalize A ++ (⟨#[32]⟩ : ByteArray) = B at *
  refine (hO _).mono ?_
  rintro e w2 ⟨rfl, hb2⟩
  have hbw := below_next (below_next hb0 hb1) hb2
  obtain ⟨hp, c0, c1, c2, c3, f0, f1, f2, f3⟩ := (S0.later hb1).later hb2
  have hne : ¬ w.heap.size = w2.heap.size := by omega
  have hne2 : ¬ w2.heap.size = w.heap.size := by omega
  clear S0 hb0 hb1 hb2 hM hO
  go_wp2
  refine bodyPost_ret (v := .agg #[.slice (some ⟨w2.heap.size, 0, none⟩) 1 1, .int .i64 (-1), .bool false, .bool true]) (by simp [results, Tryd.f34, go_sem, hne, hne2, c0, c1, c2, c3, f0, f1, f2, f3, hp]) rfl ?_
  refine ⟨_, rfl, ?_, ?_⟩
  · refine isl_1 ?_ ?_ <;> first | (simp [hne, hne2]; done) | (simp [World.cell?, hne, hne2]; done) | (go_simp; done)
  first | exact below_more (below_store4 hbw (Nat.le_refl _) _ _ _ _) _ | exact below_store4 (below_more hbw _) (Nat.le_refl _) _ _ _ _
set_option maxHeartbeats 4000000 in
theorem rfind_4 (m o : Int) (A U : ByteArray) (w : World) (q1 : ¬ 9223372036854775807 < A.size + 1) (q2 : ¬ 9223372036854775807 < (A ++ (⟨#[32]⟩ : ByteArray)).size + U.size) (hM : ∀ w, Calls Tryd.prog 38 #[.int .i64 m] w fun e w' => e = .returned (.string A) ∧ Below w.heap.size w w') (hO : ∀ w, Calls Tryd.prog 39 #[.int .i64 o] w fun e w' => e = .returned (.string U) ∧ Below w.heap.size w w') (e0 : ((A ++ (⟨#[32]⟩ : ByteArray) ++ U).toList == [114, 101, 103, 32, 119, 114, 105, 116, 101]) = false) (e2 : ((A ++ (⟨#[32]⟩ : ByteArray) ++ U).toList == [99, 97, 115, 32, 119, 114, 105, 116, 101]) = false) (e5 : ((A ++ (⟨#[32]⟩ : ByteArray) ++ U).toList == [115, 101, 116, 32, 97, 100, 100]) = false) (e6 : ((A ++ (⟨#[32]⟩ : ByteArray) ++ U).toList == [115, 101, 116, 32, 100, 101, 108]) = false) (e11 : ((A ++ (⟨#[32]⟩ : ByteArray) ++ U).toList == [102, 105, 102, 111, 32, 112, 117, 115, 104]) = false) (e13 : ((A ++ (⟨#[32]⟩ : ByteArray) ++ U).toList == [115, 116, 97, 99, 107, 32, 112, 117, 115, 104]) = false) (e1 : ((A ++ (⟨#[32]⟩ : ByteArray) ++ U).toList == [114, 101, 103, 32, 114, 101, 97, 100]) = false) (e3 : ((A ++ (⟨#[32]⟩ : ByteArray) ++ U).toList == [99, 97, 115, 32, 114, 101, 97, 100]) = false) (e12 : ((A ++ (⟨#[32]⟩ : ByteArray) ++ U).toList == [102, 105, 102, 111, 32, 112, 111, 112]) = false) (e14 : ((A ++ (⟨#[32]⟩ : ByteArray) ++ U).toList == [115, 116, 97, 99, 107, 32, 112, 111, 112]) = false) (e4 : ((A ++ (⟨#[32]⟩ : ByteArray) ++ U).toList == [99, 97, 115, 32, 115, 119, 97, 112]) = true) :
    Calls Tryd.prog 34 #[.int .i64 m, .int .i64 o] w fun e w' => RD w [2, 2] (6) false true e w' := by
  have S0 := SBox.new w 67
  have hb0 := below_box w (.cells #[.slice none 0 0, .int .i64 0, .bool false, .bool false] 67)
  go_enter Tryd.func34, Tryd.ntmps34
  go_wp2_with fail
  generalize w.alloc (.cells #[.slice none 0 0, .int .i64 0, .bool false, .bool false] 67) = w0 at *
  refine (hM _).mono ?_
  rintro e w1 ⟨rfl, hb1⟩
  go_wp2_with fail
  generalize A ++ (⟨#[32]⟩ : ByteArray) = B at *
  refine (hO _).mono ?_
  rintro e w2 ⟨rfl, hb2⟩
  have hbw := below_next (below_next hb0 hb1) hb2
  obtain ⟨hp, c0, c1, c2, c3, f0, f1, f2, f3⟩ := (S0.later hb1).later hb2
  have hne : ¬ w.heap.size = w2.heap.size := by omega
  have hne2 : ¬ w2.heap.size = w.heap.size := by omega
  clear S0 hb0 hb1 hb2 hM hO
  go_wp2
  refine bodyPost_ret (v := .agg #[.slice (some ⟨w2.heap.size, 0, none⟩) 2 2, .int .i64 (6), .bool false, .bool true]) (by simp [results, Tryd.f34, go_sem, hne, hne2, c0, c1, c2, c3, f0, f1, f2, f3, hp]) rfl ?_
  refine ⟨_, rfl, ?_, ?_⟩
  · refine isl_2 ?_ ?_ ?_ <;> first | (simp [hne, hne2]; done) | (simp [World.cell?, hne, hne2]; done) | (go_simp; done)
  first | exact below_more (below_store4 hbw (Nat.le_refl _) _ _ _ _) _ | exact below_store4 (below_more hbw _) (Nat.le_refl _) _ _ _ _
end Go.Proofs.YtpboleifllcehaaDoor
