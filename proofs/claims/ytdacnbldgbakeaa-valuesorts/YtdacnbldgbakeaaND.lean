/- The contracts of the two deferred closures, and of Parse and Count. Conditions: the text is at most 2^62 bytes; the bound is one of 64 bits. -/
import Derived.Test.YtdacnbldgbakeaaNC
import Derived.Defers
import Derived.Recover
import Derived.Laws.Pointers
namespace Go.Proofs.Ytdacnbldgbakeaa
open Go.RowKit Go.PlainAid
set_option linter.unusedVariables false

theorem run_assert (c : Int) (w : World) : (Instr.typeAssert (.iface 35 (.int .i64 c)) 20 35 false).run Try.prog w = .ok (.int .i64 c) w := by
  kernel_rfl

theorem pcatch_panicking (p q : Addr) (x y c : Int) (w : World) (hp : w.cell? p = some (.int .i64 x)) (hq : (w.setCell p (.int .i64 0)).cell? q = some (.int .i64 y)) (zp : w.frozen? p = false) (zq : w.frozen? q = false) :
    CallsD Try.prog 33 #[.pointer (some p), .pointer (some q)] (.panicking [{ v := .iface 35 (.int .i64 c), recovered := false }]) w fun e u' w' =>
      e = .returned (.tuple #[]) ∧ u' = .panicking [{ v := .iface 35 (.int .i64 c), recovered := true }] ∧ w' = ((w.setCell p (.int .i64 0)).setCell q (.int .i64 c)).drew := by
  have hta := run_assert c
  refine callsD_of_wpS Try.func33 rfl fun c₀ cs hu => ?_
  apply wpS_seq
  apply wpS_region
  simp [wpOpsS, go_sem, recoverD, hu, Try.ntmps33, Exit.thenS]
  refine wpS_of_wp ?_
  show Code.wp Try.prog _ _ ⟨#[.pointer (some p), .pointer (some q), .iface 35 (.int .i64 c), .iface 35 (.int .i64 c), undef, undef, undef, undef], []⟩ w
  go_wp2
  go_region
  show bodyPostS _ _ _ _ _ _ _ _ _
  simp [bodyPostS, results, Try.results33]

theorem pcatch_idle (p q : Addr) (w : World) :
    CallsD Try.prog 33 #[.pointer (some p), .pointer (some q)] .returning w fun e u' w' => e = .returned (.tuple #[]) ∧ u' = .returning ∧ w' = w := by
  refine callsD_of_wpS Try.func33 rfl fun c₀ cs hu => ?_
  apply wpS_seq
  apply wpS_region
  simp [wpOpsS, go_sem, recoverD, hu, Try.ntmps33, Exit.thenS]
  refine wpS_of_wp ?_
  show Code.wp Try.prog _ _ ⟨#[.pointer (some p), .pointer (some q), .nilIface, .nilIface, undef, undef, undef, undef], []⟩ w
  go_wp2
  show bodyPostS _ _ _ _ _ _ _ _ _
  cases c₀
  simp_all [bodyPostS, results, Try.results33]

/-- what a text is as the number from 0 to m: the number and the error -/
def cntR (s : ByteArray) (m : Int) : Int × Int := if okD s then (if (valN s s.size : Int) ≤ m then ((valN s s.size : Int), 0) else (0, 3)) else (0, 2)
/-- what a text is as a number: the number and the error -/
def sgnR (s : ByteArray) : Int × Int :=
  if bt s 0 = 45 then (if okD (tl s) then (if (valN (tl s) (tl s).size : Int) ≤ 9223372036854775808 then (if valN (tl s) (tl s).size = 0 then (0, 2) else (-(valN (tl s) (tl s).size : Int), 0)) else (0, 3)) else (0, 2))
  else cntR s 9223372036854775807
/-- an ending is an answer, or a panic that makes it -/
def Ends (e : Ending) (r : Int × Int) : Prop := (e = .returned (.int .i64 r.1) ∧ r.2 = 0) ∨ (e = gaveUp r.2 ∧ r.1 = 0)
theorem countE_ends (s : ByteArray) (m : Int) : Ends (countE s m) (cntR s m) := by
  unfold countE cntR
  split
  · split
    · exact .inl ⟨rfl, rfl⟩
    · exact .inr ⟨rfl, rfl⟩
  · exact .inr ⟨rfl, rfl⟩
theorem signE_ends (s : ByteArray) : Ends (signE s) (sgnR s) := by
  unfold signE sgnR
  split
  · split
    · split
      · split
        · exact .inr ⟨rfl, rfl⟩
        · exact .inl ⟨rfl, rfl⟩
      · exact .inr ⟨rfl, rfl⟩
    · exact .inr ⟨rfl, rfl⟩
  · exact countE_ends s _

set_option maxHeartbeats 1600000 in
theorem parse_any (s : ByteArray) (w : World) (hz : s.size ≤ 4611686018427387904) :
    Calls Try.prog 26 #[.string s] w fun e w' => e = .returned (.tuple #[.int .i64 (sgnR s).1, .int .i64 (sgnR s).2]) ∧ Below w.heap.size w w' := by
  have hmf : ∀ (fn : Fn) (first cap : Array Value) (w : World), (Instr.makeFunc fn first cap).run Try.prog w = .ok (.func fn first cap) w := fun _ _ _ _ => rfl
  have hS := signed_any s
  rcases signE_ends s with ⟨h1, h2⟩ | ⟨h1, h2⟩
  · rw [h2]
    rw [h1] at hS
    go_enter_defers Try.func26, Try.ntmps26
    go_wp2_with (go_at_call 34; refine (hS _ hz).mono ?_; rintro e w1 ⟨rfl, rfl⟩)
    refine leaves_cons (f := 33) (args := #[.pointer (some ⟨w.heap.size, 0, none⟩), .pointer (some ⟨w.heap.size + 1, 0, none⟩)]) (by simp) (by simp [go_sem]) ?_
    refine (pcatch_idle ⟨w.heap.size, 0, none⟩ ⟨w.heap.size + 1, 0, none⟩ _).mono ?_
    rintro e u' w'' ⟨rfl, rfl, rfl⟩
    simp [Leaves, settle, results, Try.results26, go_sem]
    first | exact below_two _ _ | exact (below_two _ _).drew
  · rw [h2]
    rw [h1] at hS
    unfold gaveUp at hS
    go_enter_defers Try.func26, Try.ntmps26
    go_wp2_with (go_at_call 34; refine (hS _ hz).mono ?_; rintro e w1 ⟨rfl, rfl⟩)
    refine leaves_cons (f := 33) (args := #[.pointer (some ⟨w.heap.size, 0, none⟩), .pointer (some ⟨w.heap.size + 1, 0, none⟩)]) (by simp) (by simp [go_sem]) ?_
    refine (pcatch_panicking ⟨w.heap.size, 0, none⟩ ⟨w.heap.size + 1, 0, none⟩ 0 0 _ _ ?_ ?_ ?_ ?_).mono ?_
    · simp [go_sem]
    · simp [go_sem]
    · simp [go_sem]
    · simp [go_sem]
    rintro e u' w'' ⟨rfl, rfl, rfl⟩
    simp [Leaves, settle, results, Try.results26, go_sem]
    first | exact below_two _ _ | exact (below_two _ _).drew

end Go.Proofs.Ytdacnbldgbakeaa
