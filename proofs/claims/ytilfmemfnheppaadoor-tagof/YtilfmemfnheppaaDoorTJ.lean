/- A copy of bytes (bytes.Clone). Conditions: nil has no bytes; no more than 700,000 bytes. -/
import Derived.Test.YtilfmemfnheppaaDoorTH
namespace Go.Proofs.YtilfmemfnheppaaDoor
open Go.RowKit Hx
set_option linter.unusedVariables false

theorem eqnil25 (w : World) (a : Option Addr) (n c : Nat) : (binOp .eql 25 (.slice a n c) (.slice none 0 0)).run Tryd.prog w = .ok (.bool a.isNone) w := by
  simp [binOp, run_equal_slice_nil w 25 5 a n c Tryd.underlying25]

set_option maxRecDepth 100000 in
set_option maxHeartbeats 1000000 in
theorem clone_any (v : Value) (xs : List Int) (w : World) (hv : Sl w v xs) (hn : ∀ n c, v = .slice none n c → n = 0 ∧ c = 0) (hsz : xs.length ≤ 700000) :
    Calls Tryd.prog 20 #[v] w fun en w' => ∃ v', en = .returned v' ∧ Hx.Own w' w.heap.size v' xs ∧ Below w.heap.size w w' := by
  obtain ⟨a, n, c, rfl⟩ : ∃ a n c, v = .slice a n c := by obtain ⟨a, c, h, _⟩ := hv; exact ⟨a, _, c, h⟩
  cases a with
  | none =>
    obtain ⟨rfl, rfl⟩ := hn _ _ rfl
    have h0 : xs = [] := by obtain ⟨a, c, h, _⟩ := hv; injection h with _ h _; exact List.eq_nil_of_length_eq_zero h.symm
    subst h0
    clear hn hv
    have e0 := eqnil25 w none 0 0
    simp only [Option.isNone_none] at e0
    go_enter Tryd.func20, Tryd.ntmps20
    go_wp2
    go_ret
    exact ⟨_, rfl, World.ownsRow_nil _ _ _ _, Below.refl _ _⟩
  | some ad =>
    have HV : Hid (Sl w (.slice (some ad) n c) xs) := hv
    clear hv hn
    have e0 := eqnil25 w (some ad) n c
    simp only [Option.isNone_some] at e0
    go_enter Tryd.func20, Tryd.ntmps20
    go_wp2_with (at_builtin; refine wpList_appendS rfl (.tmp 5) (.tmp 6) rfl w.heap.size (.slice (some ⟨w.heap.size, 0, none⟩) 0 0) [] rfl (World.ownsRow_lit w #[] 0 (Nat.le_refl _) (by unfold maxLen; omega) rfl) _ xs rfl (HV.out.later ((Below.refl _ _).alloc (Nat.le_refl _) _)) (fun n c h => by cases h) (by simp; omega) (by simp) ?_; intro v1 w1 own1 grow1)
    go_ret
    rw [List.nil_append] at own1
    exact ⟨_, rfl, own1, ((Below.refl _ _).alloc (Nat.le_refl _) _).grown grow1 (by simp) (fun k h => by simp [Value.ownBlock] at h; omega)⟩
end Go.Proofs.YtilfmemfnheppaaDoor
