/- The contracts of Compare and of the document's Less. No conditions. -/
import Derived.Test.YtgiefgmhjcjabaaDoorVH
import Derived.Deep.RegionHeld3
import Derived.Sort.Grow
namespace Go.Proofs.YtgiefgmhjcjabaaDoor
open Go.RowKit Go.PlainAid Go.Sort
set_option linter.unusedVariables false

/-- how two values compare -/
def cv (x y : Val) : Int := or3 (Lib.compareInt x.1 y.1) (Lib.compareInt x.2.1 y.2.1) (Lib.compareBytes x.2.2.data.toList y.2.2.data.toList)
def RGrow (w : World) (r : Value) (e : Ending) (w' : World) : Prop := e = .returned r ∧ ∃ q os, w' = grow (w.drewN q) os

theorem cells3 (u : World) (g : Nat) (hg : g = u.heap.size) (x y z : Value) (T : TypeId) : (u.alloc (.cells #[x, y, z] T)).cell? ⟨g, 0, none⟩ = some x ∧ (u.alloc (.cells #[x, y, z] T)).cell? ⟨g, 1, none⟩ = some y ∧ (u.alloc (.cells #[x, y, z] T)).cell? ⟨g, 2, none⟩ = some z := by
  subst hg; exact ⟨by simp, by simp, by simp⟩

theorem grew2 (w : World) (a b : Obj) : ∃ q os, (w.alloc a).alloc b = grow (w.drewN q) os := ⟨0, #[a, b], by rw [alloc_eq_grow, alloc_eq_grow, grow_grow]; rfl⟩
theorem grew3 (w : World) (a b c : Obj) : ∃ q os, (((w.alloc a).alloc b).alloc c).drew = grow (w.drewN q) os := ⟨1, #[a, b, c], by rw [alloc_eq_grow, alloc_eq_grow, alloc_eq_grow, grow_grow, grow_grow]; rfl⟩

set_option maxHeartbeats 4000000 in
theorem compare_ne (k n k' n' : Int) (s s' : ByteArray) (w : World) (hne : eqvB k n s k' n' s' = false) :
    Calls Tryd.prog 37 #[.agg #[.int .i64 k, .int .i64 n, .string s], .agg #[.int .i64 k', .int .i64 n', .string s']] w fun e w' => RGrow w (.int .i64 (or3 (Lib.compareInt k k') (Lib.compareInt n n') (Lib.compareBytes s.data.toList s'.data.toList))) e w' := by
  have hq := eqV k n k' n' s s'
  rw [hne] at hq
  have hg := eqgV
  have h3 := fun w => cmp3_any k k' w
  have h2 := fun w => cmp2_any n n' w
  have h9 := fun w => cmp9_any s s' w
  generalize Lib.compareInt k k' = a at *
  generalize Lib.compareInt n n' = b at *
  generalize Lib.compareBytes s.data.toList s'.data.toList = c at *
  have hO := fun p w h0 h1 h2 => or_any p a b c w h0 h1 h2
  generalize or3 a b c = r at *
  go_enter Tryd.func37, Tryd.ntmps37
  go_wp2
  clear hq hg hne
  go_region_held3 (fun w' => w'.cell? ⟨w.heap.size, 0, none⟩ = some (.int .i64 k) ∧ w'.cell? ⟨w.heap.size, 1, none⟩ = some (.int .i64 n) ∧ w'.cell? ⟨w.heap.size, 2, none⟩ = some (.string s) ∧ w'.cell? ⟨w.heap.size + 1, 0, none⟩ = some (.int .i64 k') ∧ w'.cell? ⟨w.heap.size + 1, 1, none⟩ = some (.int .i64 n') ∧ w'.cell? ⟨w.heap.size + 1, 2, none⟩ = some (.string s')) (go_keep)
    (first | (go_at_call 44; refine (h3 _).mono ?_; rintro e w1 ⟨rfl, rfl⟩) | (go_at_call 45; refine (h2 _).mono ?_; rintro e w1 ⟨rfl, rfl⟩) | (go_at_call 46; refine (h9 _).mono ?_; rintro e w1 ⟨rfl, rfl⟩) | (go_at_call 43; refine (hO _ _ (by simp; exact (cells3 _ _ (by simp) _ _ _ _).1) (by simp; exact (cells3 _ _ (by simp) _ _ _ _).2.1) (by simp; exact (cells3 _ _ (by simp) _ _ _ _).2.2)).mono ?_; rintro e w1 ⟨rfl, rfl⟩))
  go_wp2
  go_ret
  exact ⟨rfl, grew3 _ _ _ _⟩

theorem compare_eq (k n k' n' : Int) (s s' : ByteArray) (w : World) (hne : eqvB k n s k' n' s' = true) :
    Calls Tryd.prog 37 #[.agg #[.int .i64 k, .int .i64 n, .string s], .agg #[.int .i64 k', .int .i64 n', .string s']] w fun e w' => RGrow w (.int .i64 0) e w' := by
  have hq := eqV k n k' n' s s'
  rw [hne] at hq
  have hg := eqgV
  go_enter Tryd.func37, Tryd.ntmps37
  go_wp2
  go_ret
  exact ⟨rfl, grew2 _ _ _⟩

/-- is a value ahead of another? -/
def ltV (x y : Val) : Bool := if x.1 = y.1 then (if x.2.1 = y.2.1 then Op.bytesLess x.2.2.toList y.2.2.toList else decide (x.2.1 < y.2.1)) else decide (x.1 < y.1)

theorem less_any (k n k' n' : Int) (s s' : ByteArray) (w : World) :
    Calls Tryd.prog 33 #[.agg #[.int .i64 k, .int .i64 n, .string s], .agg #[.int .i64 k', .int .i64 n', .string s']] w fun e w' => RGrow w (.bool (ltV (k, n, s) (k', n', s'))) e w' := by
  by_cases h1 : k = k'
  · by_cases h2 : n = n'
    · have e : ltV (k, n, s) (k', n', s') = Op.bytesLess s.toList s'.toList := by unfold ltV; rw [if_pos h1, if_pos h2]
      rw [e]
      subst h1 h2
      go_enter Tryd.func33, Tryd.ntmps33
      go_wp2
      go_ret
      exact ⟨rfl, grew2 _ _ _⟩
    · have e : ltV (k, n, s) (k', n', s') = decide (n < n') := by unfold ltV; rw [if_pos h1, if_neg h2]
      have h2' : (n == n') = false := by simp [h2]
      rw [e]
      subst h1
      go_enter Tryd.func33, Tryd.ntmps33
      go_wp2
      go_ret
      exact ⟨rfl, grew2 _ _ _⟩
  · have e : ltV (k, n, s) (k', n', s') = decide (k < k') := by unfold ltV; rw [if_neg h1]
    have h1' : (k == k') = false := by simp [h1]
    rw [e]
    go_enter Tryd.func33, Tryd.ntmps33
    go_wp2
    go_ret
    exact ⟨rfl, grew2 _ _ _⟩
end Go.Proofs.YtgiefgmhjcjabaaDoor
