/- The contracts of the document's own power and Fits. Conditions: the ranges named in each. -/
import Derived.Test.YtbfbhdhffdddeaaDoorPI
import Derived.Laws.AppendOwnNone
namespace Go.Proofs.YtbfbhdhffdddeaaDoor.Pr
open Go.RowKit
set_option linter.unusedVariables false

/-- in the world w the value v is a short row of digits that is worth n -/
def Num (w : World) (v : Value) (n : Int) (l : Nat) : Prop := ∃ xs, Sl w v xs ∧ val xs = n ∧ xs.length ≤ l
theorem Num.later {w w' : World} {v : Value} {n : Int} {l : Nat} (h : Num w v n l) (hb : Below w.heap.size w w') : Num w' v n l := by
  obtain ⟨xs, h1, h2, h3⟩ := h
  exact ⟨xs, h1.later hb, h2, h3⟩

theorem digits_num (n : Nat) (w : World) (hn : n < 18446744073709551616) :
    Calls Tryd.prog 34 #[.int .u64 n] w fun e w' => ∃ v, e = .returned v ∧ Num w' v n 8 ∧ Below w.heap.size w w' := digits_any n w hn
theorem times_num (v u : Value) (a b : Int) (l k : Nat) (w : World) (hv : Num w v a l) (hu : Num w u b k) (hs : l + k ≤ 100) :
    Calls Tryd.prog 44 #[v, u] w fun e w' => ∃ r, e = .returned r ∧ Num w' r (a * b) (l + k) ∧ Below w.heap.size w w' := by
  obtain ⟨xs, h1, h2, h3⟩ := hv
  obtain ⟨ys, g1, g2, g3⟩ := hu
  refine (times_any v u xs ys w h1 g1 (by omega)).mono ?_
  rintro e w' ⟨r, he, ⟨zs, z1, z2, z3⟩, hb⟩
  exact ⟨r, he, ⟨zs, z1, by rw [z2, h2, g2], by omega⟩, hb⟩
theorem most_num (v u : Value) (a b : Int) (l k : Nat) (w : World) (hv : Num w v a l) (hu : Num w u b k) :
    Calls Tryd.prog 35 #[v, u] w fun e w' => e = .returned (.bool (decide (a ≤ b))) ∧ w' = w := by
  obtain ⟨xs, h1, h2, h3⟩ := hv
  obtain ⟨ys, g1, g2, g3⟩ := hu
  have := most_any v u xs ys w h1 g1
  rw [h2, g2] at this
  exact this

set_option maxHeartbeats 400000 in
theorem rpower_two (r : Nat) (w : World) (hr : r < 18446744073709551616) :
    Calls Tryd.prog 36 #[.int .u64 r, .int .i64 2] w fun e w' => ∃ v, e = .returned v ∧ Num w' v ((r : Int) * r) 24 ∧ Below w.heap.size w w' := by
  go_enter Tryd.func36, Tryd.ntmps36
  go_wp2_with fail
  refine (digits_num r _ hr).mono ?_
  rintro e w1 ⟨v1, rfl, hn1, hb1⟩
  go_wp2_with fail
  refine (times_num v1 v1 _ _ 8 8 _ hn1 hn1 (by omega)).mono ?_
  rintro e w2 ⟨v2, rfl, hn2, hb2⟩
  have HN : Hid (Num w2 v2 ((r : Int) * r) (8 + 8)) := hn2
  clear hn1 hn2
  go_wp2
  go_ret
  obtain ⟨zs, z1, z2, z3⟩ := HN.out
  exact ⟨_, rfl, ⟨zs, z1, z2, by omega⟩, below_next hb1 (Nat.le_refl _) hb2⟩

set_option maxHeartbeats 400000 in
theorem rpower_three (r : Nat) (w : World) (hr : r < 18446744073709551616) :
    Calls Tryd.prog 36 #[.int .u64 r, .int .i64 3] w fun e w' => ∃ v, e = .returned v ∧ Num w' v ((r : Int) * r * r) 24 ∧ Below w.heap.size w w' := by
  go_enter Tryd.func36, Tryd.ntmps36
  go_wp2_with fail
  refine (digits_num r _ hr).mono ?_
  rintro e w1 ⟨v1, rfl, hn1, hb1⟩
  go_wp2_with fail
  refine (times_num v1 v1 _ _ 8 8 _ hn1 hn1 (by omega)).mono ?_
  rintro e w2 ⟨v2, rfl, hn2, hb2⟩
  have hn12 := hn1.later hb2
  clear hn1
  have HN1 : Hid (Num w2 v1 (r : Int) 8) := hn12
  have HN2 : Hid (Num w2 v2 ((r : Int) * r) (8 + 8)) := hn2
  clear hn12 hn2
  go_wp2_with fail
  refine (times_num v2 v1 _ _ (8 + 8) 8 _ HN2.out HN1.out (by omega)).mono ?_
  rintro e w3 ⟨v3, rfl, hn3, hb3⟩
  have HN3 : Hid (Num w3 v3 ((r : Int) * r * r) (8 + 8 + 8)) := hn3
  clear hn3
  go_wp2
  go_ret
  exact ⟨_, rfl, HN3.out, below_next (below_next hb1 (Nat.le_refl _) hb2) (Nat.le_refl _) hb3⟩

/-- r^k in plain numbers -/
theorem rpower_any (r k : Nat) (hk : k = 2 ∨ k = 3) (w : World) (hr : r < 18446744073709551616) :
    Calls Tryd.prog 36 #[.int .u64 r, .int .i64 k] w fun e w' => ∃ v, e = .returned v ∧ Num w' v ((r ^ k : Nat) : Int) 24 ∧ Below w.heap.size w w' := by
  rcases hk with rfl | rfl
  · have := rpower_two r w hr
    rw [show ((r ^ 2 : Nat) : Int) = (r : Int) * r from by rw [Nat.pow_two]; simp]
    exact this
  · have := rpower_three r w hr
    rw [show ((r ^ 3 : Nat) : Int) = (r : Int) * r * r from by rw [Nat.pow_succ, Nat.pow_two]; simp]
    exact this
end Go.Proofs.YtbfbhdhffdddeaaDoor.Pr
