/- What a row of digits is worth under append and store, and the contract of the document's own digits. Conditions: the number is one of 64 bits. -/
import Derived.Test.YtbfbhdhffdddeaaDoorPG
namespace Go.Proofs.YtbfbhdhffdddeaaDoor.Pr
open Go.RowKit
set_option linter.unusedVariables false
set_option linter.unusedSimpArgs false

theorem Tryd.info3 : (Tryd.prog.info? 3).map (fun i => (i.zero, i.size, i.bytes)) = some (some (.int .i64 0), 1, 8) := by kernel_rfl

/-- the numbers of a row, as cells -/
def cellsI (xs : List Int) : List Value := xs.map (Value.int .i64)
theorem cellsI_len (xs : List Int) : (cellsI xs).length = xs.length := by simp [cellsI]
theorem cellsI_at (xs : List Int) (i : Nat) (h : i < xs.length) : (cellsI xs)[i]? = some (.int .i64 (nth xs i)) := by
  rw [nth_eq xs i h]; simp [cellsI, h]
theorem cellsI_app (xs ys : List Int) : cellsI xs ++ cellsI ys = cellsI (xs ++ ys) := by simp [cellsI]
theorem cellsI_one (xs : List Int) : ∀ u ∈ cellsI xs, u.oneCell' = true := by
  intro u hu; simp [cellsI] at hu; obtain ⟨x, _, rfl⟩ := hu; rfl
theorem cellsI_set (xs : List Int) (i : Nat) (x : Int) : (cellsI xs).set i (.int .i64 x) = cellsI (xs.set i x) := by
  unfold cellsI; rw [List.map_set]

/-- the value v owns, among the blocks from base on, the numbers xs -/
def OwnI (w : World) (base : Nat) (v : Value) (xs : List Int) : Prop := w.ownsRow base 3 1 v xs.length (cellsI xs)

theorem Sl.of_own {w : World} {base : Nat} {v : Value} {xs : List Int} (h : OwnI w base v xs) (hx : Dg xs) (hl : xs.length ≤ 100) : Sl w v xs := by
  obtain ⟨h1, h2⟩ := h
  rcases h2 with ⟨hv, hn⟩ | ⟨g, cap, cur, hv, hg, hh, hnc, hcm, hcs, ht⟩
  · refine ⟨none, 0, ?_, hx, hl, by omega, fun h => by omega⟩
    rw [hn]; exact hv
  · refine ⟨some ⟨g, 0, none⟩, cap, hv, hx, hl, hnc, fun h0 => ⟨g, 0, rfl, ?_, fun i hi => ?_⟩⟩
    · exact (Array.getElem?_eq_some_iff.1 hh).1
    · have hown : w.ownsRow base 3 1 (.slice (some ⟨g, 0, none⟩) xs.length cap) xs.length (cellsI xs) := ⟨h1, .inr ⟨g, cap, cur, rfl, hg, hh, hnc, hcm, hcs, ht⟩⟩
      have := hown.cellAt i (by omega)
      rw [Nat.zero_add, this, cellsI_at xs i hi]

theorem val_app (xs ys : List Int) : val (xs ++ ys) = val xs + 256 ^ xs.length * val ys := by
  induction xs with
  | nil => simp [val]
  | cons x xs ih =>
    rw [List.cons_append, val, val, ih, List.length_cons, Int.pow_succ]
    simp only [Int.mul_add, Int.add_mul, Int.mul_sub, Int.sub_mul, Int.mul_assoc, Int.mul_comm, Int.mul_left_comm] at *; omega
theorem val_set (xs : List Int) : ∀ (i : Nat) (x : Int), i < xs.length → val (xs.set i x) = val xs + 256 ^ i * (x - nth xs i) := by
  induction xs with
  | nil => intro i x h; simp at h
  | cons y xs ih =>
    intro i x h
    cases i with
    | zero => simp [val, nth]; omega
    | succ i =>
      have := ih i x (by simp at h; omega)
      have e : nth (y :: xs) (i + 1) = nth xs i := by simp [nth]
      rw [List.set_cons_succ, val, val, this, e, Int.pow_succ]
      simp only [Int.mul_add, Int.add_mul, Int.mul_sub, Int.sub_mul, Int.mul_assoc, Int.mul_comm, Int.mul_left_comm] at *; omega
theorem val_take (xs : List Int) (k : Nat) (h : k < xs.length) : val (xs.take (k + 1)) = val (xs.take k) + 256 ^ k * nth xs k := by
  rw [List.take_succ_eq_append_getElem h, val_app, List.length_take, Nat.min_eq_left (by omega), nth_eq xs k h]
  simp [val]
theorem val_zeros (n : Nat) : val (List.replicate n 0) = 0 := by
  induction n with
  | zero => rfl
  | succ n ih => rw [List.replicate_succ, val, ih]; rfl
theorem val_nonneg {xs : List Int} (h : Dg xs) : 0 ≤ val xs := by
  induction xs with
  | nil => simp [val]
  | cons x xs ih =>
    have h1 := h x (by simp)
    have h2 := ih (fun y hy => h y (by simp [hy]))
    rw [val]; omega

theorem one_new (w : World) (x : Value) (t : TypeId) : ∀ j u, [x][j]? = some u → (w.alloc (.cells #[x] t)).cell? ((⟨w.heap.size, 0, none⟩ : Addr).add j) = some u := by
  intro j u h
  match j, h with
  | 0, h => simp at h; subst h; simp [Addr.add]

theorem dg_snoc {xs : List Int} (h : Dg xs) (x : Int) (h0 : 0 ≤ x) (h1 : x ≤ 255) : Dg (xs ++ [x]) := by
  intro y hy
  rw [List.mem_append] at hy
  rcases hy with hy | hy
  · exact h y hy
  · simp at hy; omega

/-- what the digits that are told, and what is left, are worth -/
def Split (n m : Nat) (xs : List Int) : Prop := Dg xs ∧ val xs + 256 ^ xs.length * (m : Int) = n

theorem split_len {n m : Nat} {xs : List Int} (h : Split n m xs) (hm : 0 < m) (hn : n < 18446744073709551616) : xs.length < 8 := by
  have h0 := val_nonneg h.1
  have h1 := h.2
  apply Classical.byContradiction
  intro hl
  have h2 : (256 : Int) ^ 8 ≤ 256 ^ xs.length := by
    have := Int.ofNat_le.2 (Nat.pow_le_pow_right (n := 256) (by omega) (show 8 ≤ xs.length by omega))
    rw [Int.natCast_pow, Int.natCast_pow] at this
    exact this
  have h3 : (256 : Int) ^ xs.length * 1 ≤ 256 ^ xs.length * m := Int.mul_le_mul_of_nonneg_left (by omega) (by omega)
  have h4 : (256 : Int) ^ 8 = 18446744073709551616 := by decide
  omega

theorem split_step {n m : Nat} {xs : List Int} (h : Split n m xs) : Split n (m / 256) (xs ++ [(m : Int) % 256]) := by
  refine ⟨dg_snoc h.1 _ (by omega) (by omega), ?_⟩
  have h1 := h.2
  rw [val_app, List.length_append, show [(m : Int) % 256].length = 1 from rfl, Int.pow_succ]
  have e : val [(m : Int) % 256] = (m : Int) % 256 := by simp [val]
  rw [e]
  have e2 : (m : Int) = 256 * ((m / 256 : Nat) : Int) + (m : Int) % 256 := by omega
  generalize ((m / 256 : Nat) : Int) = q at *
  generalize (m : Int) % 256 = r at *
  rw [e2] at h1
  simp only [Int.mul_add, Int.add_mul, Int.mul_sub, Int.sub_mul, Int.mul_assoc, Int.mul_comm, Int.mul_left_comm] at *; omega

theorem step_dig {w1 : World} {base : Nat} {v : Value} {xs : List Int} {x : Int}
    (hown : w1.ownsRow base 3 1 v (xs.length + 1) (cellsI xs ++ [.int .i64 x])) : OwnI w1 base v (xs ++ [x]) := by
  unfold OwnI
  rw [← cellsI_app, List.length_append]
  exact hown

set_option maxHeartbeats 600000 in
theorem digits_any (n : Nat) (w : World) (hn : n < 18446744073709551616) :
    Calls Tryd.prog 34 #[.int .u64 n] w fun e w' => ∃ v, e = .returned v ∧ (∃ xs, Sl w' v xs ∧ val xs = n ∧ xs.length ≤ 8) ∧ Below w.heap.size w w' := by
  obtain ⟨i0, hi, hz0, hz1, hz2⟩ := info_parts Tryd.info3
  go_enter Tryd.func34, Tryd.ntmps34
  go_wp2
  go_loopw [0, 3] (fun x v wr => ∃ (m : Nat) (xs : List Int), m ≤ n ∧ x = .int .u64 m ∧ Hid (OwnI wr w.heap.size v xs) ∧ Hid (Split n m xs) ∧ xs.length ≤ 8 ∧ Below w.heap.size w wr) (fun x _ _ => (intOf x).toNat)
  case atStart => exact ⟨n, [], by omega, rfl, World.ownsRow_nil _ _ _ _, (show Split n n [] from ⟨fun x h => (by cases h), by simp [val]⟩), by simp, Below.refl _ _⟩
  case round =>
    obtain ⟨m, xs, hm, rfl, HO, HS, hl8, hb⟩ := hrel
    by_cases h0 : 0 < m
    · have hlen := split_len HS.out h0 hn
      have hsz := hb.size
      have H2 : Hid (Split n (m / 256) (xs ++ [(m : Int) % 256])) := split_step HS.out
      have h0' : (0 : Int) < (m : Int) := by omega
      go_wp2_with (at_builtin; refine wpList_append_own _ rfl (.tmp 6) (.tmp 10) 62 rfl w.heap.size 3 i0 (.int .i64 0) 1 8 Tryd.underlying62 hi hz0 hz1 hz2 rfl (by decide) u3 xs.length (cellsI xs) rfl (by exact HO.out.alloc _) ⟨wr.heap.size, 0, none⟩ 1 1 [.int .i64 ((m : Int) % 256)] rfl rfl (one_new wr _ 3) (by simp [Value.oneCell']) (by unfold maxLen; omega) (by omega) (by simp; omega) ?_; intro v' w1 hown' hgrow _)
      have hb1 : Below w.heap.size w w1 := (hb.alloc hsz (.cells #[.int .i64 ((m : Int) % 256)] 3)).grown hgrow (by simp; omega) (fun q h => (World.ownsRow.lt HO.out q h).1)
      have HO1 : Hid (OwnI w1 w.heap.size v' (xs ++ [(m : Int) % 256])) := step_dig hown'
      clear hown' hgrow
      go_roundw
      case rel => exact ⟨m / 256, xs ++ [(m : Int) % 256], by omega, by go_num, HO1.out, H2, by simp; omega, hb1⟩
      case measure => simp [intOf]; omega
    · have hm0 : m = 0 := by omega
      subst hm0
      go_wp2
      go_ret
      have hs := HS.out
      exact ⟨_, rfl, ⟨xs, Sl.of_own HO.out hs.1 (by omega), by have := hs.2; simpa using this, hl8⟩, hb⟩
end Go.Proofs.YtbfbhdhffdddeaaDoor.Pr
