/- What is owned as a row of bytes; the bytes of a number; the contract of the program's Big. Conditions: the number is one of 64 bits. -/
import Derived.Test.YtilfmemfnheppaaDoorHB
namespace Go.Proofs.YtilfmemfnheppaaDoor.Hx
open Go.RowKit
set_option linter.unusedVariables false

theorem Tryd.info5 : (Tryd.prog.info? 5).map (fun i => (i.zero, i.size, i.bytes)) = some (some (.int .u8 0), 1, 1) := by kernel_rfl

/-- the numbers of a row, as cells -/
def cells8 (xs : List Int) : List Value := xs.map (Value.int .u8)
theorem cells8_len (xs : List Int) : (cells8 xs).length = xs.length := by simp [cells8]
theorem cells8_at (xs : List Int) (i : Nat) (h : i < xs.length) : (cells8 xs)[i]? = some (.int .u8 (nth xs i)) := by
  rw [nth_eq xs i h]; simp [cells8, h]
theorem cells8_app (xs ys : List Int) : cells8 xs ++ cells8 ys = cells8 (xs ++ ys) := by simp [cells8]
theorem cells8_one (xs : List Int) : ∀ u ∈ cells8 xs, u.oneCell' = true := by
  intro u hu; simp [cells8] at hu; obtain ⟨x, _, rfl⟩ := hu; rfl

/-- the value v owns, among the blocks from base on, the bytes xs -/
def Own (w : World) (base : Nat) (v : Value) (xs : List Int) : Prop := w.ownsRow base 5 1 v xs.length (cells8 xs)

theorem Sl.of_own {w : World} {base : Nat} {v : Value} {xs : List Int} (h : Own w base v xs) (hx : ∀ x ∈ xs, 0 ≤ x ∧ x ≤ 255) (hl : xs.length ≤ 9223372036854775807) : Sl w v xs := by
  obtain ⟨h1, h2⟩ := h
  rcases h2 with ⟨hv, hn⟩ | ⟨g, cap, cur, hv, hg, hh, hnc, hcm, hcs, ht⟩
  · refine ⟨none, 0, ?_, hx, hl, by omega, fun h => by omega⟩
    rw [hn]; exact hv
  · refine ⟨some ⟨g, 0, none⟩, cap, hv, hx, hl, hnc, fun h0 => ⟨g, 0, rfl, ?_, fun i hi => ?_⟩⟩
    · exact (Array.getElem?_eq_some_iff.1 hh).1
    · have hown : w.ownsRow base 5 1 (.slice (some ⟨g, 0, none⟩) xs.length cap) xs.length (cells8 xs) := ⟨h1, .inr ⟨g, cap, cur, rfl, hg, hh, hnc, hcm, hcs, ht⟩⟩
      have := hown.cellAt i (by omega)
      rw [Nat.zero_add, this, cells8_at xs i hi]

/-- n without its k lowest bytes -/
def cutB (n : Int) (k : Nat) : Int := n / 256 ^ k
/-- the k lowest bytes of n, the highest of them first -/
def bigB (n : Int) : Nat → List Int
  | 0 => []
  | k + 1 => (cutB n k % 256) :: bigB n k
theorem bigB_len (n : Int) (k : Nat) : (bigB n k).length = k := by
  induction k with
  | zero => rfl
  | succ k ih => simp [bigB, ih]
theorem bigB_bd (n : Int) (k : Nat) : ∀ x ∈ bigB n k, 0 ≤ x ∧ x ≤ 255 := by
  induction k with
  | zero => simp [bigB]
  | succ k ih =>
    intro x hx
    simp only [bigB, List.mem_cons] at hx
    rcases hx with rfl | hx
    · omega
    · exact ih x hx
theorem cutB_zero (n : Int) : cutB n 0 = n := by simp [cutB]
theorem cutB_succ (n : Int) (k : Nat) : cutB n (k + 1) = cutB n k / 256 := by
  unfold cutB
  rw [Int.pow_succ, Int.ediv_ediv_of_nonneg (Int.pow_nonneg (by omega))]
theorem cutB_bd (n : Int) (k : Nat) (h0 : 0 ≤ n) (h1 : n ≤ 18446744073709551615) : 0 ≤ cutB n k ∧ cutB n k ≤ 18446744073709551615 := by
  induction k with
  | zero => rw [cutB_zero]; omega
  | succ k ih => rw [cutB_succ]; omega

/-- the row of m bytes of which the k lowest are set -/
def rowB (n : Int) (m k : Nat) : List Int := List.replicate (m - k) 0 ++ bigB n k
theorem rowB_len (n : Int) (m k : Nat) (h : k ≤ m) : (rowB n m k).length = m := by simp [rowB, bigB_len]; omega
theorem rowB_full (n : Int) (m : Nat) : rowB n m m = bigB n m := by simp [rowB]
theorem rowB_set (n : Int) (m k : Nat) (h : k < m) : (cells8 (rowB n m k)).set (m - k - 1) (.int .u8 (cutB n k % 256)) = cells8 (rowB n m (k + 1)) := by
  obtain ⟨d, rfl⟩ : ∃ d, m = k + 1 + d := ⟨m - (k + 1), by omega⟩
  have e1 : k + 1 + d - k = d + 1 := by omega
  have e2 : k + 1 + d - (k + 1) = d := by omega
  unfold cells8 rowB
  rw [e1, e2, Nat.add_sub_cancel, ← List.map_set]
  congr 1
  rw [List.replicate_succ', List.append_assoc, List.set_append]
  simp [bigB]

theorem ret_slice {v u : Value} (h : v = u) : Ending.returned v = .returned u := by rw [h]

/-- how many bytes a size counts for -/
def szB (size : Int) : Nat := if size < 1 then 0 else if size ≤ 8 then size.toNat else 8

set_option maxRecDepth 100000 in
set_option maxHeartbeats 1000000 in
theorem big_no (n size : Int) (w : World) (h : size < 1) :
    Calls Tryd.prog 18 #[.int .u64 n, .int .i64 size] w fun e w' => ∃ v, e = .returned v ∧ Sl w' v [] ∧ Below w.heap.size w w' := by
  go_enter Tryd.func18, Tryd.ntmps18
  go_wp2
  go_ret
  exact ⟨_, rfl, ⟨none, 0, rfl, by simp, by simp, by simp, fun h => by simp at h⟩, Below.refl _ _⟩

theorem made_row (m : Nat) (n : Int) : (madeCells (Value.int .u8 0).cells (m * 1)).toList = cells8 (rowB n m 0) := by
  rw [Nat.mul_one]
  show (madeCells #[.int .u8 0] m).toList = _
  rw [toList_madeCells_one]
  simp [cells8, rowB, bigB]

set_option maxRecDepth 100000 in
set_option maxHeartbeats 1000000 in
theorem big_some (n size : Int) (m : Nat) (w : World) (hm1 : 1 ≤ m) (hm8 : m ≤ 8) (hcase : size = m ∨ (m = 8 ∧ 8 < size)) (h0 : 0 ≤ n) (hn : n ≤ 18446744073709551615) :
    Calls Tryd.prog 18 #[.int .u64 n, .int .i64 size] w fun e w' => ∃ v, e = .returned v ∧ Sl w' v (bigB n m) ∧ Below w.heap.size w w' := by
  obtain ⟨i0, hi, hz0, hz1, hz2⟩ := info_parts Tryd.info5
  have hmk : ∀ w1 : World, w1.ownsRow w.heap.size 5 1 (.slice (some ⟨w.heap.size, 0, none⟩) m m) m (madeCells (Value.int .u8 0).cells (m * 1)).toList → Hid (w1.ownsRow w.heap.size 5 1 (.slice (some ⟨w.heap.size, 0, none⟩) m m) m (cells8 (rowB n m 0))) := by
    intro w1 h; rw [made_row m n] at h; exact h
  have h1 : 1 ≤ size := by omega
  have HC : Hid (size = m ∨ (m = 8 ∧ 8 < size)) := hcase
  by_cases h8 : 8 < size
  · have : m = 8 := by omega
    subst this
    clear hcase HC
    go_enter Tryd.func18, Tryd.ntmps18
    go_wp2_with (at_make; refine wpList_make_full _ rfl (.tmp 10) (.tmp 10) 25 rfl w.heap.size 5 i0 (.int .u8 0) 1 Tryd.underlying25 hi hz0 hz1 .i64 .i64 _ _ 8 rfl rfl (by omega) (by omega) (by rw [hz2]; omega) (by unfold maxLen; omega) (Nat.le_refl _) ?_; intro w1 hown hgrow; replace hown := hmk _ hown)
    have hb1 : Below w.heap.size w w1 := (Below.refl _ _).grown hgrow (Nat.le_refl _) (fun k h => by cases h)
    clear hmk hgrow
    go_loopw [0, 6] (fun x i wr => ∃ k : Nat, k ≤ 8 ∧ i = .int .i64 ((8 : Int) - 1 - k) ∧ x = .int .u64 (cutB n k) ∧ wr.ownsRow w.heap.size 5 1 (.slice (some ⟨w.heap.size, 0, none⟩) 8 8) 8 (cells8 (rowB n 8 k)) ∧ Below w.heap.size w wr) (fun _ i _ => (intOf i + 1).toNat)
    case atStart => exact ⟨0, by omega, by go_num, by rw [cutB_zero], hown.out, hb1⟩
    case round =>
      clear hown hb1
      obtain ⟨k, hk, rfl, rfl, hown, hb⟩ := hrel
      obtain ⟨g0, g1⟩ := cutB_bd n k h0 hn
      have HO : Hid (wr.ownsRow w.heap.size 5 1 (.slice (some ⟨w.heap.size, 0, none⟩) 8 8) 8 (cells8 (rowB n 8 k))) := hown
      by_cases hlt : k < 8
      · obtain ⟨d, hd⟩ : ∃ d, d = 8 - k - 1 := ⟨_, rfl⟩
        have hd' : (8 : Int) - 1 - k = (d : Int) := by omega
        have hdm : (d : Int) < (8 : Int) := by omega
        have c1 : wr.cell? ⟨w.heap.size, d, none⟩ = some (.int .u8 (nth (rowB n 8 k) d)) := by
          rw [hown.cellAt d (by omega)]; exact cells8_at _ d (by rw [rowB_len n 8 k hk]; omega)
        have f1 : wr.frozen? ⟨w.heap.size, d, none⟩ = false := hown.frozenAt d
        rw [hd']
        have HD : Hid (d = 8 - k - 1) := hd
        have HD' : Hid ((8 : Int) - 1 - k = (d : Int)) := hd'
        clear hd hd' hown
        go_wp2
        go_roundw
        case rel =>
          have e1 := HD.out
          have e2 := HD'.out
          refine ⟨k + 1, by omega, by go_num, by rw [cutB_succ], ?_, hb.setCell (Nat.le_refl _) _⟩
          rw [← rowB_set n 8 k hlt, ← e1]
          exact (HO.out.stored d _).1
        case measure => simp [intOf]
      · go_wp2
        go_ret
        have e : k = 8 := by omega
        have HO2 := HO.out
        rw [e, rowB_full] at HO2
        refine ⟨_, rfl, Sl.of_own (base := w.heap.size) ?_ (bigB_bd n 8) (by rw [bigB_len]; omega), hb⟩
        unfold Own; rw [bigB_len]; exact HO2
  · have : size = m := by omega
    subst this
    clear hcase HC
    go_enter Tryd.func18, Tryd.ntmps18
    go_wp2_with (at_make; refine wpList_make_full _ rfl (.tmp 10) (.tmp 10) 25 rfl w.heap.size 5 i0 (.int .u8 0) 1 Tryd.underlying25 hi hz0 hz1 .i64 .i64 _ _ m rfl rfl (by omega) (by omega) (by rw [hz2]; omega) (by unfold maxLen; omega) (Nat.le_refl _) ?_; intro w1 hown hgrow; replace hown := hmk _ hown)
    have hb1 : Below w.heap.size w w1 := (Below.refl _ _).grown hgrow (Nat.le_refl _) (fun k h => by cases h)
    clear hmk hgrow
    go_loopw [0, 6] (fun x i wr => ∃ k : Nat, k ≤ m ∧ i = .int .i64 ((m : Int) - 1 - k) ∧ x = .int .u64 (cutB n k) ∧ wr.ownsRow w.heap.size 5 1 (.slice (some ⟨w.heap.size, 0, none⟩) m m) m (cells8 (rowB n m k)) ∧ Below w.heap.size w wr) (fun _ i _ => (intOf i + 1).toNat)
    case atStart => exact ⟨0, by omega, by go_num, by rw [cutB_zero], hown.out, hb1⟩
    case round =>
      clear hown hb1
      obtain ⟨k, hk, rfl, rfl, hown, hb⟩ := hrel
      obtain ⟨g0, g1⟩ := cutB_bd n k h0 hn
      have HO : Hid (wr.ownsRow w.heap.size 5 1 (.slice (some ⟨w.heap.size, 0, none⟩) m m) m (cells8 (rowB n m k))) := hown
      by_cases hlt : k < m
      · obtain ⟨d, hd⟩ : ∃ d, d = m - k - 1 := ⟨_, rfl⟩
        have hd' : (m : Int) - 1 - k = (d : Int) := by omega
        have hdm : (d : Int) < (m : Int) := by omega
        have c1 : wr.cell? ⟨w.heap.size, d, none⟩ = some (.int .u8 (nth (rowB n m k) d)) := by
          rw [hown.cellAt d (by omega)]; exact cells8_at _ d (by rw [rowB_len n m k hk]; omega)
        have f1 : wr.frozen? ⟨w.heap.size, d, none⟩ = false := hown.frozenAt d
        rw [hd']
        have HD : Hid (d = m - k - 1) := hd
        have HD' : Hid ((m : Int) - 1 - k = (d : Int)) := hd'
        clear hd hd' hown
        go_wp2
        go_roundw
        case rel =>
          have e1 := HD.out
          have e2 := HD'.out
          refine ⟨k + 1, by omega, by go_num, by rw [cutB_succ], ?_, hb.setCell (Nat.le_refl _) _⟩
          rw [← rowB_set n m k hlt, ← e1]
          exact (HO.out.stored d _).1
        case measure => simp [intOf]
      · go_wp2
        go_ret
        have e : k = m := by omega
        have HO2 := HO.out
        rw [e, rowB_full] at HO2
        refine ⟨_, rfl, Sl.of_own (base := w.heap.size) ?_ (bigB_bd n m) (by rw [bigB_len]; omega), hb⟩
        unfold Own; rw [bigB_len]; exact HO2

theorem big_any (n size : Int) (w : World) (h0 : 0 ≤ n) (hn : n ≤ 18446744073709551615) :
    Calls Tryd.prog 18 #[.int .u64 n, .int .i64 size] w fun e w' => ∃ v, e = .returned v ∧ Sl w' v (bigB n (szB size)) ∧ Below w.heap.size w w' := by
  unfold szB
  split
  · exact big_no n size w ‹_›
  · split
    · exact big_some n size size.toNat w (by omega) (by omega) (by omega) h0 hn
    · exact big_some n size 8 w (by omega) (by omega) (by omega) h0 hn

theorem Sl.lit (w : World) (xs : List Int) (hx : ∀ x ∈ xs, 0 ≤ x ∧ x ≤ 255) (hl : xs.length ≤ 100) : Sl (w.alloc (.cells (cells8 xs).toArray 5)) (.slice (some ⟨w.heap.size, 0, none⟩) xs.length xs.length) xs := by
  refine Sl.of_own (base := 0) ?_ hx (by omega)
  have := World.ownsRow_lit (base := 0) (e := 5) (size := 1) w (cells8 xs).toArray xs.length (Nat.zero_le _) (by unfold maxLen; omega) (by simp [cells8])
  simpa [Own] using this

/-- one call behind another -/
theorem below_next {w a b : World} (h : Below w.heap.size w a) (k : Below a.heap.size a b) : Below w.heap.size w b := h.trans (k.mono h.size)
/-- a new block -/
theorem below_more {w a : World} (h : Below w.heap.size w a) (o : Obj) : Below w.heap.size w (a.alloc o) := h.alloc h.size o
end Go.Proofs.YtilfmemfnheppaaDoor.Hx
