/- A row of bytes in memory, and the contracts of the two functions that only read one: are two rows the same, and the number whose bytes a row is. No conditions but that the rows lie in memory. -/
import Derived.Test.YtilfmemfnheppaaDoorRows
import Derived.WalkKit
import Derived.WalkSpells
import Derived.WalkLawsBesides
import Derived.Handy
import Derived.Deep.QuietTactic
import Derived.BigQuiet
namespace Go.Proofs.YtilfmemfnheppaaDoor.Hx
open Go.RowKit
set_option linter.unusedVariables false

/-- the i-th number of a row (0 behind its end): kept from the walk's own spellings -/
def nth (xs : List Int) (i : Nat) : Int := xs.getD i 0
theorem nth_eq (xs : List Int) (i : Nat) (h : i < xs.length) : nth xs i = xs[i] := by unfold nth; simp [h]

/-- the slice value v has, in the world w, the bytes xs -/
def Sl (w : World) (v : Value) (xs : List Int) : Prop :=
  ∃ (a : Option Addr) (cap : Nat), v = .slice a xs.length cap ∧ (∀ x ∈ xs, 0 ≤ x ∧ x ≤ 255) ∧ xs.length ≤ 9223372036854775807 ∧ xs.length ≤ cap ∧
    (0 < xs.length → ∃ b off, a = some ⟨b, off, none⟩ ∧ b < w.heap.size ∧ ∀ i, i < xs.length → w.cell? ⟨b, off + i, none⟩ = some (.int .u8 (nth xs i)))

theorem Sl.later {w w' : World} {v : Value} {xs : List Int} (h : Sl w v xs) (hb : Below w.heap.size w w') : Sl w' v xs := by
  obtain ⟨a, cap, hv, hx, hl, hc, hr⟩ := h
  refine ⟨a, cap, hv, hx, hl, hc, fun h0 => ?_⟩
  obtain ⟨b, off, ha, hbs, hcell⟩ := hr h0
  exact ⟨b, off, ha, Nat.lt_of_lt_of_le hbs hb.size, fun i hi => (hb.cell (p := ⟨b, off + i, none⟩) hbs).trans (hcell i hi)⟩

theorem nth_bd {xs : List Int} (h : ∀ x ∈ xs, 0 ≤ x ∧ x ≤ 255) (i : Nat) : 0 ≤ nth xs i ∧ nth xs i ≤ 255 := by
  by_cases hi : i < xs.length
  · rw [nth_eq xs i hi]; exact h _ (List.getElem_mem hi)
  · unfold nth; simp [List.getElem?_eq_none (Nat.le_of_not_lt hi)]

/-- are the two the same? -/
def sameB (xs ys : List Int) : Bool := decide (xs = ys)
theorem sameB_len {xs ys : List Int} (h : xs.length ≠ ys.length) : sameB xs ys = false := by
  unfold sameB; simp; intro e; exact h (by rw [e])
theorem sameB_all {xs ys : List Int} (h : xs.length = ys.length) (ha : ∀ j, j < xs.length → nth xs j = nth ys j) : sameB xs ys = true := by
  unfold sameB; simp
  refine List.ext_getElem h (fun i h1 h2 => ?_)
  rw [← nth_eq xs i h1, ← nth_eq ys i h2]; exact ha i h1
theorem sameB_not {xs ys : List Int} {k : Nat} (h : nth xs k ≠ nth ys k) : sameB xs ys = false := by
  unfold sameB; simp; intro e; exact h (by rw [e])

theorem ret_bool {a b : Bool} (h : a = b) : Ending.returned (.bool a) = .returned (.bool b) := by rw [h]

set_option maxHeartbeats 400000 in
theorem same_any (v u : Value) (xs ys : List Int) (w : World) (hv : Sl w v xs) (hu : Sl w u ys) :
    Calls Tryd.prog 12 #[v, u] w fun e w' => e = .returned (.bool (sameB xs ys)) ∧ Below w.heap.size w w' := by
  obtain ⟨a, cap, rfl, hx, hl, hc, hr⟩ := hv
  obtain ⟨a', cap', rfl, hx', hl', hc', hr'⟩ := hu
  by_cases hlen : xs.length = ys.length
  · have HL : Hid (xs.length = ys.length) := hlen
    have hne : ((xs.length : Int) != (ys.length : Int)) = false := by simp [hlen]
    have h1 : xs.length ≤ ys.length := by omega
    have h2 : ys.length ≤ xs.length := by omega
    clear hlen
    go_enter Tryd.func12, Tryd.ntmps12
    go_wp2
    go_loopw [5] (fun i wr => ∃ k : Nat, k ≤ xs.length ∧ i = .int .i64 k ∧ Below w.heap.size w wr ∧ ∀ j, j < k → nth xs j = nth ys j) (fun i _ => xs.length - (intOf i).toNat)
    case atStart => exact ⟨0, by omega, rfl, Below.refl _ _, fun j h => by omega⟩
    case round =>
      obtain ⟨k, hk, rfl, hb, hall⟩ := hrel
      have HA : Hid (∀ j, j < k → nth xs j = nth ys j) := hall
      clear hall
      by_cases hlt : k < xs.length
      · obtain ⟨b, off, rfl, hbs, hcell⟩ := hr (by omega)
        obtain ⟨b', off', rfl, hbs', hcell'⟩ := hr' (by omega)
        have c1 : wr.cell? ⟨b, off + k, none⟩ = some (.int .u8 (nth xs k)) := (hb.cell (p := ⟨b, off + k, none⟩) hbs).trans (hcell k hlt)
        have c2 : wr.cell? ⟨b', off' + k, none⟩ = some (.int .u8 (nth ys k)) := (hb.cell (p := ⟨b', off' + k, none⟩) hbs').trans (hcell' k (by omega))
        have hlt' : (k : Int) < (ys.length : Int) := by omega
        have hlt'' : (k : Int) < (xs.length : Int) := by omega
        clear hcell hcell' hr hr'
        by_cases he : nth xs k = nth ys k
        · have he' : (nth xs k != nth ys k) = false := by simp [he]
          have HE : Hid (nth xs k = nth ys k) := he
          clear he
          go_wp2
          go_quiet (fail)
          go_wp2
          go_roundw
          case rel =>
            refine ⟨k + 1, by omega, by go_num, ?_, fun j hj => ?_⟩
            · exact below_drewN hb _
            · by_cases hjk : j = k
              · subst hjk; exact HE.out
              · exact HA.out j (by omega)
          case measure => simp [intOf]; omega
        · have he' : (nth xs k != nth ys k) = true := by simp [he]
          have HE : Hid (¬ nth xs k = nth ys k) := he
          clear he
          go_wp2
          go_quiet (fail)
          go_wp2
          go_ret
          exact ⟨ret_bool (sameB_not HE.out).symm, below_drewN hb _⟩
      · go_wp2
        go_ret
        exact ⟨ret_bool (sameB_all HL.out (fun j hj => HA.out j (by omega))).symm, hb⟩
  · have hne : ((xs.length : Int) != (ys.length : Int)) = true := by simp; omega
    go_enter Tryd.func12, Tryd.ntmps12
    go_wp2
    go_ret
    exact ⟨ret_bool (sameB_len hlen).symm, Below.refl _ _⟩

/-- the number whose bytes (the highest first) a row is -/
def numOf (xs : List Int) : Int := xs.foldl (fun n c => n * 256 + c) 0
theorem numOf_take (xs : List Int) (k : Nat) (h : k < xs.length) : numOf (xs.take (k + 1)) = numOf (xs.take k) * 256 + nth xs k := by
  unfold numOf; rw [List.take_succ_eq_append_getElem h, List.foldl_append, nth_eq xs k h]; rfl
theorem numOf_bd {xs : List Int} (h : ∀ x ∈ xs, 0 ≤ x ∧ x ≤ 255) : ∀ k, k ≤ xs.length → 0 ≤ numOf (xs.take k) ∧ numOf (xs.take k) < 256 ^ k := by
  intro k
  induction k with
  | zero => intro _; simp [numOf]
  | succ k ih =>
    intro hk
    have h1 := ih (by omega)
    have h2 := nth_bd h k
    rw [numOf_take xs k (by omega), Int.pow_succ]
    omega
theorem pow_le (k : Nat) (h : k ≤ 7) : (256 : Int) ^ k ≤ 72057594037927936 := by
  match k, h with
  | 0, _ => decide
  | 1, _ => decide
  | 2, _ => decide
  | 3, _ => decide
  | 4, _ => decide
  | 5, _ => decide
  | 6, _ => decide
  | 7, _ => decide

theorem or_join (N c : Int) (h0 : 0 ≤ N) (h1 : N < 72057594037927936) (h2 : 0 ≤ c) (h3 : c ≤ 255) : bits .or .u64 (N * 256) c = N * 256 + c := by
  rw [u64_or _ _ (by omega) (by omega) (by omega) (by omega), nat_join 8 _ _ (by omega) (by omega)]
  omega
theorem ret_num {a b : Int} (h : a = b) : Ending.returned (.tuple #[.int .u64 a, .bool true]) = .returned (.tuple #[.int .u64 b, .bool true]) := by rw [h]

set_option maxHeartbeats 400000 in
theorem num_any (v : Value) (xs : List Int) (w : World) (hv : Sl w v xs) (hs : xs.length ≤ 8) :
    Calls Tryd.prog 19 #[v] w fun e w' => e = .returned (.tuple #[.int .u64 (numOf xs), .bool true]) ∧ Below w.heap.size w w' := by
  obtain ⟨a, cap, rfl, hx, hl, hc, hr⟩ := hv
  have hN := numOf_bd hx
  have HN : Hid (∀ k, k ≤ xs.length → 0 ≤ numOf (xs.take k) ∧ numOf (xs.take k) < 256 ^ k) := hN
  clear hN
  go_enter Tryd.func19, Tryd.ntmps19
  go_wp2
  go_loopw [4, 12] (fun n i wr => ∃ k : Nat, k ≤ xs.length ∧ i = .int .i64 k ∧ Below w.heap.size w wr ∧ n = .int .u64 (numOf (xs.take k))) (fun _ i _ => xs.length - (intOf i).toNat)
  case atStart => exact ⟨0, by omega, rfl, Below.refl _ _, rfl⟩
  case round =>
    obtain ⟨k, hk, rfl, hb, rfl⟩ := hrel
    by_cases hlt : k < xs.length
    · obtain ⟨b, off, rfl, hbs, hcell⟩ := hr (by omega)
      have c1 : wr.cell? ⟨b, off + k, none⟩ = some (.int .u8 (nth xs k)) := (hb.cell (p := ⟨b, off + k, none⟩) hbs).trans (hcell k hlt)
      have hlt'' : (k : Int) < (xs.length : Int) := by omega
      obtain ⟨g1, g2⟩ := HN.out k (by omega)
      have g3 := pow_le k (by omega)
      have g4 : numOf (xs.take k) < 72057594037927936 := by omega
      obtain ⟨n1, n2⟩ := nth_bd hx k
      have HT : Hid (numOf (xs.take (k + 1)) = numOf (xs.take k) * 256 + nth xs k) := numOf_take xs k hlt
      clear hcell hr g2 g3
      generalize numOf (xs.take k) = N at *
      generalize nth xs k = c at *
      go_wp2
      go_roundw
      case rel => exact ⟨k + 1, by omega, by go_num, hb, by rw [HT.out, or_join N c g1 g4 n1 n2]⟩
      case measure => simp [intOf]; omega
    · go_wp2
      go_ret2
      exact ⟨ret_num (by rw [show k = xs.length from by omega, List.take_length]), hb⟩

set_option maxHeartbeats 400000 in
theorem num_no (v : Value) (xs : List Int) (w : World) (hv : Sl w v xs) (hs : 8 < xs.length) :
    Calls Tryd.prog 19 #[v] w fun e w' => e = .returned (.tuple #[.int .u64 0, .bool false]) ∧ Below w.heap.size w w' := by
  obtain ⟨a, cap, rfl, hx, hl, hc, hr⟩ := hv
  go_enter Tryd.func19, Tryd.ntmps19
  go_wp2
  go_ret2
  exact ⟨rfl, Below.refl _ _⟩
end Go.Proofs.YtilfmemfnheppaaDoor.Hx
