/- The primes in a row, and the contract of the document's own Nth: the i-th prime. No conditions. -/
import Derived.Test.YtilfmemfnheppaaDoorPB
namespace Go.Proofs.YtilfmemfnheppaaDoor.Pr
open Go.RowKit
set_option linter.unusedVariables false

/-- the primes below n, in their order -/
def upTo (n : Nat) : List Int := ((List.range n).map Int.ofNat).filter isB

theorem upTo_yes (n : Nat) (h : isB n = true) : upTo (n + 1) = upTo n ++ [(n : Int)] := by
  unfold upTo
  rw [List.range_succ, List.map_append, List.filter_append]
  congr 1
  simp [h]
theorem upTo_no (n : Nat) (h : isB n = false) : upTo (n + 1) = upTo n := by
  unfold upTo
  rw [List.range_succ, List.map_append, List.filter_append]
  simp [h]
theorem upTo_len (n : Nat) : (upTo n).length ≤ n := by
  unfold upTo
  refine Nat.le_trans (List.length_filter_le _ _) ?_
  simp
theorem upTo_pre (n d : Nat) : upTo n <+: upTo (n + d) := by
  induction d with
  | zero => exact List.prefix_refl _
  | succ d ih =>
    refine ih.trans ?_
    cases h : isB ((n + d : Nat) : Int)
    · rw [show n + (d + 1) = n + d + 1 from rfl, upTo_no _ h]; exact List.prefix_refl _
    · rw [show n + (d + 1) = n + d + 1 from rfl, upTo_yes _ h]; exact List.prefix_append _ _

/-- the i-th number of a row (0 behind its end): kept from the walk's own spellings -/
def nth (xs : List Int) (i : Nat) : Int := xs.getD i 0
theorem nth_eq (xs : List Int) (i : Nat) (h : i < xs.length) : nth xs i = xs[i] := by unfold nth; simp [h]
theorem nth_pre {xs ys : List Int} (h : xs <+: ys) (i : Nat) (hi : i < xs.length) : nth ys i = nth xs i := by
  obtain ⟨zs, rfl⟩ := h
  rw [nth_eq _ i hi, nth_eq _ i (by rw [List.length_append]; omega), List.getElem_append_left hi]

theorem nth_upTo (n m i : Nat) (hn : i < (upTo n).length) (hm : i < (upTo m).length) : nth (upTo n) i = nth (upTo m) i := by
  rcases Nat.le_total n m with h | h
  · obtain ⟨d, rfl⟩ : ∃ d, m = n + d := ⟨m - n, by omega⟩
    exact (nth_pre (upTo_pre n d) i hn).symm
  · obtain ⟨d, rfl⟩ : ∃ d, n = m + d := ⟨n - m, by omega⟩
    exact nth_pre (upTo_pre m d) i hm

/-- a test for small numbers, quick to reckon -/
def smB (n : Nat) : Bool := decide (2 ≤ n) && (List.range 24).all (fun d => decide (d ≤ 1) || decide (n < d * d) || decide (n % d ≠ 0))
theorem smB_eq (n : Nat) (h : n < 576) : isB n = smB n := by
  rw [Bool.eq_iff_iff, isB_iff]
  unfold smB
  simp only [Bool.and_eq_true, List.all_eq_true, List.mem_range, Bool.or_eq_true, decide_eq_true_iff]
  constructor
  · rintro ⟨h1, h2, h3⟩
    refine ⟨by omega, fun d hd => ?_⟩
    by_cases hd1 : d ≤ 1
    · exact .inl (.inl hd1)
    by_cases hdd : n < d * d
    · exact .inl (.inr hdd)
    · refine .inr ?_
      have hle : d * d ≤ n := by omega
      have := h3 d (by omega) (by exact_mod_cast hle)
      intro e
      apply this
      have : ((n % d : Nat) : Int) = 0 := by rw [e]; rfl
      simpa using this
  · rintro ⟨h1, h2⟩
    refine ⟨by omega, by omega, fun d hd hdd => ?_⟩
    have hd24 : d < 24 := by
      apply Classical.byContradiction
      intro hn
      have := sq_mono (a := 24) (b := d) (by omega) (by omega)
      omega
    obtain ⟨e, rfl⟩ : ∃ e : Nat, d = e := ⟨d.toNat, by omega⟩
    have hee : e * e ≤ n := by exact_mod_cast hdd
    rcases h2 e (by omega) with (h | h) | h
    · omega
    · omega
    · intro hz
      apply h
      have : ((n % e : Nat) : Int) = ((0 : Nat) : Int) := by simpa using hz
      exact_mod_cast this

theorem upTo_small (n : Nat) (h : n ≤ 576) : upTo n = ((List.range n).filter smB).map Int.ofNat := by
  unfold upTo
  rw [List.filter_map]
  congr 1
  refine List.filter_congr (fun x hx => ?_)
  simp only [List.mem_range] at hx
  exact smB_eq x (by omega)

theorem upTo_hundred : (upTo 542).length = 100 := by
  rw [upTo_small 542 (by omega), List.length_map]
  decide +kernel

/-- the i-th prime, from 0 on; 0, if i isn't 0 to 99 -/
def pr (i : Int) : Int := if 0 ≤ i ∧ i < 100 then nth (upTo 542) i.toNat else 0

theorem pr_at (n i : Nat) (hi : i < 100) (h : i < (upTo n).length) : pr i = nth (upTo n) i := by
  unfold pr
  rw [if_pos (by omega)]
  rw [nth_upTo n 542 i h (by rw [upTo_hundred]; exact hi)]
  simp

theorem ret_pr {i : Nat} {N : Nat} (hi : i < 100) (hb : isB N = true) (hk : (upTo N).length = i) : pr i = N := by
  have hl : (upTo (N + 1)).length = i + 1 := by rw [upTo_yes N hb, List.length_append, hk]; rfl
  rw [pr_at (N + 1) i hi (by omega), nth_eq _ i (by omega)]
  simp only [upTo_yes N hb]
  rw [List.getElem_append_right (by omega)]
  simp
end Go.Proofs.YtilfmemfnheppaaDoor.Pr
