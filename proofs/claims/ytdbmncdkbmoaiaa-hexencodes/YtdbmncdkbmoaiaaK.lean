/- The walks of the statements HexBig, HexNums, HexEncodes and HexDecodes. No conditions but that the arguments are values of their types that lie in memory. -/
import Derived.Test.YtdbmncdkbmoaiaaJ
namespace Go.Proofs.Ytdbmncdkbmoaiaa
open Go.RowKit Go.PlainAid
set_option linter.unusedVariables false

theorem sameB_refl (xs : List Int) : sameB xs xs = true := by unfold sameB; simp

/-! ### the bytes of a number, and the number of bytes -/
theorem numOf_cons (x : Int) (xs : List Int) : numOf (x :: xs) = x * 256 ^ xs.length + numOf xs := by
  have h : ∀ (ys : List Int) (a : Int), ys.foldl (fun n c => n * 256 + c) a = a * 256 ^ ys.length + numOf ys := by
    intro ys
    induction ys with
    | nil => intro a; simp [numOf]
    | cons y ys ih =>
      intro a
      rw [List.foldl_cons, ih]
      unfold numOf
      rw [List.foldl_cons, ih (0 * 256 + y)]
      unfold numOf
      simp only [List.length_cons, Int.pow_succ]
      grind
  unfold numOf
  rw [List.foldl_cons, h]
  simp [numOf]
theorem num_key (r q x P : Int) (hp : 0 < P) (r0 : 0 ≤ r) (r1 : r < P) (x0 : 0 ≤ x) (x1 : x ≤ 255) : (x * P + r + q * (P * 256)) % (P * 256) = x * P + r := by
  have b4 : x * P ≤ 255 * P := Int.mul_le_mul_of_nonneg_right x1 (by omega)
  have b5 : 0 ≤ x * P := Int.mul_nonneg x0 (by omega)
  rw [Int.add_mul_emod_self_right]
  exact Int.emod_eq_of_lt (by omega) (by omega)
theorem numOf_big (n : Int) (k : Nat) (h : 0 ≤ n) : numOf (bigB n k) = n % 256 ^ k := by
  induction k with
  | zero => simp [bigB, numOf, Int.emod_one]
  | succ k ih =>
    rw [bigB, numOf_cons, bigB_len, ih]
    unfold cutB
    have e := Int.emod_add_mul_ediv n (256 ^ k)
    have hp : (0 : Int) < 256 ^ k := Int.pow_pos (by omega)
    have e1 := Int.emod_add_mul_ediv (n / 256 ^ k) 256
    rw [Int.pow_succ]
    have e2 : n = (n / 256 ^ k % 256 * 256 ^ k + n % 256 ^ k) + (n / 256 ^ k / 256) * (256 ^ k * 256) := by grind
    have b1 := Int.emod_nonneg n (by omega : (256 : Int) ^ k ≠ 0)
    have b2 := Int.emod_lt_of_pos n hp
    have b3 : 0 ≤ n / 256 ^ k % 256 ∧ n / 256 ^ k % 256 ≤ 255 := by omega
    have e3 := num_key (n % 256 ^ k) (n / 256 ^ k / 256) (n / 256 ^ k % 256) (256 ^ k) hp b1 b2 b3.1 b3.2
    rw [← e2] at e3
    exact e3.symm
theorem bigB_drop (n : Int) (k m : Nat) (h : k ≤ m) : (bigB n m).drop (m - k) = bigB n k := by
  obtain ⟨d, rfl⟩ : ∃ d, m = k + d := ⟨m - k, by omega⟩
  rw [Nat.add_sub_cancel_left]
  induction d with
  | zero => rfl
  | succ d ih => rw [← Nat.add_assoc, bigB, List.drop_succ_cons]; exact ih (by omega)
theorem szB_le (size : Int) : szB size ≤ 8 := by unfold szB; split <;> (try split) <;> omega

theorem Sl.form {w : World} {v : Value} {xs : List Int} (h : Sl w v xs) : ∃ a cap, v = .slice a xs.length cap := by
  obtain ⟨a, cap, hv, _⟩ := h; exact ⟨a, cap, hv⟩

theorem Sl.empty0 (w : World) (a : Option Addr) (cap : Nat) : Sl w (.slice a 0 cap) [] := ⟨a, cap, rfl, by simp, by simp, by simp, fun h => by simp at h⟩
theorem Sl.tail {w : World} {g off cap k : Nat} {n : Int} (hc : ∀ i, i < 8 → w.cell? ⟨g, off + i, none⟩ = some (.int .u8 (nth (bigB n 8) i))) (hk : k ≤ 8) (hg : g < w.heap.size) (hcap : k ≤ cap) :
    Sl w (.slice (some ⟨g, off + (8 - k), none⟩) (8 - (8 - k)) cap) (bigB n k) := by
  refine ⟨_, cap, ?_, bigB_bd n k, by rw [bigB_len]; omega, by rw [bigB_len]; omega, fun _ => ⟨g, off + (8 - k), rfl, hg, fun i hi => ?_⟩⟩
  · rw [bigB_len, show 8 - (8 - k) = k from by omega]
  · rw [bigB_len] at hi
    have := hc (8 - k + i) (by omega)
    rw [← Nat.add_assoc] at this
    rw [this]
    congr 2
    rw [← bigB_drop n k 8 hk]
    unfold nth
    rw [List.getD_eq_getElem?_getD, List.getD_eq_getElem?_getD, List.getElem?_drop]

set_option maxHeartbeats 800000 in
theorem hexbig_walk (n size : Int) (w : World) (h0 : 0 ≤ n) (h1 : n ≤ 18446744073709551615) :
    Calls Try.prog 6 #[.int .u64 n, .int .i64 size] w fun e w' => e = .returned (.bool true) ∧ Below w.heap.size w w' := by
  obtain ⟨k, hk⟩ : ∃ k, k = szB size := ⟨_, rfl⟩
  have hk8 : k ≤ 8 := by rw [hk]; exact szB_le size
  have hnum : numOf (bigB n 8) = n := by rw [numOf_big n 8 h0]; exact Int.emod_eq_of_lt h0 (by omega)
  have hsz8 : szB 8 = 8 := by decide
  have HK : Hid (szB size = k) := hk.symm
  have HN : Hid (numOf (bigB n 8) = n) := hnum
  have H8 : Hid (szB 8 = 8) := hsz8
  clear hk hnum hsz8
  go_enter Try.func6, Try.ntmps6
  go_wp2_with fail
  refine (wakes_any _).mono ?_
  rintro e w1 ⟨rfl, hb1⟩
  go_wp2_with fail
  refine (big_any n size _ h0 h1).mono ?_
  rintro e w2 ⟨v2, rfl, hv2, hb2⟩
  rw [HK.out] at hv2
  have HV2 : Hid (Sl w2 v2 (bigB n k)) := hv2
  clear hv2
  go_wp2_with fail
  refine (big_any n 8 _ h0 h1).mono ?_
  rintro e w3 ⟨v3, rfl, hv3, hb3⟩
  rw [H8.out] at hv3
  have HV3 : Hid (Sl w3 v3 (bigB n 8)) := hv3
  clear hv3
  go_wp2_with fail
  refine (num_any v3 (bigB n 8) _ HV3.out (by rw [bigB_len]; omega)).mono ?_
  rintro e w4 ⟨he, hb4⟩
  rw [HN.out] at he
  subst he
  go_wp2_with fail
  refine (big_any n 8 _ h0 h1).mono ?_
  rintro e w5 ⟨v5, rfl, hv5, hb5⟩
  rw [H8.out] at hv5
  have HV5 : Hid (Sl w5 v5 (bigB n 8)) := hv5
  clear hv5
  go_wp2_with fail
  refine (rbig_any n size _ h0 h1).mono ?_
  rintro e w6 ⟨v6, rfl, hv6, hb6⟩
  rw [HK.out] at hv6
  have b26 : Below w2.heap.size w2 w6 := below_next (below_next (below_next hb3 hb4) hb5) hb6
  have b56 := hb6
  have HV6 : Hid (Sl w6 v6 (bigB n k)) := hv6
  have HV26 : Hid (Sl w6 v2 (bigB n k)) := HV2.out.later b26
  have HV56 : Hid (Sl w6 v5 (bigB n 8)) := HV5.out.later b56
  have bw6 : Hid (Below w.heap.size w w6) := below_next (below_next (below_next (below_next (below_next hb1 hb2) hb3) hb4) hb5) hb6
  clear hv6 hb1 hb2 hb3 hb4 hb5 hb6 b26 b56
  go_wp2_with fail
  refine (same_any v2 v6 (bigB n k) (bigB n k) _ HV26.out HV6.out).mono ?_
  rintro e w7 ⟨he, hb7⟩
  rw [sameB_refl] at he
  subst he
  have hv27 := HV26.out.later hb7
  have hv57 := HV56.out.later hb7
  have bw7 : Hid (Below w.heap.size w w7) := below_next bw6.out hb7
  clear HV2 HV26 HV6 HV3 HV5 HV56 bw6 hb7
  obtain ⟨a2, c2, e2⟩ := hv27.form
  rw [bigB_len] at e2
  subst e2
  obtain ⟨a5, c5, e5, x5, l5, lc5, r5⟩ := hv57
  rw [bigB_len] at e5 lc5 r5
  subst e5
  obtain ⟨g, off, rfl, hg, hcell⟩ := r5 (by omega)
  have HV2 : Hid (Sl w7 (.slice a2 k c2) (bigB n k)) := hv27
  have HC : Hid (∀ i, i < 8 → w7.cell? ⟨g, off + i, none⟩ = some (.int .u8 (nth (bigB n 8) i))) := hcell
  clear hv27 r5 hcell x5 l5
  have hkk : (k : Int) ≤ 8 := by omega
  have hlc : (8 : Int) ≤ (c5 : Int) := by omega
  go_wp2_with fail
  case inr =>
    have hs2 := Sl.tail (w := w7) (cap := c5 - (8 - k)) HC.out hk8 hg (by omega)
    refine (same_any _ _ (bigB n k) (bigB n k) _ HV2.out hs2).mono ?_
    rintro e w8 ⟨he, hb8⟩
    rw [sameB_refl] at he
    subst he
    have bw8 : Below w.heap.size w w8 := below_next bw7.out hb8
    clear hs2 hb8
    go_wp2
    go_ret
    exact ⟨rfl, bw8⟩
  case inl =>
    have hk0 : k = 0 := by omega
    subst hk0
    refine (same_any _ _ (bigB n 0) (bigB n 0) _ HV2.out (Sl.empty0 w7 _ 0)).mono ?_
    rintro e w8 ⟨he, hb8⟩
    rw [sameB_refl] at he
    subst he
    have bw8 : Below w.heap.size w w8 := below_next bw7.out hb8
    clear hb8
    go_wp2
    go_ret
    exact ⟨rfl, bw8⟩
end Go.Proofs.Ytdbmncdkbmoaiaa
