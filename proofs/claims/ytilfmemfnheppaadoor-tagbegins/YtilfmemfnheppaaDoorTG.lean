/- Frames of parts: that a frame tells its parts again, and what is no frame. Plain mathematics. No conditions but sizes. -/
import Derived.Test.YtilfmemfnheppaaDoorTA
namespace Go.Proofs.YtilfmemfnheppaaDoor
open Go.RowKit Hx
set_option linter.unusedVariables false

theorem numOf_cons (x : Int) (xs : List Int) : numOf (x :: xs) = x * 256 ^ xs.length + numOf xs := by
  have h : ∀ (ys : List Int) (a : Int), ys.foldl (fun n c => n * 256 + c) a = a * 256 ^ ys.length + numOf ys := by
    intro ys
    induction ys with
    | nil => intro a; simp [numOf]
    | cons y ys ih =>
      intro a
      rw [List.foldl_cons, ih]
      unfold numOf
      rw [List.foldl_cons, ih (0 * 256 + y)]
      unfold numOf
      simp only [List.length_cons, Int.pow_succ]
      grind
  unfold numOf
  rw [List.foldl_cons, h]
  simp [numOf]
theorem num_key (r q x P : Int) (hp : 0 < P) (r0 : 0 ≤ r) (r1 : r < P) (x0 : 0 ≤ x) (x1 : x ≤ 255) : (x * P + r + q * (P * 256)) % (P * 256) = x * P + r := by
  have b4 : x * P ≤ 255 * P := Int.mul_le_mul_of_nonneg_right x1 (by omega)
  have b5 : 0 ≤ x * P := Int.mul_nonneg x0 (by omega)
  rw [Int.add_mul_emod_self_right]
  exact Int.emod_eq_of_lt (by omega) (by omega)
theorem numOf_big (n : Int) (k : Nat) (h : 0 ≤ n) : numOf (bigB n k) = n % 256 ^ k := by
  induction k with
  | zero => simp [bigB, numOf, Int.emod_one]
  | succ k ih =>
    rw [bigB, numOf_cons, bigB_len, ih]
    unfold cutB
    have e := Int.emod_add_mul_ediv n (256 ^ k)
    have hp : (0 : Int) < 256 ^ k := Int.pow_pos (by omega)
    have e1 := Int.emod_add_mul_ediv (n / 256 ^ k) 256
    rw [Int.pow_succ]
    have e2 : n = (n / 256 ^ k % 256 * 256 ^ k + n % 256 ^ k) + (n / 256 ^ k / 256) * (256 ^ k * 256) := by grind
    have b1 := Int.emod_nonneg n (by omega : (256 : Int) ^ k ≠ 0)
    have b2 := Int.emod_lt_of_pos n hp
    have b3 : 0 ≤ n / 256 ^ k % 256 ∧ n / 256 ^ k % 256 ≤ 255 := by omega
    have e3 := num_key (n % 256 ^ k) (n / 256 ^ k / 256) (n / 256 ^ k % 256) (256 ^ k) hp b1 b2 b3.1 b3.2
    rw [← e2] at e3
    exact e3.symm

theorem numOf_all {xs : List Int} (h : ∀ x ∈ xs, 0 ≤ x ∧ x ≤ 255) : 0 ≤ numOf xs ∧ numOf xs < 256 ^ xs.length := by
  have := numOf_bd h xs.length (Nat.le_refl _)
  rw [List.take_length] at this
  exact this
theorem split_key (P x y r s : Int) (hp : 0 < P) (r0 : 0 ≤ r) (r1 : r < P) (s0 : 0 ≤ s) (s1 : s < P) (e : x * P + r = y * P + s) : x = y ∧ r = s := by
  have h1 : (x * P + r) / P = x := by rw [Int.add_comm, Int.add_mul_ediv_right _ _ (by omega), Int.ediv_eq_zero_of_lt r0 r1]; omega
  have h2 : (y * P + s) / P = y := by rw [Int.add_comm, Int.add_mul_ediv_right _ _ (by omega), Int.ediv_eq_zero_of_lt s0 s1]; omega
  have hxy : x = y := by rw [← h1, ← h2, e]
  subst hxy
  exact ⟨rfl, by omega⟩
theorem numOf_inj : ∀ (xs ys : List Int), (∀ x ∈ xs, 0 ≤ x ∧ x ≤ 255) → (∀ x ∈ ys, 0 ≤ x ∧ x ≤ 255) → xs.length = ys.length → numOf xs = numOf ys → xs = ys
  | [], [], _, _, _, _ => rfl
  | [], y :: ys, _, _, h, _ => by simp at h
  | x :: xs, [], _, _, h, _ => by simp at h
  | x :: xs, y :: ys, hx, hy, hl, he => by
    have hl' : xs.length = ys.length := by simpa using hl
    have hx' : ∀ z ∈ xs, 0 ≤ z ∧ z ≤ 255 := fun z hz => hx z (List.mem_cons_of_mem _ hz)
    have hy' : ∀ z ∈ ys, 0 ≤ z ∧ z ≤ 255 := fun z hz => hy z (List.mem_cons_of_mem _ hz)
    rw [numOf_cons, numOf_cons, hl'] at he
    have b1 := numOf_all hx'
    have b2 := numOf_all hy'
    rw [hl'] at b1
    obtain ⟨e1, e2⟩ := split_key _ _ _ _ _ (Int.pow_pos (by omega)) b1.1 b1.2 b2.1 b2.2 he
    rw [e1, numOf_inj xs ys hx' hy' hl' e2]
theorem bigB_num {xs : List Int} (h : ∀ x ∈ xs, 0 ≤ x ∧ x ≤ 255) : bigB (numOf xs) xs.length = xs := by
  have b := numOf_all h
  refine numOf_inj _ _ (bigB_bd _ _) h (bigB_len _ _) ?_
  rw [numOf_big _ _ b.1, Int.emod_eq_of_lt b.1 b.2]

/-- the frame of parts -/
def frameB : List (List Int) → List Int
  | [] => []
  | p :: ps => bigB p.length 8 ++ (p ++ frameB ps)
theorem frameB_app (ps qs : List (List Int)) : frameB (ps ++ qs) = frameB ps ++ frameB qs := by
  induction ps with
  | nil => rfl
  | cons p ps ih => simp [frameB, ih]
theorem frameB_one (p : List Int) : frameB [p] = bigB p.length 8 ++ p := by simp [frameB]
theorem frameB_snoc (ps : List (List Int)) (p : List Int) : frameB (ps ++ [p]) = (frameB ps ++ bigB p.length 8) ++ p := by
  rw [frameB_app, frameB_one, List.append_assoc]
theorem num8 (n : Nat) (h : n ≤ 9223372036854775807) : numOf (bigB n 8) = n := by
  rw [numOf_big _ _ (by omega)]
  have : (256 : Int) ^ 8 = 18446744073709551616 := by decide
  rw [this]; omega
theorem big8_inj (m n : Nat) (hm : m ≤ 9223372036854775807) (hn : n ≤ 9223372036854775807) (h : bigB m 8 = bigB n 8) : m = n := by
  have e := congrArg numOf h
  rw [num8 m hm, num8 n hn] at e
  omega
theorem big8_num {xs : List Int} (h : ∀ x ∈ xs, 0 ≤ x ∧ x ≤ 255) (hl : xs.length = 8) : bigB (numOf xs) 8 = xs := by
  have := bigB_num h
  rwa [hl] at this

/-- unlike parts have unlike frames -/
theorem frame_inj : ∀ (ps qs : List (List Int)), (frameB ps).length ≤ 9223372036854775807 → frameB ps = frameB qs → ps = qs
  | [], [], _, _ => rfl
  | [], q :: qs, _, h => by
    have := congrArg List.length h
    simp [frameB, bigB_len] at this
    omega
  | p :: ps, [], _, h => by
    have := congrArg List.length h
    simp [frameB, bigB_len] at this
  | p :: ps, q :: qs, hl, h => by
    have hl2 : (frameB (q :: qs)).length ≤ 9223372036854775807 := by rw [← h]; exact hl
    simp only [frameB, List.length_append, bigB_len] at hl hl2
    simp only [frameB] at h
    obtain ⟨h1, h2⟩ := List.append_inj h (by rw [bigB_len, bigB_len])
    have e := big8_inj _ _ (by omega) (by omega) h1
    obtain ⟨h3, h4⟩ := List.append_inj h2 e
    rw [h3, frame_inj ps qs (by omega) h4]

/-- what is the frame of no parts -/
theorem frame_bad {xs : List Int} (h0 : 0 < xs.length) (hl : xs.length ≤ 9223372036854775807) (h : xs.length < 8 ∨ (xs.length : Int) - 8 < numOf (xs.take 8)) (ps : List (List Int)) : frameB ps ≠ xs := by
  intro e
  match ps, e with
  | [], e => subst e; simp [frameB] at h0
  | p :: ps, e =>
    subst e
    simp only [frameB, List.length_append, bigB_len] at h h0 hl
    rcases h with h | h
    · omega
    · rw [List.take_append_of_le_length (by rw [bigB_len]; omega), List.take_of_length_le (by rw [bigB_len]; omega), num8 _ (by omega)] at h
      omega

/-- one part more taken off -/
theorem frame_step {xs : List Int} {ps : List (List Int)} {k n : Nat} (hx : ∀ x ∈ xs, 0 ≤ x ∧ x ≤ 255) (h : frameB ps = xs.take k) (h8 : k + 8 + n ≤ xs.length) (hn : numOf ((xs.drop k).take 8) = n) :
    frameB (ps ++ [(xs.drop (k + 8)).take n]) = xs.take (k + 8 + n) := by
  have e8 : ((xs.drop k).take 8).length = 8 := by rw [List.length_take, List.length_drop]; omega
  have en : ((xs.drop (k + 8)).take n).length = n := by rw [List.length_take, List.length_drop]; omega
  have hb : bigB (n : Int) 8 = (xs.drop k).take 8 := by
    rw [← hn]; exact big8_num (fun x hx' => hx x (List.mem_of_mem_drop (List.mem_of_mem_take hx'))) e8
  rw [frameB_snoc, en, hb, h, List.take_add (i := k + 8), List.take_add (i := k)]
/-- .. and what isn't one: the rest can't be -/
theorem frame_rest {xs : List Int} {ps : List (List Int)} {k : Nat} (h : frameB ps = xs.take k) (hl : xs.length ≤ 9223372036854775807) (hk : k < xs.length)
    (hb : xs.length < k + 8 ∨ (xs.length : Int) - k - 8 < numOf ((xs.drop k).take 8)) (qs : List (List Int)) : frameB qs ≠ xs := by
  -- by the first parts, which are those
  have key : ∀ (ps qs : List (List Int)) (r : List Int), (frameB ps ++ r).length ≤ 9223372036854775807 → frameB qs = frameB ps ++ r → ∃ q2, frameB q2 = r := by
    intro ps
    induction ps with
    | nil => intro qs r _ e; exact ⟨qs, by simpa [frameB] using e⟩
    | cons p ps ih =>
      intro qs r hl e
      match qs, e with
      | [], e =>
        have := congrArg List.length e
        simp [frameB, bigB_len] at this
        omega
      | q :: qs, e =>
        have hl2 : (frameB (q :: qs)).length ≤ 9223372036854775807 := by rw [e]; exact hl
        simp only [frameB, List.length_append, bigB_len] at hl hl2
        simp only [frameB, List.append_assoc] at e
        obtain ⟨h1, h2⟩ := List.append_inj e (by rw [bigB_len, bigB_len])
        have e1 := big8_inj _ _ (by omega) (by omega) h1
        obtain ⟨h3, h4⟩ := List.append_inj h2 e1
        exact ih qs r (by rw [List.length_append]; omega) h4
  intro e
  obtain ⟨q2, h2⟩ := key ps qs (xs.drop k) (by rw [h, List.take_append_drop]; exact hl) (by rw [h, List.take_append_drop]; exact e)
  refine frame_bad (xs := xs.drop k) (by rw [List.length_drop]; omega) (by rw [List.length_drop]; omega) ?_ q2 h2
  rw [List.length_drop]
  rcases hb with hb | hb
  · left; omega
  · right; omega
theorem frame_all {xs : List Int} {ps : List (List Int)} {k : Nat} (h : frameB ps = xs.take k) (hk : xs.length ≤ k) : frameB ps = xs := by
  rw [h, List.take_of_length_le hk]
end Go.Proofs.YtilfmemfnheppaaDoor
