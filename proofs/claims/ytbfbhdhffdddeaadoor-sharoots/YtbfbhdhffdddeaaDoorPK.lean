/- The contract of the document's own Fits at the fraction that the search finds. Conditions: p from 2 to 1000, k 2 or 3. -/
import Derived.Test.YtbfbhdhffdddeaaDoorPJ
namespace Go.Proofs.YtbfbhdhffdddeaaDoor.Pr
open Go.RowKit
set_option linter.unusedVariables false

theorem pow_lt_of {a b k : Nat} (h : a ^ k < b ^ k) : a < b := by
  apply Classical.byContradiction
  intro hn
  have := Nat.pow_le_pow_left (show b ≤ a by omega) k
  omega

/-- the goal: p 2^(32 k) -/
def goalN (p k : Nat) : Nat := p * 2 ^ (32 * k)
theorem goal_eq (p k : Nat) : ((p : Int) * 256 ^ (4 * k)) = (goalN p k : Nat) := by
  unfold goalN
  have : (256 : Nat) ^ (4 * k) = 2 ^ (32 * k) := by
    rw [show (256 : Nat) = 2 ^ 8 from rfl, ← Nat.pow_mul, ← Nat.mul_assoc]
  rw [← this, Int.natCast_mul, Int.natCast_pow]
  rfl

theorem sl_cells {w : World} {v : Value} {xs : List Int} (h : Sl w v xs) (h0 : 0 < xs.length) :
    ∃ b off cap, v = .slice (some ⟨b, off, none⟩) xs.length cap ∧ b < w.heap.size ∧ ∀ j u, (cellsI xs)[j]? = some u → w.cell? ((⟨b, off, none⟩ : Addr).add j) = some u := by
  obtain ⟨a, cap, rfl, hx, hl, hc, hr⟩ := h
  obtain ⟨b, off, rfl, hbs, hcell⟩ := hr h0
  refine ⟨b, off, cap, rfl, hbs, fun j u hj => ?_⟩
  have hjl : j < xs.length := by
    have := (List.getElem?_eq_some_iff.1 hj).1
    rwa [cellsI_len] at this
  rw [cellsI_at xs j hjl] at hj
  injection hj with hj
  rw [← hj]
  have e : (⟨b, off, none⟩ : Addr).add j = ⟨b, off + j, none⟩ := by simp [Addr.add]
  rw [e]
  exact hcell j hjl

theorem step_zero {w1 : World} {base : Nat} {v : Value} {xs : List Int} (hx : Dg xs) (hl : xs.length ≤ 99)
    (hown : w1.ownsRow base 3 1 v (1 + xs.length) ([.int .i64 0] ++ cellsI xs)) : Sl w1 v (0 :: xs) := by
  refine Sl.of_own (base := base) ?_ ?_ (by simp; omega)
  · unfold OwnI
    rw [List.length_cons, Nat.add_comm]
    exact hown
  · intro x h
    rcases List.mem_cons.1 h with rfl | h
    · omega
    · exact hx x h

theorem len_pos {xs : List Int} (h : 0 < val xs) : 0 < xs.length := by
  cases xs with
  | nil => simp [val] at h
  | cons x xs => simp

/-- the goal as it grows: k noughts ahead of the digits of p -/
def Grows (w : World) (v : Value) (p : Nat) (k : Nat) : Prop := ∃ xs, Sl w v xs ∧ val xs = (p : Int) * 256 ^ k ∧ xs.length ≤ 8 + k

theorem Grows.pos {w : World} {v : Value} {p k : Nat} {xs : List Int} (hp : 0 < p) (h : val xs = (p : Int) * 256 ^ k) : 0 < xs.length := by
  apply len_pos
  rw [h]
  exact Int.mul_pos (by omega) (Int.pow_pos (by omega))

theorem zero_start (k g : Nat) (h : 0 < k) : Hid (((0 : Int).toNat * 4294967296) ^ k ≤ g) := by
  show _ ≤ g
  rw [show (0 : Int).toNat = 0 from rfl, Nat.zero_mul, Nat.zero_pow h]
  exact Nat.zero_le _
theorem r_top {W : Int} {R : Nat} (h : R = (W.toNat + 1) * 4294967296) (hW : W = 31) : R = 32 * 4294967296 := by
  rw [h, hW, show (31 : Int).toNat + 1 = 32 from rfl]
theorem dec_yes {a b : Nat} (h : a ≤ b) : decide ((a : Int) ≤ (b : Int)) = true := decide_eq_true (Int.ofNat_le.2 h)
theorem dec_no {a b : Nat} (h : b < a) : decide ((a : Int) ≤ (b : Int)) = false := decide_eq_false (fun h' => by have := Int.ofNat_le.1 h'; omega)

theorem goal_lt (p k : Nat) (hp : p ≤ 1000) (hk : k = 2 ∨ k = 3) : goalN p k < (32 * 4294967296) ^ k := by
  unfold goalN
  rcases hk with rfl | rfl
  · rw [show (32 * 4294967296) ^ 2 = 1024 * 2 ^ (32 * 2) from by decide]
    exact Nat.mul_lt_mul_of_pos_right (by omega) (by decide)
  · rw [show (32 * 4294967296) ^ 3 = 32768 * 2 ^ (32 * 3) from by decide]
    exact Nat.mul_lt_mul_of_pos_right (by omega) (by decide)

set_option maxHeartbeats 1000000 in
theorem rfits_any (p k : Nat) (hp2 : 2 ≤ p) (hp : p ≤ 1000) (hk : k = 2 ∨ k = 3) (f : Nat) (hf : f = rt p k % 4294967296) (w : World) :
    Calls Tryd.prog 18 #[.int .i64 p, .int .i64 k, .int .u32 f] w fun e w' => e = .returned (.bool true) ∧ Below w.heap.size w w' := by
  obtain ⟨i0, hi, hz0, hz1, hz2⟩ := info_parts Tryd.info3
  have HS : Hid ((rt p k) ^ k ≤ goalN p k ∧ goalN p k < (rt p k + 1) ^ k) := rt_spec p k hp hk
  have HP : Hid (∀ r : Nat, r < 18446744073709551616 → ∀ w, Calls Tryd.prog 36 #[.int .u64 r, .int .i64 k] w fun e w' => ∃ v, e = .returned v ∧ Num w' v ((r ^ k : Nat) : Int) 24 ∧ Below w.heap.size w w') := fun r hr w => rpower_any r k hk w hr
  have hk2 : 2 ≤ k := by omega
  have hk3 : k ≤ 3 := by omega
  have HF : Hid (f = rt p k % 4294967296) := hf
  have hf1 : f < 4294967296 := by rw [hf]; exact Nat.mod_lt _ (by omega)
  clear hf hk
  go_enter Tryd.func18, Tryd.ntmps18
  go_wp2_with fail
  refine (digits_num p _ (by omega)).mono ?_
  rintro e w1 ⟨v1, rfl, hn1, hb1⟩
  have HN1 : Hid (Num w1 v1 p 8) := hn1
  clear hn1
  go_wp2_with fail
  go_loopw [7, 8] (fun v i wr => ∃ j : Nat, j ≤ 4 * k ∧ i = .int .i64 j ∧ Hid (Grows wr v p j) ∧ Below w.heap.size w wr) (fun _ i _ => 4 * k - (intOf i).toNat)
  case atStart =>
    obtain ⟨xs, h1, h2, h3⟩ := HN1.out
    exact ⟨0, by omega, rfl, (show Grows _ _ _ _ from ⟨xs, h1, by simp [h2], by omega⟩), hb1⟩
  case round =>
    clear HN1 hb1
    obtain ⟨j, hj, rfl, HG, hb⟩ := hrel
    by_cases hlt : j < 4 * k
    · obtain ⟨xs, h1, h2, h3⟩ := HG.out
      have hpos := Grows.pos (w := wr) (v := u7) (k := j) (by omega) h2
      have hx : Dg xs := by obtain ⟨_, _, _, hx, _⟩ := h1; exact hx
      obtain ⟨b, off, cap, hv, hbs, hcg⟩ := sl_cells h1 hpos
      have hsz := hb.size
      have hlt' : (j : Int) < 4 * (k : Int) := by omega
      have HCG : Hid (∀ (o : Obj) j u, (cellsI xs)[j]? = some u → (wr.alloc o).cell? ((⟨b, off, none⟩ : Addr).add j) = some u) := by
        intro o j u hj
        exact (World.cell?_alloc_lt wr o ((⟨b, off, none⟩ : Addr).add j) (by unfold Addr.add; split <;> exact hbs)).trans (hcg j u hj)
      have HV : Hid (val xs = (p : Int) * 256 ^ j) := h2
      rw [hv]
      clear h1 h2 hcg
      go_wp2_with (at_builtin; refine wpList_append_own _ rfl (.tmp 20) (.tmp 21) 62 rfl w.heap.size 3 i0 (.int .i64 0) 1 8 Tryd.underlying62 hi hz0 hz1 hz2 rfl (by decide) (.slice (some ⟨wr.heap.size, 0, none⟩) 1 1) 1 [.int .i64 0] rfl (World.ownsRow_lit wr #[.int .i64 0] 1 hsz (by unfold maxLen; omega) rfl) ⟨b, off, none⟩ xs.length cap (cellsI xs) rfl (by rw [cellsI_len, Nat.mul_one]) (HCG.out _) (cellsI_one _) (by unfold maxLen; omega) (by omega) (by simp; omega) ?_; intro v' w1 hown' hgrow _)
      have hb1 : Below w.heap.size w w1 := (hb.alloc hsz (.cells #[.int .i64 0] 3)).grown hgrow (by simp; omega) (fun q h => by simp [Value.ownBlock] at h; omega)
      have HG1 : Hid (Grows w1 v' p (j + 1)) := ⟨0 :: xs, step_zero hx (by omega) hown', by rw [val, HV.out, Int.pow_succ]; simp only [Int.mul_comm, Int.mul_left_comm]; omega, by simp; omega⟩
      clear hown' hgrow
      go_roundw
      case rel => exact ⟨j + 1, by omega, by go_num, HG1, hb1⟩
      case measure => simp [intOf]; omega
    · have hj4 : j = 4 * k := by omega
      have HGoal : Hid (Num wr u7 (goalN p k : Nat) 20) := by
        obtain ⟨xs, h1, h2, h3⟩ := HG.out
        exact ⟨xs, h1, by rw [h2, hj4, goal_eq], by omega⟩
      clear HG hj4
      have HG32 : Hid (goalN p k < (32 * 4294967296) ^ k) := goal_lt p k hp (by omega)
      have HK0 : Hid (0 < k) := by show 0 < k; omega
      go_wp2
      go_loopw [9] (fun x wr2 => ∃ W : Int, 0 ≤ W ∧ W ≤ 31 ∧ x = .int .u64 W ∧ Hid ((W.toNat * 4294967296) ^ k ≤ goalN p k) ∧ Hid (Num wr2 u7 (goalN p k : Nat) 20) ∧ Below w.heap.size w wr2) (fun x _ => (32 - intOf x).toNat)
      case atStart => exact ⟨0, by omega, by omega, rfl, zero_start k _ HK0.out, HGoal, hb⟩
      case round =>
        clear HGoal hb
        obtain ⟨W, hW0, hW1, rfl, HW, HGoal, hb⟩ := hrel
        obtain ⟨R, hR⟩ : ∃ R : Nat, R = (W.toNat + 1) * 4294967296 := ⟨_, rfl⟩
        have hRI : (W + 1) * 4294967296 = (R : Int) := by omega
        have hRb : R < 18446744073709551616 := by omega
        have HR : Hid (R = (W.toNat + 1) * 4294967296) := hR
        have cP := HP.out R hRb
        clear hR
        by_cases hle : R ^ k ≤ goalN p k
        · have hW30 : W < 31 := by
            apply Classical.byContradiction
            intro hn
            have e1 : R = 32 * 4294967296 := r_top HR.out (by omega)
            have := HG32.out
            rw [e1] at hle
            omega
          have hdec : decide (((R ^ k : Nat) : Int) ≤ ((goalN p k : Nat) : Int)) = true := dec_yes hle
          have HLe : Hid (R ^ k ≤ goalN p k) := hle
          have HDec : Hid (decide (((R ^ k : Nat) : Int) ≤ ((goalN p k : Nat) : Int)) = true) := hdec
          clear hle hdec
          go_wp2_with fail
          refine (cP _).mono ?_
          rintro e w2 ⟨v2, rfl, hn2, hb2⟩
          have HG2 : Hid (Num w2 u7 (goalN p k : Nat) 20) := HGoal.out.later hb2
          have HN2 : Hid (Num w2 v2 ((R ^ k : Nat) : Int) 24) := hn2
          clear hn2
          go_wp2_with fail
          refine (most_num _ _ _ _ _ _ _ HN2.out HG2.out).mono ?_
          rintro e w3 ⟨rfl, rfl⟩
          rw [HDec.out]
          go_wp2
          go_roundw
          case rel =>
            refine ⟨W + 1, by omega, by omega, by go_num, ?_, HG2, below_next hb (Nat.le_refl _) hb2⟩
            have e1 : (W + 1).toNat = W.toNat + 1 := by omega
            show _ ≤ _
            rw [e1, ← HR.out]
            exact HLe.out
          case measure => simp [intOf]; omega
        · have hdec : decide (((R ^ k : Nat) : Int) ≤ ((goalN p k : Nat) : Int)) = false := dec_no (by omega)
          have HLe : Hid (goalN p k < R ^ k) := by show _ < _; omega
          have HDec : Hid (decide (((R ^ k : Nat) : Int) ≤ ((goalN p k : Nat) : Int)) = false) := hdec
          clear hle hdec
          go_wp2_with fail
          refine (cP _).mono ?_
          rintro e w2 ⟨v2, rfl, hn2, hb2⟩
          have HG2 : Hid (Num w2 u7 (goalN p k : Nat) 20) := HGoal.out.later hb2
          have HN2 : Hid (Num w2 v2 ((R ^ k : Nat) : Int) 24) := hn2
          clear hn2
          go_wp2_with fail
          refine (most_num _ _ _ _ _ _ _ HN2.out HG2.out).mono ?_
          rintro e w3 ⟨rfl, rfl⟩
          rw [HDec.out]
          have hb3 := below_next hb (Nat.le_refl _) hb2
          obtain ⟨r, hr⟩ : ∃ r : Nat, r = rt p k := ⟨_, rfl⟩
          have hbnd : W.toNat * 4294967296 < r + 1 ∧ r < R := by
            rw [hr]
            exact ⟨pow_lt_of (Nat.lt_of_le_of_lt HW.out HS.out.2), pow_lt_of (Nat.lt_of_le_of_lt HS.out.1 HLe.out)⟩
          have hrI : W * 4294967296 + (f : Int) = (r : Int) := by
            have e1 := HF.out
            rw [← hr] at e1
            have e2 := HR.out
            omega
          have hrb : r + 1 < 18446744073709551616 := by have := HR.out; omega
          obtain ⟨r1, hr1e⟩ : ∃ r1 : Nat, r1 = r + 1 := ⟨_, rfl⟩
          have hr1 : (r : Int) + 1 = (r1 : Int) := by omega
          have HSr : Hid (decide (((r ^ k : Nat) : Int) ≤ ((goalN p k : Nat) : Int)) = true ∧ decide (((r1 ^ k : Nat) : Int) ≤ ((goalN p k : Nat) : Int)) = false) := by
            have := HS.out
            rw [← hr, ← hr1e] at this
            exact ⟨dec_yes this.1, dec_no this.2⟩
          have cA := HP.out r (by omega)
          have cB := HP.out r1 (by omega)
          have HRI : Hid ((W + 1) * 4294967296 = (R : Int)) := hRI
          have HWb : Hid (0 ≤ W ∧ W ≤ 31) := ⟨hW0, hW1⟩
          have HG3 : Hid (Num w3 u7 (goalN p k : Nat) 20) := HG2.out
          clear hr hr1e hbnd HN2 HG2 hb hb2 cP HP HS HF HW HLe HDec HGoal
          go_wp2_with fail
          refine (cA _).mono ?_
          rintro e w4 ⟨v4, rfl, hn4, hb4⟩
          have HN4 : Hid (Num w4 v4 ((r ^ k : Nat) : Int) 24) := hn4
          have HG4 : Hid (Num w4 u7 (goalN p k : Nat) 20) := HG3.out.later hb4
          have hb34 := below_next hb3 (Nat.le_refl _) hb4
          clear hn4 HG3 hb3 hb4
          go_wp2_with fail
          refine (most_num _ _ _ _ _ _ _ HN4.out HG4.out).mono ?_
          rintro e w5 ⟨rfl, rfl⟩
          rw [HSr.out.1]
          go_wp2_with fail
          refine (cB _).mono ?_
          rintro e w6 ⟨v6, rfl, hn6, hb6⟩
          have HN6 : Hid (Num w6 v6 ((r1 ^ k : Nat) : Int) 24) := hn6
          have HG6 : Hid (Num w6 u7 (goalN p k : Nat) 20) := HG4.out.later hb6
          have hb36 := below_next hb34 (Nat.le_refl _) hb6
          clear hn6 HG4 hb34 hb6
          go_wp2_with fail
          refine (most_num _ _ _ _ _ _ _ HN6.out HG6.out).mono ?_
          rintro e w7 ⟨rfl, rfl⟩
          rw [HSr.out.2]
          go_wp2
          go_ret
          exact ⟨rfl, hb36⟩
end Go.Proofs.YtbfbhdhffdddeaaDoor.Pr
