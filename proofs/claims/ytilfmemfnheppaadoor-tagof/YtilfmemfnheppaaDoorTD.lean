/- The contract of the document's own Big (it puts each byte ahead of those that it has). Conditions: the number is one of 64 bits. -/
import Derived.Test.YtilfmemfnheppaaDoorTA
import Derived.Laws.AppendOwnNone
namespace Go.Proofs.YtilfmemfnheppaaDoor
open Go.RowKit Hx
set_option linter.unusedVariables false

theorem tmod256 (n : Int) (h : 0 ≤ n) : n.tmod 256 = n % 256 := Int.tmod_eq_emod_of_nonneg h

/-- what the round does: the new row owns the bytes, one more -/
theorem step_big {w wr w1 : World} {n x : Int} {k : Nat} {v' : Value} (hx : x = cutB n k % 256)
    (hown : w1.ownsRow w.heap.size 5 1 v' (1 + k) ([.int .u8 x] ++ cells8 (bigB n k))) : Hx.Own w1 w.heap.size v' (bigB n (k + 1)) := by
  unfold Own
  rw [bigB_len]
  subst hx
  rw [Nat.add_comm] at hown
  exact hown

set_option maxRecDepth 100000 in
set_option maxHeartbeats 1000000 in
theorem rbig_any (n size : Int) (w : World) (h0 : 0 ≤ n) (hn : n ≤ 18446744073709551615) :
    Calls Tryd.prog 21 #[.int .u64 n, .int .i64 size] w fun e w' => ∃ v, e = .returned v ∧ Sl w' v (bigB n (szB size)) ∧ Below w.heap.size w w' := by
  obtain ⟨i0, hi, hz0, hz1, hz2⟩ := info_parts Tryd.info5
  obtain ⟨m, hm⟩ : ∃ m, m = szB size := ⟨_, rfl⟩
  have hm8 : m ≤ 8 := by rw [hm]; unfold szB; split <;> (try split) <;> omega
  have hlo : ∀ k : Nat, k < m → (k : Int) < size ∧ (k : Int) < 8 := by
    intro k hk; rw [hm] at hk; unfold szB at hk; split at hk <;> (try split at hk) <;> omega
  have hhi : m < 8 → ¬ (m : Int) < size := by
    intro hk
    by_cases a1 : size < 1
    · omega
    · by_cases a2 : size ≤ 8
      · have : szB size = size.toNat := by unfold szB; rw [if_neg a1, if_pos a2]
        omega
      · have : szB size = 8 := by unfold szB; rw [if_neg a1, if_neg a2]
        omega
  rw [← hm]
  clear hm
  go_enter Tryd.func21, Tryd.ntmps21
  go_wp2
  go_loopw [0, 5, 6] (fun x v i wr => ∃ k : Nat, k ≤ m ∧ i = .int .i64 k ∧ x = .int .u64 (cutB n k) ∧ Hx.Own wr w.heap.size v (bigB n k) ∧ (k = 0 → v = .slice none 0 0) ∧ Below w.heap.size w wr) (fun _ _ i _ => 8 - (intOf i).toNat)
  case atStart => exact ⟨0, by omega, rfl, by rw [cutB_zero], World.ownsRow_nil _ _ _ _, fun _ => rfl, Below.refl _ _⟩
  case round =>
    obtain ⟨k, hk, rfl, rfl, hown, hnil, hb⟩ := hrel
    obtain ⟨g0, g1⟩ := cutB_bd n k h0 hn
    have HO : Hid (Hx.Own wr w.heap.size u5 (bigB n k)) := hown
    by_cases hlt : k < m
    · obtain ⟨l1, l2⟩ := hlo k hlt
      have hsz := hb.size
      have hmod := tmod256 (cutB n k) g0
      by_cases hk0 : k = 0
      · have := hnil hk0
        subst this
        subst hk0
        clear hlo hhi hnil hown
        go_wp2_with (at_builtin; refine wpList_append_own_none rfl (.tmp 19) (.tmp 20) 25 rfl w.heap.size 5 i0 1 Tryd.underlying25 hi _ 1 [.int .u8 (cutB n 0 % 256)] rfl (World.ownsRow_lit wr #[.int .u8 (cutB n 0 % 256)] 1 hsz (by unfold maxLen; omega) rfl) rfl ?_)
        go_roundw
        case rel => exact ⟨1, by omega, rfl, by rw [cutB_succ], World.ownsRow_lit wr #[.int .u8 (cutB n 0 % 256)] 1 hsz (by unfold maxLen; omega) rfl, fun h => by omega, hb.alloc hsz _⟩
        case measure => simp [intOf]
      · obtain ⟨g, cap, hv, hcg, hgw⟩ : ∃ g cap, u5 = .slice (some ⟨g, 0, none⟩) k cap ∧ (∀ j u, (cells8 (bigB n k))[j]? = some u → wr.cell? ((⟨g, 0, none⟩ : Addr).add j) = some u) ∧ g < wr.heap.size := by
          have hh := hown
          unfold Hx.Own at hh
          rw [bigB_len] at hh
          rcases hh.2 with ⟨_, h⟩ | ⟨g, cap, cur, hv, _⟩
          · omega
          · exact ⟨g, cap, hv, hh.cells (by rw [hv]; rfl), (hh.lt g (by rw [hv]; rfl)).2⟩
        subst hv
        have hcg2 : Hid (∀ (o : Obj) j u, (cells8 (bigB n k))[j]? = some u → (wr.alloc o).cell? ((⟨g, 0, none⟩ : Addr).add j) = some u) := by
          intro o j u hj
          exact (World.cell?_alloc_lt wr o ((⟨g, 0, none⟩ : Addr).add j) (by unfold Addr.add; split <;> exact hgw)).trans (hcg j u hj)
        clear hlo hhi hnil hown hcg
        go_wp2_with (at_builtin; refine wpList_append_own _ rfl (.tmp 19) (.tmp 20) 25 rfl w.heap.size 5 i0 (.int .u8 0) 1 1 Tryd.underlying25 hi hz0 hz1 hz2 rfl (by decide) (.slice (some ⟨wr.heap.size, 0, none⟩) 1 1) 1 [.int .u8 (cutB n k % 256)] rfl (World.ownsRow_lit wr #[.int .u8 (cutB n k % 256)] 1 hsz (by unfold maxLen; omega) rfl) ⟨g, 0, none⟩ k cap (cells8 (bigB n k)) rfl (by rw [cells8_len, bigB_len, Nat.mul_one]) (hcg2.out _) (cells8_one _) (by unfold maxLen; omega) (by omega) (by simp; omega) ?_; intro v' w1 hown' hgrow _)
        have hb1 : Below w.heap.size w w1 := (hb.alloc hsz (.cells #[.int .u8 (cutB n k % 256)] 5)).grown hgrow (by simp; omega) (fun q h => by simp [Value.ownBlock] at h; omega)
        go_roundw
        case rel => exact ⟨k + 1, by omega, by go_num, by rw [cutB_succ], step_big (wr := wr) rfl hown', fun h => by omega, hb1⟩
        case measure => simp [intOf]; omega
    · have HH : Hid (m < 8 → ¬ (m : Int) < size) := fun h => by have := hhi h; omega
      have hkm : k = m := by omega
      subst hkm
      clear hlo hhi hnil hown
      by_cases hk8 : k < 8
      · have := HH.out hk8
        go_wp2
        go_ret
        exact ⟨_, rfl, Sl.of_own HO.out (bigB_bd _ _) (by rw [bigB_len]; omega), hb⟩
      · go_wp2
        all_goals go_ret
        all_goals exact ⟨_, rfl, Sl.of_own HO.out (bigB_bd _ _) (by rw [bigB_len]; omega), hb⟩
end Go.Proofs.YtilfmemfnheppaaDoor
