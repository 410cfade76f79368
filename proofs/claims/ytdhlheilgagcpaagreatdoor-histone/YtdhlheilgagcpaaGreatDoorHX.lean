/- The walk of HistOne. Conditions: the tables lie in memory. -/
import Derived.Test.YtdhlheilgagcpaaGreatDoorHP
import Derived.Test.YtdhlheilgagcpaaGreatDoorHF
import Derived.Test.YtdhlheilgagcpaaGreatDoorHL
import Derived.Test.YtdhlheilgagcpaaGreatDoorRL
namespace Go.Proofs.YtdhlheilgagcpaaGreatDoor
open Go.RowKit Go.PlainAid Ln
set_option linter.unusedVariables false
set_option linter.unusedSimpArgs false

theorem oky_told {t : List UInt8} {ys : List YE} (h : (hR t).2.1 = 0) (hm : ys.map (·.1) = (hR t).1) (hl : t.length ≤ 800000) : OkYs ys := by
  obtain ⟨h1, h2, _, h4⟩ := hT_one h
  intro i hi
  have hx : (ye ys i).1 ∈ (hR t).1 := by rw [← hm]; exact List.mem_of_getElem? (map_ye ys i hi)
  obtain ⟨l, hl1, hl2⟩ := h4 _ hx
  have hr : (ye ys i).1.r.length ≤ 900000 := by
    rw [← hl2]; exact pE_r l (Nat.le_trans (line_le hl1) hl)
  exact ⟨right_sz (List.all_eq_true.1 h1 _ hx) hr, h2 _ hx, hr⟩
set_option maxRecDepth 100000 in
set_option maxHeartbeats 8000000 in
theorem law_one_h (s : ByteArray) (w : World) (ht : Tbs w) (hp : Pt w) : Calls Tryz.prog 3 #[.string s] w fun e w' => e = .returned (.bool true) ∧ Below w.heap.size w w' := by
  have HT : Hid (Tbs w) := ht
  have HP : Hid (Pt w) := hp
  clear ht hp
  by_cases hz : 2000 < s.size
  · have hz' : (2000 : Int) < (s.size : Int) := by omega
    go_enter Tryz.func3, Tryz.ntmps3
    go_wp2_with fail
    refine (wakes_h _ HT.out).mono ?_
    rintro e w1 ⟨rfl, hb1⟩
    go_wp2
    go_ret
    exact ⟨rfl, hb1⟩
  have hz' : ¬ (2000 : Int) < (s.size : Int) := by omega
  have h1 := fun w' (hb : Below w.heap.size w w') => hparse_short s w' (HT.out.later hb) (by omega)
  have hll := hR_len (tx s)
  rw [tx_len] at hll
  have hok := fun (ys : List YE) (h : (hR (tx s)).2.1 = 0) (hm : ys.map (·.1) = (hR (tx s)).1) => oky_told (t := tx s) h hm (by rw [tx_len]; omega)
  have hone := fun h : (hR (tx s)).2.1 = 0 => (hT_one h).2.2.1
  have hfa := fun h : (hR (tx s)).2.1 ≠ 0 => hR_fault h
  unfold PHist at h1
  obtain ⟨q, hq⟩ : ∃ q, hR (tx s) = q := ⟨_, rfl⟩
  rw [hq] at h1 hll hok hone hfa
  clear hq
  obtain ⟨E, C, N⟩ := q
  simp only at h1 hll hok hone hfa
  have H1 : Hid (∀ w', Below w.heap.size w w' → _) := h1
  have HOK : Hid (∀ ys : List YE, C = 0 → ys.map (·.1) = E → OkYs ys) := hok
  have HLL : Hid (E.length ≤ 2000) := by show _ ≤ _; omega
  clear h1 hok hll
  by_cases hC : C = 0
  · have hO := hone hC
    subst hC
    have HO : Hid (hT E = tx s) := hO
    clear hO hone hfa
    have hss : (s.toList == s.toList) = true := by simp
    go_enter Tryz.func3, Tryz.ntmps3
    go_wp2_with fail
    refine (wakes_h _ HT.out).mono ?_
    rintro e w1 ⟨rfl, hb1⟩
    have Hb1 : Hid (Below w.heap.size w w1) := hb1
    clear hb1
    go_wp2_with fail
    refine (H1.out _ Hb1.out).mono ?_
    rintro e w2 ⟨v, ys, rfl, hm, ho, hl, _, hb2⟩
    have HM : Hid (ys.map (·.1) = E) := hm
    have HLy : Hid (ys.length = E.length) := by show _ = _; rw [← hm, List.length_map]
    obtain ⟨a, c, rfl⟩ := ho.form
    have HY : Hid (YSl w2 (.slice a ys.length c) ys ∧ InL w2 ys) := ⟨ho.ysl, hl.inL⟩
    have Hb2 : Hid (Below w.heap.size w w2) := below_next Hb1.out hb2
    clear hm ho hl hb2
    go_wp2_with fail
    have hb := below_more (Below.refl w2.heap.size w2) (.cells #[.int .i64 0, .int .i64 N] 26)
    have hP := hprint_any (.slice a ys.length c) ys _ (HT.out.later (below_next Hb2.out hb)) (HP.out.later (below_next Hb2.out hb)) (HY.out.1.later hb) (HY.out.2.later hb) (HOK.out ys (by trivial) HM.out) (by rw [HLy.out]; have := HLL.out; omega)
    rw [HM.out, HO.out, bs_tx] at hP
    refine hP.mono ?_
    rintro e w3 ⟨rfl, b3⟩
    have Hb3 : Hid (Below w.heap.size w w3) := below_next (below_next Hb2.out hb) b3
    clear hb b3 hP
    go_wp2
    go_ret
    exact ⟨rfl, Hb3.out⟩
  · obtain ⟨hE, n, hn, _⟩ := hfa hC
    subst hE hn
    clear hone hfa
    have eC : (C != 0) = true := by simp [hC]
    have hpos : (1 : Int) ≤ (n : Int) + 1 := by omega
    go_enter Tryz.func3, Tryz.ntmps3
    go_wp2_with fail
    refine (wakes_h _ HT.out).mono ?_
    rintro e w1 ⟨rfl, hb1⟩
    have Hb1 : Hid (Below w.heap.size w w1) := hb1
    clear hb1
    go_wp2_with fail
    refine (H1.out _ Hb1.out).mono ?_
    rintro e w2 ⟨v, ys, rfl, hm, ho, _, _, hb2⟩
    obtain rfl : ys = [] := List.map_eq_nil_iff.1 hm
    obtain ⟨a, c, rfl⟩ := ho.form
    have Hb2 : Hid (Below w.heap.size w w2) := below_next Hb1.out hb2
    clear hm ho hb2
    go_wp2
    go_ret
    exact ⟨by simp, below_more Hb2.out _⟩
end Go.Proofs.YtdhlheilgagcpaaGreatDoor
