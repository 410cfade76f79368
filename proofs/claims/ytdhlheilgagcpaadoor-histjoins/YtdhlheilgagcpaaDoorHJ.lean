/- The walk of HistJoins. Conditions: the tables lie in memory. -/
import Derived.Test.YtdhlheilgagcpaaDoorHE
import Derived.Test.YtdhlheilgagcpaaDoorHF
import Derived.Test.YtdhlheilgagcpaaDoorHL
namespace Go.Proofs.YtdhlheilgagcpaaDoor
open Go.RowKit Go.PlainAid Ln
set_option linter.unusedVariables false
set_option linter.unusedSimpArgs false

theorem tx_two (a b : ByteArray) : tx (a ++ b) = tx a ++ tx b := by simp [tx]
/-- what two texts come to, one behind the other -/
theorem hR_joined (s t : ByteArray) (h1 : s.size ≤ 1000) (h2 : t.size ≤ 1000) :
    ((hR (tx s)).2.1 = 0 → (hR (tx t)).2.1 = 0 → hR (tx (s ++ t)) = ((hR (tx s)).1 ++ (hR (tx t)).1, 0, 0)) ∧
    ((hR (tx s)).2.1 = 0 → (hR (tx t)).2.1 ≠ 0 → hR (tx (s ++ t)) = ([], (hR (tx t)).2.1, (hR (tx t)).2.2 + ((hR (tx s)).1.length : Int))) ∧
    ((hR (tx t)).2.1 ≠ 0 → ∃ n : Nat, (hR (tx t)).2.2 = (n : Int) + 1 ∧ n ≤ 1000) := by
  have c1 := cutL_count 10 (tx s)
  have c2 := cutL_count 10 (tx t)
  rw [tx_len] at c1 c2
  rw [tx_two]
  refine ⟨fun ha hb => (hR_two ha (by omega)).1 hb, fun ha hb => (hR_two ha (by omega)).2 hb, fun hb => ?_⟩
  obtain ⟨_, n, h, hn⟩ := hR_fault hb
  exact ⟨n, h, by omega⟩

set_option maxRecDepth 100000 in
set_option maxHeartbeats 8000000 in
theorem law_joins_h (s t : ByteArray) (w : World) (ht : Tbs w) : Calls Tryd.prog 4 #[.string s, .string t] w fun e w' => e = .returned (.bool true) ∧ Below w.heap.size w w' := by
  have HT : Hid (Tbs w) := ht
  clear ht
  by_cases hz : 1000 < s.size
  · have hz' : (1000 : Int) < (s.size : Int) := by omega
    go_enter Tryd.func4, Tryd.ntmps4
    go_wp2_with fail
    refine (wakes_h _ HT.out).mono ?_
    rintro e w1 ⟨rfl, hb1⟩
    go_wp2
    go_ret
    exact ⟨rfl, hb1⟩
  have hz' : ¬ (1000 : Int) < (s.size : Int) := by omega
  by_cases hy : 1000 < t.size
  · have hy' : (1000 : Int) < (t.size : Int) := by omega
    go_enter Tryd.func4, Tryd.ntmps4
    go_wp2_with fail
    refine (wakes_h _ HT.out).mono ?_
    rintro e w1 ⟨rfl, hb1⟩
    go_wp2
    go_ret
    exact ⟨rfl, hb1⟩
  have hy' : ¬ (1000 : Int) < (t.size : Int) := by omega
  have hsz : (s ++ t).size = s.size + t.size := ByteArray.size_append
  have hov : ¬ 9223372036854775807 < s.size + t.size := by omega
  have h1 := fun w' (hb : Below w.heap.size w w') => hparse_short s w' (HT.out.later hb) (by omega)
  have h2 := fun w' (hb : Below w.heap.size w w') => hparse_short t w' (HT.out.later hb) (by omega)
  have h3 := fun w' (hb : Below w.heap.size w w') => hparse_short (s ++ t) w' (HT.out.later hb) (by omega)
  have hml := hR_ml (t := tx (s ++ t)) (by rw [tx_len]; omega)
  have hl1 := hR_len (tx s)
  have hl2 := hR_len (tx t)
  rw [tx_len] at hl1 hl2
  have hj := hR_joined s t (by omega) (by omega)
  unfold PHist at h1 h2 h3
  obtain ⟨q1, hq1⟩ : ∃ q, hR (tx s) = q := ⟨_, rfl⟩
  obtain ⟨q2, hq2⟩ : ∃ q, hR (tx t) = q := ⟨_, rfl⟩
  obtain ⟨q3, hq3⟩ : ∃ q, hR (tx (s ++ t)) = q := ⟨_, rfl⟩
  rw [hq1] at h1 hl1
  rw [hq2] at h2 hl2
  rw [hq3] at h3 hml
  rw [hq1, hq2, hq3] at hj
  clear hq1 hq2 hq3 hsz
  obtain ⟨EA, CA, NA⟩ := q1
  obtain ⟨EB, CB, NB⟩ := q2
  obtain ⟨E3, C3, N3⟩ := q3
  simp only [Prod.mk.injEq] at h1 h2 h3 hml hl1 hl2 hj
  have H1 : Hid (∀ w', Below w.heap.size w w' → _) := h1
  have H2 : Hid (∀ w', Below w.heap.size w w' → _) := h2
  have H3 : Hid (∀ w', Below w.heap.size w w' → _) := h3
  have HM : Hid (∀ x ∈ E3, MlE x) := hml
  have HJ : Hid _ := hj
  have HLL : Hid (EA.length ≤ 1000 ∧ EB.length ≤ 1000) := by show _ ∧ _; omega
  clear h1 h2 h3 hml hl1 hl2 hj
  go_enter Tryd.func4, Tryd.ntmps4
  go_wp2_with fail
  refine (wakes_h _ HT.out).mono ?_
  rintro e w1 ⟨rfl, hb1⟩
  have Hb1 : Hid (Below w.heap.size w w1) := hb1
  clear hb1
  go_wp2_with fail
  refine (H1.out _ Hb1.out).mono ?_
  rintro e w2 ⟨v, ys, rfl, hm, ho, hl, hn, hb⟩
  obtain ⟨a1, c1, rfl⟩ := ho.form
  have HEys : Hid (ys.map (·.1) = EA) := hm
  have HNys : Hid (ys.length = EA.length) := by show _ = _; rw [← hm, List.length_map]
  obtain ⟨n1, hnn⟩ : ∃ n, ys.length = n := ⟨_, rfl⟩
  have HLys : Hid (ys.length = n1) := hnn
  rw [hnn] at ho hn ⊢
  have HYys : Hid (YSl w2 (.slice a1 n1 c1) ys ∧ InL w2 ys ∧ (n1 = 0 → Value.slice a1 n1 c1 = nilS)) := ⟨ho.ysl, hl.inL, hn⟩
  have Hbw2 : Hid (Below w.heap.size w w2) := below_next Hb1.out hb
  clear hm ho hl hn hb hnn
  go_wp2_with fail
  have BX1 : Hid (FBox (w2.alloc (.cells #[.int .i64 CA, .int .i64 NA] 26)) w2.heap.size CA NA) := FBox.new w2 CA NA 26
  have hb := below_more (Below.refl w2.heap.size w2) (.cells #[.int .i64 CA, .int .i64 NA] 26)
  have Hbw3 : Hid (Below w.heap.size w (w2.alloc (.cells #[.int .i64 CA, .int .i64 NA] 26))) := below_more Hbw2.out _
  replace HYys : Hid (YSl (w2.alloc (.cells #[.int .i64 CA, .int .i64 NA] 26)) (.slice a1 n1 c1) ys ∧ InL (w2.alloc (.cells #[.int .i64 CA, .int .i64 NA] 26)) ys ∧ (n1 = 0 → Value.slice a1 n1 c1 = nilS)) := ⟨HYys.out.1.later hb, HYys.out.2.1.later hb, HYys.out.2.2⟩
  obtain ⟨p1, hp⟩ : ∃ p, p = w2.heap.size := ⟨_, rfl⟩
  rw [← hp] at BX1 ⊢
  clear hp hb Hbw2
  generalize w2.alloc (.cells #[.int .i64 CA, .int .i64 NA] 26) = w3 at *
  go_wp2_with fail
  refine (H2.out _ Hbw3.out).mono ?_
  rintro e w4 ⟨v, zs, rfl, hm, ho, hl, hn, hb⟩
  obtain ⟨a2, c2, rfl⟩ := ho.form
  have HEzs : Hid (zs.map (·.1) = EB) := hm
  have HNzs : Hid (zs.length = EB.length) := by show _ = _; rw [← hm, List.length_map]
  obtain ⟨n2, hnn⟩ : ∃ n, zs.length = n := ⟨_, rfl⟩
  have HLzs : Hid (zs.length = n2) := hnn
  rw [hnn] at ho hn ⊢
  have HYzs : Hid (YSl w4 (.slice a2 n2 c2) zs ∧ InL w4 zs ∧ (n2 = 0 → Value.slice a2 n2 c2 = nilS)) := ⟨ho.ysl, hl.inL, hn⟩
  have Hbw4 : Hid (Below w.heap.size w w4) := below_next Hbw3.out hb
  replace HYys : Hid (YSl w4 (.slice a1 n1 c1) ys ∧ InL w4 ys ∧ (n1 = 0 → Value.slice a1 n1 c1 = nilS)) := ⟨HYys.out.1.later hb, HYys.out.2.1.later hb, HYys.out.2.2⟩
  replace BX1 : Hid (FBox w4 p1 CA NA) := BX1.out.later hb
  clear hm ho hl hn hb hnn
  go_wp2_with fail
  have BX2 : Hid (FBox (w4.alloc (.cells #[.int .i64 CB, .int .i64 NB] 26)) w4.heap.size CB NB) := FBox.new w4 CB NB 26
  have hb := below_more (Below.refl w4.heap.size w4) (.cells #[.int .i64 CB, .int .i64 NB] 26)
  have Hbw5 : Hid (Below w.heap.size w (w4.alloc (.cells #[.int .i64 CB, .int .i64 NB] 26))) := below_more Hbw4.out _
  replace HYys : Hid (YSl (w4.alloc (.cells #[.int .i64 CB, .int .i64 NB] 26)) (.slice a1 n1 c1) ys ∧ InL (w4.alloc (.cells #[.int .i64 CB, .int .i64 NB] 26)) ys ∧ (n1 = 0 → Value.slice a1 n1 c1 = nilS)) := ⟨HYys.out.1.later hb, HYys.out.2.1.later hb, HYys.out.2.2⟩
  replace BX1 : Hid (FBox (w4.alloc (.cells #[.int .i64 CB, .int .i64 NB] 26)) p1 CA NA) := BX1.out.later hb
  replace HYzs : Hid (YSl (w4.alloc (.cells #[.int .i64 CB, .int .i64 NB] 26)) (.slice a2 n2 c2) zs ∧ InL (w4.alloc (.cells #[.int .i64 CB, .int .i64 NB] 26)) zs ∧ (n2 = 0 → Value.slice a2 n2 c2 = nilS)) := ⟨HYzs.out.1.later hb, HYzs.out.2.1.later hb, HYzs.out.2.2⟩
  obtain ⟨p2, hp⟩ : ∃ p, p = w4.heap.size := ⟨_, rfl⟩
  rw [← hp] at BX2 ⊢
  clear hp hb Hbw4
  generalize w4.alloc (.cells #[.int .i64 CB, .int .i64 NB] 26) = w5 at *
  go_wp2_with fail
  refine (H3.out _ Hbw5.out).mono ?_
  rintro e w6 ⟨v, us, rfl, hm, ho, hl, hn, hb⟩
  obtain ⟨a3, c3, rfl⟩ := ho.form
  have HEus : Hid (us.map (·.1) = E3) := hm
  have HNus : Hid (us.length = E3.length) := by show _ = _; rw [← hm, List.length_map]
  obtain ⟨n3, hnn⟩ : ∃ n, us.length = n := ⟨_, rfl⟩
  have HLus : Hid (us.length = n3) := hnn
  rw [hnn] at ho hn ⊢
  have HYus : Hid (YSl w6 (.slice a3 n3 c3) us ∧ InL w6 us ∧ (n3 = 0 → Value.slice a3 n3 c3 = nilS)) := ⟨ho.ysl, hl.inL, hn⟩
  have Hbw6 : Hid (Below w.heap.size w w6) := below_next Hbw5.out hb
  replace HYys : Hid (YSl w6 (.slice a1 n1 c1) ys ∧ InL w6 ys ∧ (n1 = 0 → Value.slice a1 n1 c1 = nilS)) := ⟨HYys.out.1.later hb, HYys.out.2.1.later hb, HYys.out.2.2⟩
  replace BX1 : Hid (FBox w6 p1 CA NA) := BX1.out.later hb
  replace HYzs : Hid (YSl w6 (.slice a2 n2 c2) zs ∧ InL w6 zs ∧ (n2 = 0 → Value.slice a2 n2 c2 = nilS)) := ⟨HYzs.out.1.later hb, HYzs.out.2.1.later hb, HYzs.out.2.2⟩
  replace BX2 : Hid (FBox w6 p2 CB NB) := BX2.out.later hb
  clear hm ho hl hn hb hnn
  have BX3 : Hid (FBox (w6.alloc (.cells #[.int .i64 C3, .int .i64 N3] 26)) w6.heap.size C3 N3) := FBox.new w6 C3 N3 26
  have hb := below_more (Below.refl w6.heap.size w6) (.cells #[.int .i64 C3, .int .i64 N3] 26)
  have Hbw7 : Hid (Below w.heap.size w (w6.alloc (.cells #[.int .i64 C3, .int .i64 N3] 26))) := below_more Hbw6.out _
  replace HYys : Hid (YSl (w6.alloc (.cells #[.int .i64 C3, .int .i64 N3] 26)) (.slice a1 n1 c1) ys ∧ InL (w6.alloc (.cells #[.int .i64 C3, .int .i64 N3] 26)) ys ∧ (n1 = 0 → Value.slice a1 n1 c1 = nilS)) := ⟨HYys.out.1.later hb, HYys.out.2.1.later hb, HYys.out.2.2⟩
  replace BX1 : Hid (FBox (w6.alloc (.cells #[.int .i64 C3, .int .i64 N3] 26)) p1 CA NA) := BX1.out.later hb
  replace HYzs : Hid (YSl (w6.alloc (.cells #[.int .i64 C3, .int .i64 N3] 26)) (.slice a2 n2 c2) zs ∧ InL (w6.alloc (.cells #[.int .i64 C3, .int .i64 N3] 26)) zs ∧ (n2 = 0 → Value.slice a2 n2 c2 = nilS)) := ⟨HYzs.out.1.later hb, HYzs.out.2.1.later hb, HYzs.out.2.2⟩
  replace BX2 : Hid (FBox (w6.alloc (.cells #[.int .i64 C3, .int .i64 N3] 26)) p2 CB NB) := BX2.out.later hb
  replace HYus : Hid (YSl (w6.alloc (.cells #[.int .i64 C3, .int .i64 N3] 26)) (.slice a3 n3 c3) us ∧ InL (w6.alloc (.cells #[.int .i64 C3, .int .i64 N3] 26)) us ∧ (n3 = 0 → Value.slice a3 n3 c3 = nilS)) := ⟨HYus.out.1.later hb, HYus.out.2.1.later hb, HYus.out.2.2⟩
  clear hb Hbw6
  have hq := eqF
  have hg := eqgF
  have hs := eqfB_self
  obtain ⟨x6, x0, x1, xz0, xz1⟩ := BX1.out
  obtain ⟨y6, y0, y1, yz0, yz1⟩ := BX2.out
  obtain ⟨z6, z0, z1, zz0, zz1⟩ := BX3.out
  by_cases hA : CA = 0
  · by_cases hB : CB = 0
    · obtain ⟨e1, e2, e3⟩ := HJ.out.1 hA hB
      subst hA hB e2 e3
      have HE3 : Hid (E3 = EA ++ EB) := e1
      clear e1
      have hsz : (w6.alloc (.cells #[.int .i64 0, .int .i64 0] 26)).heap.size = w6.heap.size + 1 := World.size_alloc _ _
      have hown0 : OwnY ((w6.alloc (.cells #[.int .i64 0, .int .i64 0] 26)).alloc (.cells #[] 41)) (w6.heap.size + 1) (.slice (some ⟨w6.heap.size + 1, 0, none⟩) 0 0) [] := by
        have := own_empty (w6.alloc (.cells #[.int .i64 0, .int .i64 0] 26)) (w6.heap.size + 1) (by rw [hsz]; exact Nat.le_refl _)
        rw [hsz] at this; exact this
      have HO0 : Hid (OwnY ((w6.alloc (.cells #[.int .i64 0, .int .i64 0] 26)).alloc (.cells #[] 41)) (w6.heap.size + 1) (.slice (some ⟨w6.heap.size + 1, 0, none⟩) 0 0) []) := hown0
      have HB0 : Hid (Below (w6.heap.size + 1) (w6.alloc (.cells #[.int .i64 0, .int .i64 0] 26)) ((w6.alloc (.cells #[.int .i64 0, .int .i64 0] 26)).alloc (.cells #[] 41))) := by show Below _ _ _; rw [← hsz]; exact below_more (Below.refl _ _) _
      have HSZ : Hid ((w6.alloc (.cells #[.int .i64 0, .int .i64 0] 26)).heap.size = w6.heap.size + 1) := hsz
      have HSS : Hid (w6.heap.size + 1 ≤ ((w6.alloc (.cells #[.int .i64 0, .int .i64 0] 26)).alloc (.cells #[] 41)).heap.size) := by show _ ≤ _; rw [World.size_alloc, hsz]; exact Nat.le_succ _
      have HLT : Hid (∀ w', Below (w6.heap.size + 1) (w6.alloc (.cells #[.int .i64 0, .int .i64 0] 26)) w' → Below (w6.alloc (.cells #[.int .i64 0, .int .i64 0] 26)).heap.size (w6.alloc (.cells #[.int .i64 0, .int .i64 0] 26)) w') := fun w' h => by rw [hsz]; exact h
      clear hsz hown0
      go_wp2_with (first
        | (at_builtin; refine wpList_wanted (by rfl) ?_; refine wp_appendEN (.tmp 66) (.tmp 67) rfl (w6.heap.size + 1) (.slice (some ⟨w6.heap.size + 1, 0, none⟩) 0 0) [] rfl HO0.out (.slice a1 n1 c1) ys rfl (HYys.out.1.later (HLT.out _ HB0.out)) HYys.out.2.1.one (fun h => HYys.out.2.2 (by rw [← HLys.out]; exact h)) (by have := HLL.out.1; have := HNys.out; simp only [List.length_nil]; omega) HSS.out ?_; intro v8 w8 o8 g8; have HO8 : Hid (OwnY w8 (w6.heap.size + 1) v8 ([] ++ ys)) := o8; have HB8 : Hid (Below (w6.heap.size + 1) (w6.alloc (.cells #[.int .i64 0, .int .i64 0] 26)) w8) := Below.grown HB0.out g8 HSS.out (fun q h => (HO0.out.lt q h).1); have HS8 : Hid (w6.heap.size + 1 ≤ w8.heap.size) := Nat.le_trans HSS.out g8.size; clear o8 g8)
        | (at_builtin; refine wpList_wanted (by rfl) ?_; refine wp_appendEN (.tmp 68) (.tmp 69) rfl (w6.heap.size + 1) v8 ([] ++ ys) rfl HO8.out (.slice a2 n2 c2) zs rfl (HYzs.out.1.later (HLT.out _ HB8.out)) HYzs.out.2.1.one (fun h => HYzs.out.2.2 (by rw [← HLzs.out]; exact h)) (by have := HLL.out; have := HNys.out; have := HNzs.out; simp only [List.nil_append]; omega) HS8.out ?_; intro v9 w9 o9 g9; have HO9 : Hid (OwnY w9 (w6.heap.size + 1) v9 ([] ++ ys ++ zs)) := o9; have HB9 : Hid (Below (w6.heap.size + 1) (w6.alloc (.cells #[.int .i64 0, .int .i64 0] 26)) w9) := Below.grown HB8.out g9 HS8.out (fun q h => (HO8.out.lt q h).1); clear o9 g9)
        | (go_at_call 8; refine (same_h _ _ E3 w9 ⟨us, HEus.out, HYus.out.1.later (HLT.out _ HB9.out), HYus.out.2.1.later (HLT.out _ HB9.out)⟩ ⟨ys ++ zs, by rw [List.map_append, HEys.out, HEzs.out, HE3.out], HO9.out.ysl, (HYys.out.2.1.later (HLT.out _ HB9.out)).app (HYzs.out.2.1.later (HLT.out _ HB9.out))⟩ HM.out (by rw [HE3.out, List.length_append]; have := HLL.out; omega)).mono ?_; rintro e wx ⟨rfl, hbx⟩))
      go_ret
      exact ⟨by simp, below_next (below_next Hbw7.out (HLT.out _ HB9.out)) hbx⟩
    · obtain ⟨e1, e2, e3⟩ := HJ.out.2.1 hA hB
      obtain ⟨nb, e4, e5⟩ := HJ.out.2.2 hB
      have hN := HNys.out
      rw [HLys.out] at hN
      have hle := HLL.out.1
      rw [← hN] at e3 hle
      have eB : (CB != 0) = true := by simp [hB]
      subst hA e2 e4 e3
      clear hN
      go_wp2
      go_ret
      exact ⟨by simp, Hbw7.out⟩
  · have eA : (CA != 0) = true := by simp [hA]
    go_wp2
    go_ret
    exact ⟨by simp, Hbw7.out⟩
end Go.Proofs.YtdhlheilgagcpaaDoor
