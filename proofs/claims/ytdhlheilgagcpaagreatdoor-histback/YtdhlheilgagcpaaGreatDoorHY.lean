/- The walk of HistBack. Conditions: the tables and the events lie in memory, the events as large as a machine can hold. -/
import Derived.Test.YtdhlheilgagcpaaGreatDoorHQ
import Derived.Test.YtdhlheilgagcpaaGreatDoorHE
import Derived.Test.YtdhlheilgagcpaaGreatDoorHF
import Derived.Test.YtdhlheilgagcpaaGreatDoorRF
namespace Go.Proofs.YtdhlheilgagcpaaGreatDoor
open Go.RowKit Go.PlainAid Ln
set_option linter.unusedVariables false
set_option linter.unusedSimpArgs false

theorem all_of {ys : List YE} (h : ∀ i, i < ys.length → rightE (ye ys i).1 = true) : (ys.map (·.1)).all rightE = true := by
  rw [List.all_eq_true]
  intro x hx
  obtain ⟨y, hy, rfl⟩ := List.mem_map.1 hx
  obtain ⟨i, hi, rfl⟩ := List.getElem_of_mem hy
  rw [← ye_eq ys i hi]; exact h i hi
theorem mem_ye {ys : List YE} {p : Ev → Prop} (h : ∀ i, i < ys.length → p (ye ys i).1) : ∀ x ∈ ys.map (·.1), p x := by
  intro x hx
  obtain ⟨y, hy, rfl⟩ := List.mem_map.1 hx
  obtain ⟨i, hi, rfl⟩ := List.getElem_of_mem hy
  rw [← ye_eq ys i hi]; exact h i hi
/-- what is printed of events that are right is told again -/
theorem back_told {ys : List YE} (h : ∀ i, i < ys.length → rightE (ye ys i).1 = true) (hb : ∀ i, i < ys.length → bdE (ye ys i).1) (hs : ∀ i, i < ys.length → SmE (ye ys i).1) (hn : ys.length ≤ 20) :
    hR (hT (ys.map (·.1))) = (ys.map (·.1), 0, 0) ∧ (bs (hT (ys.map (·.1)))).size ≤ 1000000000 ∧ ∀ l ∈ (cutL 10 (tx (bs (hT (ys.map (·.1)))))).1, l.length ≤ 900000 := by
  have ha := all_of h
  have hb' := mem_ye (p := bdE) hb
  have hll : ∀ l ∈ (ys.map (·.1)).map lineE, l.length ≤ 900000 := by
    intro l hl
    obtain ⟨x, hx, rfl⟩ := List.mem_map.1 hl
    exact line_len (List.all_eq_true.1 ha x hx) (hb' x hx) (by have := (mem_ye (p := SmE) hs x hx).2.2.2.2.1; omega)
  refine ⟨hT_read _ ha hb' (by rw [List.length_map]; omega), ?_, ?_⟩
  · rw [bs_size, hT_t ha]
    have h1 := flat_len _ hll
    rw [List.length_map, List.length_map] at h1
    have h2 : ys.length * (900000 + 1) ≤ 20 * 900001 := Nat.mul_le_mul_right _ hn
    omega
  · rw [tx_bs, hT_t ha, cut_hT _ ha hb']
    exact hll
set_option maxRecDepth 100000 in
set_option maxHeartbeats 8000000 in
theorem law_back_h (v : Value) (ys : List YE) (w : World) (ht : Tbs w) (hp : Pt w) (hv : YSl w v ys) (hl : InL w ys) (hg : ∀ i, i < ys.length → bdE (ye ys i).1 ∧ LgE (ye ys i).1) :
    Calls Tryz.prog 4 #[v] w fun e w' => e = .returned (.bool true) ∧ Below w.heap.size w w' := by
  have HT : Hid (Tbs w) := ht
  have HP : Hid (Pt w) := hp
  have HG : Hid (∀ i, i < ys.length → bdE (ye ys i).1 ∧ LgE (ye ys i).1) := hg
  have HI : Hid (InL w ys) := hl
  obtain ⟨a, c, rfl, _, _, _⟩ := hv.form
  have HV : Hid (YSl w (.slice a ys.length c) ys) := hv
  obtain ⟨n, hnn⟩ : ∃ n, ys.length = n := ⟨_, rfl⟩
  have HN : Hid (ys.length = n) := hnn
  rw [hnn] at HV ⊢
  clear ht hp hv hl hg hnn
  go_enter Tryz.func4, Tryz.ntmps4
  go_wp2_with fail
  refine (wakes_h _ HT.out).mono ?_
  rintro e w1 ⟨rfl, hb1⟩
  have Hb1 : Hid (Below w.heap.size w w1) := hb1
  clear hb1
  go_wp2_with fail
  refine (rgreat_h (.slice a n c) ys 20 w1 (HV.out.later Hb1.out) (HI.out.later Hb1.out) (fun i hi => (HG.out i hi).2)).mono ?_
  rintro e w2 ⟨g, rfl, hsm, hb2⟩
  have Hb2 : Hid (Below w.heap.size w w2) := below_next Hb1.out hb2
  clear hb2
  cases g
  case true =>
    clear hsm
    go_wp2
    go_ret
    exact ⟨rfl, Hb2.out⟩
  obtain ⟨hs1, hs2⟩ := hsm rfl
  have HS : Hid (ys.length ≤ 20 ∧ ∀ i, i < ys.length → SmE (ye ys i).1) := ⟨hs1, hs2⟩
  have HOk : Hid (OkYs ys) := fun i hi => ⟨(hs2 i hi).sz, (HG.out i hi).1, by have := (hs2 i hi).2.2.2.2.1; omega⟩
  have HBk : Hid ((∀ i, i < ys.length → rightE (ye ys i).1 = true) → hR (hT (ys.map (·.1))) = (ys.map (·.1), 0, 0) ∧ (bs (hT (ys.map (·.1)))).size ≤ 1000000000 ∧ ∀ l ∈ (cutL 10 (tx (bs (hT (ys.map (·.1)))))).1, l.length ≤ 900000) := fun h => back_told h (fun i hi => (HG.out i hi).1) hs2 hs1
  have hn20 : n ≤ 20 := by rw [← HN.out]; exact hs1
  clear hsm hs1 hs2
  obtain ⟨S, hS⟩ : ∃ S, bs (hT (ys.map (·.1))) = S := ⟨_, rfl⟩
  have HSe : Hid (bs (hT (ys.map (·.1))) = S) := hS
  have hP := fun w' (hb : Below w.heap.size w w') => hprint_any (.slice a n c) ys w' (HT.out.later hb) (HP.out.later hb) (HV.out.later hb) (HI.out.later hb) HOk.out (by rw [HN.out]; omega)
  have hRP := fun w' (hb : Below w.heap.size w w') => rprint_h (.slice a n c) ys w' (HV.out.later hb) (HI.out.later hb) HOk.out (by rw [HN.out]; omega)
  rw [hS] at hP hRP
  have HPr : Hid (∀ w', Below w.heap.size w w' → _) := hP
  have HRp : Hid (∀ w', Below w.heap.size w w' → _) := hRP
  have hss : (S.toList == S.toList) = true := by simp
  clear hP hRP hS
  go_wp2_with fail
  refine (HPr.out _ Hb2.out).mono ?_
  rintro e w3 ⟨rfl, hb3⟩
  have Hb3 : Hid (Below w.heap.size w w3) := below_next Hb2.out hb3
  clear hb3 HPr
  go_wp2_with fail
  refine (HRp.out _ Hb3.out).mono ?_
  rintro e w4 ⟨rfl, hb4⟩
  have Hb4 : Hid (Below w.heap.size w w4) := below_next Hb3.out hb4
  clear hb4 HRp
  go_wp2_with fail
  go_loopw [20] (fun i wr => ∃ k : Nat, k ≤ n ∧ i = .int .i64 (k : Int) ∧ (∀ i, i < k → rightE (ye ys i).1 = true) ∧ Below w.heap.size w wr) (fun i wr => n - (intOf i).toNat)
  case atStart => exact ⟨0, Nat.zero_le _, rfl, fun i hi => absurd hi (Nat.not_lt_zero i), Hb4.out⟩
  case round =>
    obtain ⟨k, hk, rfl, hall, hb⟩ := hrel
    have HA : Hid (∀ i, i < k → rightE (ye ys i).1 = true) := hall
    have HB : Hid (Below w.heap.size w wr) := hb
    clear hall hb
    by_cases hlt : k < n
    · have hlt' : (k : Int) < (n : Int) := by omega
      have hly : k < ys.length := by rw [HN.out]; exact hlt
      obtain ⟨b, o, rfl, hb1⟩ := HV.out.block (by omega)
      have ry := (HV.out.later HB.out).at hly
      have ql := (HI.out.later HB.out) k hly
      have qo := HOk.out k hly
      have HNo : Hid (rightE (ye ys k).1 = false → S = ⟨#[]⟩) := fun h => by rw [← HSe.out, hT_none hly h]; rfl
      have HAs : Hid (rightE (ye ys k).1 = true → ∀ i, i < k + 1 → rightE (ye ys i).1 = true) := fun h i hi => by
        by_cases e : i = k
        · rw [e]; exact h
        · exact HA.out i (by omega)
      rcases hye : ye ys k with ⟨X, va, vr⟩
      rw [hye] at ry ql qo HNo HAs
      have RY : Hid (wr.rangeAt b (o + k * 14) (evC X va vr)) := ry
      have HQ : Hid (VSl wr va X.a ∧ VSl wr vr X.r) := ql
      have HU1 : Hid (va.oneCell' = true ∧ vr.oneCell' = true) := ⟨vsl_oneC ql.1, vsl_oneC ql.2⟩
      have hE := fun w' (hb : Below wr.heap.size wr w') => rright_ev X va vr w' (HQ.out.1.later hb) (HQ.out.2.later hb) qo.1
      have HE : Hid (∀ w', Below wr.heap.size wr w' → _) := hE
      have C1 : Blk (wr.alloc (.cells #[.int .i64 0, .int .i64 0, .int .i64 0, .string ⟨#[]⟩, .int .i64 0, .int .i64 0, .int .i64 0, .int .i64 0, .string ⟨#[]⟩, .int .i64 0, .slice none 0 0, .slice none 0 0, .bool false, .string ⟨#[]⟩] 37)) wr.heap.size (evC noEv nilS nilS) 37 := Blk.new wr (evC noEv nilS nilS) 37
      have Hb5' : Hid (Below wr.heap.size wr (wr.alloc (.cells #[.int .i64 0, .int .i64 0, .int .i64 0, .string ⟨#[]⟩, .int .i64 0, .int .i64 0, .int .i64 0, .int .i64 0, .string ⟨#[]⟩, .int .i64 0, .slice none 0 0, .slice none 0 0, .bool false, .string ⟨#[]⟩] 37))) := below_more (Below.refl _ _) _
      clear ry ql qo hE hye hb1
      go_wp2_with (first
        | ((with_reducible refine wpList_load_mid ?_ 37 (.tmp 22) ?_ b (o + k * 14) ?_ (evC X va vr) _ RY.out Tryz.underlying37 ?_ ?_ ?_); (exact rfl); (exact rfl); (exact rfl); (exact rfl); (exact sizeE))
        | ((with_reducible refine wp_storeB 37 (.tmp 5) (.tmp 23) wr.heap.size 0 (evC X va vr) (evC noEv nilS nilS) 37 ?_ ?_ (evC_one _ HU1.out.1 HU1.out.2) ?_ ?_ ?_ C1 ?_); (exact sizeE); (exact (show 0 + 14 ≤ 14 by decide)); (exact ⟨rfl, rfl⟩); (exact rfl); (exact rfl); (intro w5 D1 o5); (replace D1 : Blk w5 wr.heap.size (evC X va vr) 37 := D1); (have HD : Hid (Blk w5 wr.heap.size (evC X va vr) 37) := D1); (have Hb5 : Hid (Below wr.heap.size wr w5) := below_oth Hb5'.out o5 (Nat.le_refl _) (Nat.le_refl _) Hb5'.out.size); clear C1 D1 o5 Hb5')
        | ((with_reducible refine wp_loadB 37 (.tmp 5) wr.heap.size 0 (evC X va vr) (evC X va vr) 37 _ Tryz.underlying37 ?_ ?_ ?_ ?_ HD.out (fun j v hv => by rw [Nat.zero_add]; exact hv) ?_); (exact rfl); (exact sizeE); (exact ⟨rfl, rfl⟩); (exact rfl)))
      refine (HE.out w5 Hb5.out).mono ?_
      rintro e w6 ⟨rfl, b6⟩
      have Hb6 : Hid (Below w.heap.size w w6) := below_next HB.out (below_next Hb5.out b6)
      clear b6 HE
      cases hr : rightE X
      · have hSn := HNo.out hr
        subst hSn
        go_wp2
        go_ret
        exact ⟨rfl, Hb6.out⟩
      · have HAx : Hid (∀ i, i < k + 1 → rightE (ye ys i).1 = true) := HAs.out hr
        clear hr
        go_wp2
        go_roundw
        case rel => exact ⟨k + 1, by omega, by go_num, HAx.out, Hb6.out⟩
        case measure => simp [intOf]; omega
    · have e : k = n := by omega
      subst e
      obtain ⟨g1, g2, g3⟩ := HBk.out (by rw [HN.out]; exact HA.out)
      rw [HSe.out] at g2 g3
      have hPa := fun w' (hb : Below w.heap.size w w') => hparse_any S w' (HT.out.later hb) g2 g3
      unfold PHist at hPa
      have hSt : tx S = hT (ys.map (·.1)) := by rw [← HSe.out]; rfl
      rw [hSt, g1] at hPa
      have HPa : Hid (∀ w', Below w.heap.size w w' → _) := hPa
      clear hPa hSt g1 g2 g3
      have hq := eqF
      have hg := eqgF
      have hs := eqfB_self
      go_wp2_with fail
      refine (HPa.out _ HB.out).mono ?_
      rintro e w5 ⟨u, zs, rfl, hm, ho, hl, _, hb5⟩
      obtain ⟨a', c', rfl⟩ := ho.form
      have U5 : Hid (ESl w5 (.slice a' zs.length c') (ys.map (·.1))) := by show ESl _ _ _; rw [← hm]; exact ho.esl hl
      have Hb5 : Hid (Below w.heap.size w w5) := below_next HB.out hb5
      clear hm ho hl hb5
      generalize zs.length = m at *
      have HB6 : Hid (Below w5.heap.size w5 (w5.alloc (.cells #[.int .i64 0, .int .i64 0] 26))) := below_more (Below.refl _ _) _
      have hSa := same_h (.slice a' m c') (.slice a k c) (ys.map (·.1)) (w5.alloc (.cells #[.int .i64 0, .int .i64 0] 26)) (U5.out.later HB6.out) ⟨ys, rfl, HV.out.later (below_next Hb5.out HB6.out), HI.out.later (below_next Hb5.out HB6.out)⟩
        (mem_ye (p := MlE) fun i hi => ⟨by have := (HS.out.2 i hi).2.2.2.1; omega, by have := (HS.out.2 i hi).2.2.2.2.1; omega⟩) (by rw [List.length_map, HN.out]; omega)
      have HSa : Hid (Calls Tryz.prog 11 #[.slice a' m c', .slice a k c] (w5.alloc (.cells #[.int .i64 0, .int .i64 0] 26)) fun e w' => e = .returned (.bool true) ∧ Below (w5.alloc (.cells #[.int .i64 0, .int .i64 0] 26)).heap.size (w5.alloc (.cells #[.int .i64 0, .int .i64 0] 26)) w') := hSa
      clear hSa
      go_wp2_with (go_at_call 11; refine Calls.mono HSa.out ?_; rintro e w6 ⟨rfl, hb6⟩)
      go_ret
      exact ⟨by simp, below_next (below_next Hb5.out HB6.out) hb6⟩
end Go.Proofs.YtdhlheilgagcpaaGreatDoor
