/- The walk of PairOpers. Conditions: the table and the history lie in memory; numbers of 64 bits. -/
import Derived.Test.YtgdegbmakbfaaaaDoorBQA
import Derived.Test.YtgdegbmakbfaaaaDoorBPO
namespace Go.Proofs.YtgdegbmakbfaaaaDoor
open Go.RowKit Go.PlainAid Ln
set_option linter.unusedVariables false
set_option linter.unusedSimpArgs false

theorem op_ml {ys : List YE} (hz : ∀ i, i < ys.length → SzE (ye ys i).1) {i : Nat} (hi : i < ys.length) : MlO (opOf (ys.map (·.1)) i) := by
  have h1 : (ev (ys.map (·.1)) i).a.length ≤ 1000000 := by rw [ev_ye]; exact (hz i hi).2.2.2.2.1
  by_cases h : nty (ys.map (·.1)) i = 2
  · rw [opOf_2 h]
    refine ⟨h1, ?_⟩
    show (ev (ys.map (·.1)) (nxt (ys.map (·.1)) i).toNat).r.length ≤ 1000000
    rcases nxt_lo (ys.map (·.1)) i (by rw [List.length_map]; exact hi) with ⟨e, _⟩ | ⟨k, e, _, hk, _⟩
    · unfold nty at h; rw [e, if_neg (by decide)] at h; exact absurd h (by decide)
    · rw [e, Int.toNat_natCast, ev_ye]
      rw [List.length_map] at hk
      exact (hz k hk).2.2.2.2.2
  · rw [opOf_n h]
    exact ⟨h1, Nat.zero_le _⟩
theorem ops_ml {ys : List YE} (hz : ∀ i, i < ys.length → SzE (ye ys i).1) : ∀ x ∈ opsE (ys.map (·.1)), MlO x := by
  intro x hx
  unfold opsE opsTo at hx
  rw [List.mem_filterMap] at hx
  obtain ⟨i, hi, he⟩ := hx
  rw [List.mem_range, List.length_map] at hi
  split at he
  · injection he with he
    rw [← he]; exact op_ml hz hi
  · cases he
set_option maxRecDepth 100000 in
set_option maxHeartbeats 8000000 in
theorem law_opers (v : Value) (ys : List YE) (w : World) (ht : Tb w) (hy : YSl w v ys) (hi : InL w ys) (hb : InE ys) : Calls Tryd.prog 4 #[v] w fun e w' => e = .returned (.bool true) ∧ Below w.heap.size w w' := by
  have HT : Hid (Tb w) := ht
  have HY : Hid (YSl w v ys) := hy
  have HI : Hid (InL w ys) := hi
  have HK : Hid (∀ i, i < ys.length → KV (ye ys i).1.c) := ine_kv hb
  have HG : Hid (∀ i, i < ys.length → LgE (ye ys i).1) := fun i h => (hb i h).2.1
  clear ht hy hi hb
  go_enter Tryd.func4, Tryd.ntmps4
  go_wp2_with fail
  refine (wakes_p _ HT.out).mono ?_
  rintro e w1 ⟨rfl, b1⟩
  have Hb1 : Hid (Below w.heap.size w w1) := b1
  clear b1
  go_wp2_with fail
  refine (rgreat_h v ys 60 w1 (HY.out.later Hb1.out) (HI.out.later Hb1.out) HG.out).mono ?_
  rintro e w2 ⟨g, rfl, hsm, b2⟩
  have Hb2 : Hid (Below w.heap.size w w2) := below_next Hb1.out b2
  clear b2
  cases g
  case true =>
    go_wp2
    go_ret
    exact ⟨rfl, Hb2.out⟩
  obtain ⟨hl, hse⟩ := hsm rfl
  have HL : Hid (ys.length ≤ 60) := hl
  have HZ : Hid (∀ i, i < ys.length → SzE (ye ys i).1) := fun i h => (hse i h).sz
  clear hsm hl hse
  go_wp2_with fail
  refine (opers_any v ys w2 (HY.out.later Hb2.out) (HI.out.later Hb2.out) HZ.out HK.out (by have := HL.out; omega) (HT.out.later Hb2.out)).mono ?_
  rintro e w3 ⟨vl, yo, rfl, hok, hbad, b3⟩
  have Hb3 : Hid (Below w.heap.size w w3) := below_next Hb2.out b3
  clear b3
  have HR : Hid (∀ w', Below w.heap.size w w' → Calls Tryd.prog 11 #[v] w' fun e w'' => e = .returned (.tuple #[.int .i64 (checkE (ys.map (·.1))).1, .int .i64 (checkE (ys.map (·.1))).2]) ∧ Below w'.heap.size w' w'') :=
    fun w' h => rcheck_any v ys w' (HY.out.later h) (HI.out.later h) HZ.out (by have := HL.out; omega)
  have HML : Hid (∀ x ∈ opsE (ys.map (·.1)), MlO x) := ops_ml HZ.out
  have HLo : Hid ((opsE (ys.map (·.1))).length ≤ 60) := by
    have h1 := opsTo_len (ys.map (·.1)) (ys.map (·.1)).length
    rw [List.length_map] at h1
    have h2 := HL.out
    show _ ≤ _
    unfold opsE
    rw [List.length_map]
    omega
  generalize checkE (ys.map (·.1)) = ck at *
  have HOk : Hid (ck.1 = 0 → yo.map (·.1) = opsE (ys.map (·.1)) ∧ OwnO w3 w2.heap.size vl yo ∧ OwnLO w3 w2.heap.size yo) := hok
  have HBad : Hid (ck.1 ≠ 0 → vl = nilS) := hbad
  clear hok hbad
  go_wp2_with fail
  have B1 := FBox.new w3 ck.1 ck.2 27
  have hb4 := below_more Hb3.out (.cells #[.int .i64 ck.1, .int .i64 ck.2] 27)
  have h34 := below_more (Below.refl w3.heap.size w3) (.cells #[.int .i64 ck.1, .int .i64 ck.2] 27)
  obtain ⟨p, hp⟩ : ∃ p, p = w3.heap.size := ⟨_, rfl⟩
  rw [← hp] at B1 ⊢
  generalize w3.alloc (.cells #[.int .i64 ck.1, .int .i64 ck.2] 27) = w4 at B1 hb4 h34 ⊢
  refine (HR.out w4 hb4).mono ?_
  rintro e w5 ⟨rfl, b5⟩
  obtain ⟨c6, c0, c1, z0, z1⟩ := B1.later b5
  have Hb5 : Hid (Below w.heap.size w w5) := below_next hb4 b5
  have H35 : Hid (Below w3.heap.size w3 w5) := below_next h34 b5
  clear b5 hb4 h34 B1 hp
  by_cases h0 : ck.1 = 0
  case neg =>
    have hne : (ck.1 != 0) = true := by simp [h0]
    obtain rfl := HBad.out h0
    clear h0 HOk HBad
    go_wp2
    go_ret
    exact ⟨rfl, Hb5.out⟩
  have hne : (ck.1 != 0) = false := by simp [h0]
  obtain ⟨hm, ho, hlo⟩ := HOk.out h0
  have HO1 : Hid (OpSl w5 vl (opsE (ys.map (·.1)))) := by rw [← hm]; exact (ho.opsl hlo).later H35.out
  clear h0 HOk HBad hm ho hlo
  go_wp2_with fail
  refine (ropers_any v ys w5 (HY.out.later Hb5.out) (HI.out.later Hb5.out) (by have := HL.out; omega)).mono ?_
  rintro e w6 ⟨vr, yr, rfl, hm, ho, hin, b6⟩
  have Hb6 : Hid (Below w.heap.size w w6) := below_next Hb5.out b6
  have HO2 : Hid (OpSl w6 vl (opsE (ys.map (·.1)))) := HO1.out.later b6
  have HO3 : Hid (OpSl w6 vr (opsE (ys.map (·.1)))) := ⟨yr, hm, ho.osl, hin.later b6⟩
  clear hm ho hin b6
  go_wp2_with fail
  refine (rsame_o vl vr _ w6 HO2.out HO3.out HML.out (by have := HLo.out; omega)).mono ?_
  rintro e w7 ⟨rfl, b7⟩
  have Hb7 : Hid (Below w.heap.size w w7) := below_next Hb6.out b7
  clear b7
  go_wp2
  go_ret
  exact ⟨rfl, Hb7.out⟩
end Go.Proofs.YtgdegbmakbfaaaaDoor
