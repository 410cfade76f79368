/- The walk of PairBegins. Conditions: the table and the history lie in memory; numbers of 64 bits. -/
import Derived.Test.YtgdegbmakbfaaaaDoorQB
import Derived.Test.YtgdegbmakbfaaaaDoorQC
namespace Go.Proofs.YtgdegbmakbfaaaaDoor
open Go.RowKit Go.PlainAid Ln
set_option linter.unusedVariables false
set_option linter.unusedSimpArgs false

/-- what the two lists of operations have in common -/
theorem cnt_same {xs : List Ev} {n : Nat} (hn : n ≤ xs.length) {a : Nat} : ∀ d, a + d ≤ n → (opsTo (xs.take n) a).length = (opsTo (xs.take n) (a + d)).length → (opsTo xs a).length = (opsTo xs (a + d)).length
  | 0, _, _ => rfl
  | d + 1, h, he => by
    have h1 := opsTo_mono (xs.take n) (show a ≤ a + d by omega)
    have h2 := opsTo_mono (xs.take n) (show a + d ≤ a + (d + 1) by omega)
    have ih := cnt_same hn (a := a) d (by omega) (by omega)
    have hno : isOp (xs.take n) (a + d) = false := by
      cases hh : isOp (xs.take n) (a + d)
      · rfl
      · rw [show a + (d + 1) = a + d + 1 by omega, opsTo_yes hh, List.length_append] at he
        simp only [List.length_cons, List.length_nil] at he
        omega
    have hno2 : isOp xs (a + d) = false := by
      cases hh : isOp xs (a + d)
      · rfl
      · rw [isOp_take (by omega) hn hh] at hno; cases hno
    rw [show a + (d + 1) = a + d + 1 by omega, opsTo_no hno2]
    exact ih
theorem cnt_eq {xs : List Ev} {n a b : Nat} (hn : n ≤ xs.length) (ha : a ≤ n) (hb : b ≤ n) (h : (opsTo (xs.take n) a).length = (opsTo (xs.take n) b).length) : (opsTo xs a).length = (opsTo xs b).length := by
  rcases Nat.lt_or_ge b a with h1 | h1
  rotate_left
  · obtain ⟨d, rfl⟩ : ∃ d, b = a + d := ⟨b - a, by omega⟩
    exact cnt_same hn d hb h
  · obtain ⟨d, rfl⟩ : ∃ d, a = b + d := ⟨a - b, by omega⟩
    exact (cnt_same hn d ha h.symm).symm
theorem cnt_lt {xs : List Ev} {p q : Nat} (hp : isOp xs p = true) (h : p < q) : (opsTo xs p).length < (opsTo xs q).length := by
  have h1 := opsTo_mono xs (show p + 1 ≤ q by omega)
  rw [opsTo_yes hp, List.length_append] at h1
  simp at h1
  omega
theorem ye_take (ys : List YE) {n i : Nat} (h : i < n) : ye (ys.take n) i = ye ys i := by unfold ye; rw [List.getD_eq_getElem?_getD, List.getD_eq_getElem?_getD, List.getElem?_take, if_pos h]
/-- what a history begins with, as a slice -/
theorem ysl_take {w : World} {a : Option Addr} {q c : Nat} {ys : List YE} (h : YSl w (.slice a q c) ys) {n : Nat} (hn : n ≤ ys.length) : YSl w (.slice a n c) (ys.take n) := by
  obtain ⟨a', c', hv, hl, hc, hr⟩ := h
  injection hv with ha hnn hcc
  subst ha hcc hnn
  have hlen : (ys.take n).length = n := by rw [List.length_take]; omega
  refine ⟨a, c, by rw [hlen], by omega, hc, ?_⟩
  rcases hr with ⟨h3, h4⟩ | ⟨b, o, rfl, hb, hat⟩
  · subst h3
    exact .inl ⟨by simp, h4⟩
  · exact .inr ⟨b, o, rfl, hb, fun i hi => by rw [hlen] at hi; rw [ye_take ys hi]; exact hat i (by omega)⟩
theorem elemE : Tryd.prog.elem 22 = 47 := by kernel_rfl
theorem undE : Tryd.prog.underlying 22 = some (.slice (Tryd.prog.elem 22)) := by kernel_rfl
theorem run_cut_hE (k : IntKind) (a : Option Addr) (n c m : Nat) (hm : m ≤ c) (w : World) : (Instr.sliceAt 22 (.slice a n c) none (some (.int k (m : Int))) none).run Tryd.prog w = .ok (sliced a 0 m c 14) w := by
  rw [run_sliceAt_slice w 22 _ _ _ _ undE, run_slice_h w 22 _ _ _ undE k _ (by omega) (by omega), elemE, Tryd.sizeOf47, Int.toNat_natCast]; rfl
theorem sliced0E (a : Option Addr) (m c : Nat) : sliced a 0 m c 14 = .slice a m c := by
  unfold sliced
  by_cases hc : c = 0
  · rw [if_pos hc]; rfl
  · rw [if_neg hc]
    cases a with
    | none => rfl
    | some ad => obtain ⟨b, o, s⟩ := ad; simp [Addr.add]
theorem run_code (x y : Int) (w : World) : (Instr.field 27 (.agg #[.int .i64 x, .int .i64 y]) 0).run Tryd.prog w = .ok (.int .i64 x) w := by
  have u := Tryd.underlying27
  have a5 := Tryd.isAgg25
  have z5 := Tryd.sizeOf25
  simp [Instr.field, run_underlying u, go_sem, a5, z5, asAgg]
theorem wf_u8 {n : Int} (h : (Lit.int .u8 n).wf = true) : 0 ≤ n ∧ n ≤ 255 := by
  have h' : (decide (IntKind.u8.min ≤ n) && decide (n ≤ IntKind.u8.max)) = true := h
  rw [Bool.and_eq_true, decide_eq_true_eq, decide_eq_true_eq] at h'
  exact ⟨Int.le_trans (by decide) h'.1, Int.le_trans h'.2 (by decide)⟩
set_option maxRecDepth 100000 in
set_option maxHeartbeats 16000000 in
theorem law_begins (v : Value) (ys : List YE) (cut : Int) (w : World) (ht : Tb w) (hy : YSl w v ys) (hi : InL w ys) (hb : InE ys) (hcut : (Lit.int .u8 cut).wf = true) : Calls Tryd.prog 6 #[v, .int .u8 cut] w fun e w' => e = .returned (.bool true) ∧ Below w.heap.size w w' := by
  have mixed : Tryd.prog.follows .mixedOrders = true := by kernel_rfl
  have HT : Hid (Tb w) := ht
  have HY : Hid (YSl w v ys) := hy
  have HI : Hid (InL w ys) := hi
  have HK : Hid (∀ i, i < ys.length → KV (ye ys i).1.c) := ine_kv hb
  have HG : Hid (∀ i, i < ys.length → LgE (ye ys i).1) := fun i h => (hb i h).2.1
  obtain ⟨hu0, hu1⟩ := wf_u8 hcut
  clear ht hi hb hcut
  obtain ⟨ha, hc, rfl, hc1, hc2, _⟩ := hy.form
  clear hy
  obtain ⟨q, hq⟩ : ∃ q, ys.length = q := ⟨_, rfl⟩
  have HQ : Hid (ys.length = q) := hq
  rw [hq] at HK HG hc1 ⊢
  rw [hq] at HY
  clear hq
  go_enter Tryd.func6, Tryd.ntmps6
  go_wp2_with fail
  refine (wakes_p _ HT.out).mono ?_
  rintro e w1 ⟨rfl, b1⟩
  have Hb1 : Hid (Below w.heap.size w w1) := b1
  clear b1
  go_wp2_with fail
  refine (rgreat_h _ ys 60 w1 (HY.out.later Hb1.out) (HI.out.later Hb1.out) (by rw [HQ.out]; exact HG.out)).mono ?_
  rintro e w2 ⟨g, rfl, hsm, b2⟩
  have Hb2 : Hid (Below w.heap.size w w2) := below_next Hb1.out b2
  clear b2
  cases g
  case true =>
    go_wp2
    go_ret
    exact ⟨rfl, Hb2.out⟩
  obtain ⟨hl, hse⟩ := hsm rfl
  have HL : Hid (q ≤ 60) := by rw [HQ.out] at hl; exact hl
  have HZ : Hid (∀ i, i < q → SzE (ye ys i).1) := fun i h => (hse i (by rw [HQ.out]; exact h)).sz
  clear hsm hl hse
  by_cases hq0 : q = 0
  · have e0 : ((q : Int) == 0) = true := by simp [hq0]
    clear hq0
    go_wp2
    go_ret
    exact ⟨rfl, Hb2.out⟩
  have e0 : ((q : Int) == 0) = false := by simp [hq0]
  have HQ0 : Hid (0 < q) := Nat.pos_of_ne_zero hq0
  clear hq0
  go_wp2_with fail
  refine (check_any _ ys w2 (HY.out.later Hb2.out) (HI.out.later Hb2.out) (by rw [HQ.out]; exact HZ.out) (by rw [HQ.out]; exact HK.out) (by rw [HQ.out]; have := HL.out; omega) (HT.out.later Hb2.out)).mono ?_
  rintro e w3 ⟨rfl, b3⟩
  have Hb3 : Hid (Below w.heap.size w w3) := below_next Hb2.out b3
  clear b3
  have HLx : Hid ((ys.map (·.1)).length = q) := by show _ = _; rw [List.length_map]; exact HQ.out
  have HMap : Hid (∀ m, (ys.take m).map (·.1) = (ys.map (·.1)).take m) := fun m => List.map_take
  obtain ⟨xs, hxs⟩ : ∃ xs, ys.map (·.1) = xs := ⟨_, rfl⟩
  have HXs : Hid (ys.map (·.1) = xs) := hxs
  rw [hxs] at HLx HMap ⊢
  clear hxs
  obtain ⟨ck, hck⟩ : ∃ ck, checkE xs = ck := ⟨_, rfl⟩
  rw [hck]
  have HCk : Hid (checkE xs = ck) := hck
  clear hck
  by_cases h0 : ck.1 = 0
  case neg =>
    have hfld := run_code ck.1 ck.2
    have hne : (ck.1 != 0) = true := by simp [h0]
    clear h0
    go_wp2
    go_ret
    exact ⟨rfl, Hb3.out⟩
  have hfld := run_code ck.1 ck.2
  have hne : (ck.1 != 0) = false := by simp [h0]
  have HOkE : Hid (okE xs xs.length) := by
    rcases okE_cases xs with ⟨k, h1, h2, h3⟩ | h
    · have := checkE_bad h1 h2 h3
      rw [HCk.out] at this
      rw [this] at h0
      exact absurd h0 h3
    · exact h
  have HCk0 : Hid (checkE xs = (0, 0)) := checkE_ok HOkE.out
  clear h0
  obtain ⟨m, hm⟩ : ∃ m : Nat, cut % ((q : Int) + 1) = (m : Int) := ⟨(cut % ((q : Int) + 1)).toNat, by
    have := Int.emod_nonneg cut (show (q : Int) + 1 ≠ 0 by omega); omega⟩
  have hm2 : cut.tmod ((q : Int) + 1) = (m : Int) := by rw [Int.tmod_eq_emod_of_nonneg hu0]; exact hm
  have hmq : m ≤ q := by
    have := Int.emod_lt_of_pos cut (show (0 : Int) < (q : Int) + 1 by omega)
    rw [hm] at this; omega
  have hl60 := HL.out
  have ht0 : ((q : Int) + 1 == 0) = false := by simp; omega
  have hcutE : ∀ w, (Instr.sliceAt 22 (.slice ha q hc) none (some (.int .i64 (m : Int))) none).run Tryd.prog w = .ok (.slice ha m hc) w := fun w => by rw [run_cut_hE .i64 ha q hc m (by omega) w, sliced0E]
  go_wp2_with fail
  have hps : (xs.take m).length = m := by rw [List.length_take, HLx.out]; omega
  have hok1 := ok_take HOkE.out m
  refine (opers_any _ (ys.take m) w3 (ysl_take (HY.out.later Hb3.out) (by rw [HQ.out]; exact hmq)) (fun i h => by
      have h' : i < m := by rw [List.length_take] at h; omega
      rw [ye_take ys h']; exact (HI.out.later Hb3.out) i (by rw [HQ.out]; omega)) (fun i h => by
      have h' : i < m := by rw [List.length_take] at h; omega
      rw [ye_take ys h']; exact HZ.out i (by omega)) (fun i h => by
      have h' : i < m := by rw [List.length_take] at h; omega
      rw [ye_take ys h']; exact HK.out i (by omega)) (by rw [List.length_take]; omega) (HT.out.later Hb3.out)).mono ?_
  rintro e w4 ⟨v1, zs1, rfl, hk1, _, b4⟩
  rw [HMap.out m, checkE_ok hok1] at hk1 ⊢
  obtain ⟨hm1, ho1, hlo1⟩ := hk1 rfl
  have Hb4 : Hid (Below w.heap.size w w4) := below_next Hb3.out b4
  obtain ⟨a1, c1, rfl, hcc1, hcm1, _⟩ := ho1.osl.form
  have HM1 : Hid (zs1.map (·.1) = opsE (xs.take m)) := hm1
  have HS1 : Hid (OSl w4 (.slice a1 zs1.length c1) zs1) := ho1.osl
  have HI1 : Hid (InO w4 zs1) := hlo1.inL
  have HPs : Hid ((xs.take m).length = m) := hps
  have HL1 : Hid (zs1.length ≤ 60) := by
    have h1 := congrArg List.length hm1
    rw [List.length_map] at h1
    have h2 := opsTo_len (xs.take m) (xs.take m).length
    show _ ≤ _
    unfold opsE at h1
    omega
  clear b4 hk1 hm1 ho1 hlo1 hok1 hps hcutE ht0 hm hm2 hfld hne
  obtain ⟨n1, hn1⟩ : ∃ n1, zs1.length = n1 := ⟨_, rfl⟩
  have HN1 : Hid (zs1.length = n1) := hn1
  rw [hn1] at HS1 HL1 hcc1 ⊢
  clear hn1
  go_wp2_with fail
  have h45 := below_more (Below.refl w4.heap.size w4) (.cells #[.int .i64 0, .int .i64 0] 27)
  have B1 := FBox.new w4 0 0 27
  obtain ⟨f1, hf1⟩ : ∃ p, p = w4.heap.size := ⟨_, rfl⟩
  rw [← hf1] at B1 ⊢
  generalize w4.alloc (.cells #[.int .i64 0, .int .i64 0] 27) = w5 at h45 B1 ⊢
  have Hb5 : Hid (Below w.heap.size w w5) := below_next Hb4.out h45
  have HS15 : Hid (OSl w5 (.slice a1 n1 c1) zs1) := HS1.out.later h45
  have HI15 : Hid (InO w5 zs1) := HI1.out.later h45
  clear h45 hf1
  refine (opers_any _ ys w5 (HY.out.later Hb5.out) (HI.out.later Hb5.out) (by rw [HQ.out]; exact HZ.out) (by rw [HQ.out]; exact HK.out) (by rw [HQ.out]; omega) (HT.out.later Hb5.out)).mono ?_
  rintro e w6 ⟨v2, zs2, rfl, hk2, _, b6⟩
  have hxs : ys.map (·.1) = xs := HXs.out
  rw [hxs, HCk0.out] at hk2 ⊢
  obtain ⟨hm2, ho2, hlo2⟩ := hk2 rfl
  obtain ⟨a2, c2, rfl, hcc2, hcm2, _⟩ := ho2.osl.form
  have HM2 : Hid (zs2.map (·.1) = opsE xs) := hm2
  have HL2 : Hid (zs2.length ≤ 60) := by
    have h1 := congrArg List.length hm2
    rw [List.length_map] at h1
    have h2 := opsTo_len xs xs.length
    have h3 := HLx.out
    show _ ≤ _
    unfold opsE at h1
    omega
  have hS2 := ho2.osl
  have hI2 := hlo2.inL
  replace B1 := B1.later b6
  have Hb6 : Hid (Below w.heap.size w w6) := below_next Hb5.out b6
  have HS16 : Hid (OSl w6 (.slice a1 n1 c1) zs1) := HS15.out.later b6
  have HI16 : Hid (InO w6 zs1) := HI15.out.later b6
  clear b6 hk2 hm2 ho2 hlo2 hxs
  obtain ⟨n2, hn2⟩ : ∃ n2, zs2.length = n2 := ⟨_, rfl⟩
  have HN2 : Hid (zs2.length = n2) := hn2
  rw [hn2] at hS2 HL2 hcc2 ⊢
  clear hn2
  have h67 := below_more (Below.refl w6.heap.size w6) (.cells #[.int .i64 0, .int .i64 0] 27)
  obtain ⟨d6, d0, d1, y0, y1⟩ := B1.later h67
  have Hb7 : Hid (Below w.heap.size w (w6.alloc (.cells #[.int .i64 0, .int .i64 0] 27))) := below_next Hb6.out h67
  have HS1f : Hid (OSl (w6.alloc (.cells #[.int .i64 0, .int .i64 0] 27)) (.slice a1 n1 c1) zs1) := HS16.out.later h67
  have HI1f : Hid (InO (w6.alloc (.cells #[.int .i64 0, .int .i64 0] 27)) zs1) := HI16.out.later h67
  have HS2f : Hid (OSl (w6.alloc (.cells #[.int .i64 0, .int .i64 0] 27)) (.slice a2 n2 c2) zs2) := hS2.later h67
  have HI2f : Hid (InO (w6.alloc (.cells #[.int .i64 0, .int .i64 0] 27)) zs2) := hI2.later h67
  clear hS2 hI2 h67 B1
  go_wp2_with fail
  generalize w6.alloc (.cells #[.int .i64 0, .int .i64 0] 27) = w7 at *
  clear d6 d0 d1 y0 y1
  have HML : Hid (∀ p, p < q → MlO (opOf xs p)) := fun p hp => by
    have h := op_ml (ys := ys) (by rw [HQ.out]; exact HZ.out) (i := p) (by rw [HQ.out]; exact hp)
    rw [HXs.out] at h; exact h
  go_loopw [10, 57] (fun a i wr => ∃ (k P cn : Nat), k ≤ n1 ∧ i = .int .i64 (k : Int) ∧ a = .int .i64 (cn : Int) ∧ (opsTo (xs.take m) P).length = k ∧ P ≤ m ∧ (opsTo xs P).length = cn ∧ Below w7.heap.size w7 wr) (fun a i wr => n1 - (intOf i).toNat)
  case atStart => exact ⟨0, 0, 0, Nat.zero_le _, rfl, rfl, rfl, Nat.zero_le _, rfl, Below.refl _ _⟩
  case round =>
    obtain ⟨k, P, cn, hk, rfl, rfl, hP1, hP2, hP3, hbr⟩ := hrel
    have HB : Hid (Below w7.heap.size w7 wr) := hbr
    have hlen2 : (opsTo xs xs.length).length = n2 := by
      have := congrArg List.length HM2.out
      rw [List.length_map, HN2.out] at this
      exact this.symm
    have hlen1 : (opsTo (xs.take m) m).length = n1 := by
      have := congrArg List.length HM1.out
      rw [List.length_map, HN1.out] at this
      unfold opsE at this
      rw [HPs.out] at this
      exact this.symm
    have hmx : m ≤ xs.length := by rw [HLx.out]; exact hmq
    have hcn2 : cn ≤ n2 := by rw [← hP3, ← hlen2]; exact opsTo_mono xs (by omega)
    clear hbr
    by_cases hlt : k < n1
    case neg =>
      obtain rfl : k = n1 := by omega
      have hcm : cn = (opsTo xs m).length := by rw [← hP3]; exact cnt_eq hmx hP2 (Nat.le_refl _) (by rw [hP1, hlen1])
      by_cases hend : cn = n2
      · have e1 : ((cn : Int) == (n2 : Int)) = true := by simp [hend]
        have e2 : (cn == n2) = true := by simp [hend]
        clear hP1 hP2 hP3 hlen2 hlen1 hcm hcn2 hend
        go_wp2
        go_ret
        exact ⟨rfl, below_next Hb7.out HB.out⟩
      · have e1 : ((cn : Int) == (n2 : Int)) = false := by simp; omega
        have e2 : (cn == n2) = false := by simp [hend]
        have hlt2 : cn < n2 := by omega
        have hlt2' : (cn : Int) < (n2 : Int) := by omega
        have hcn0 : (0 : Int) ≤ (cn : Int) := by omega
        obtain ⟨p2, hq1, hq2, hq3, hq4⟩ := ops_at HM2.out (i := cn) (by rw [HN2.out]; exact hlt2)
        have hge : m ≤ p2 := by
          rcases Nat.lt_or_ge p2 m with h | h
          · have := cnt_lt hq2 h; omega
          · exact h
        obtain ⟨b2, o2, rfl, hbl2⟩ := HS2f.out.block (by rw [HN2.out]; omega)
        have c10 := (HS2f.out.later HB.out).at (i := cn) (by rw [HN2.out]; exact hlt2) 10 (.int .i64 (p2 : Int)) (by rw [show encO (yo zs2 cn) = opC (yo zs2 cn).1 (yo zs2 cn).2.1 (yo zs2 cn).2.2 from rfl, hq3]; show some (Value.int .i64 (opOf xs p2).call) = _; rw [(op_place hq1).1])
        have e3 : decide ((m : Int) ≤ (p2 : Int)) = true := decide_eq_true (by omega)
        have e4 : decide (m ≤ p2) = true := decide_eq_true hge
        clear hP1 hP2 hP3 hlen2 hlen1 hcm hcn2 hend hq1 hq2 hq3 hq4 hbl2 hge hlt2
        go_wp2
        go_ret
        exact ⟨rfl, below_next Hb7.out HB.out⟩
    have hlt' : (k : Int) < (n1 : Int) := by omega
    have hk0 : (0 : Int) ≤ (k : Int) := by omega
    obtain ⟨b1, o1, rfl, hbl1⟩ := HS1f.out.block (by rw [HN1.out]; omega)
    obtain ⟨p, hp1, hp2, hp3, hp4⟩ := ops_at HM1.out (i := k) (by rw [HN1.out]; exact hlt)
    rw [HPs.out] at hp1
    have hcnp : (opsTo xs p).length = cn := by rw [← hP3]; exact cnt_eq hmx (by omega) hP2 (by rw [hp4, hP1])
    have hr := (HS1f.out.later HB.out).at (i := k) (by rw [HN1.out]; exact hlt)
    have hiu := HI1f.out.later HB.out k (by rw [HN1.out]; exact hlt)
    have hot := op_take hp1 hmx
    rcases hyk : yo zs1 k with ⟨O1, va, vb⟩
    rw [hyk] at hp3 hr hiu
    obtain rfl : O1 = opOf (xs.take m) p := hp3
    obtain ⟨ua, ma, da, rfl⟩ : ∃ a n c, va = .slice a n c := by obtain ⟨a, c, h, _⟩ := hiu.1; exact ⟨a, _, c, h⟩
    obtain ⟨ub, mb, db, rfl⟩ : ∃ a n c, vb = .slice a n c := by obtain ⟨a, c, h, _⟩ := hiu.2; exact ⟨a, _, c, h⟩
    have hc1' := (op_place (xs := xs.take m) (i := p) (by rw [HPs.out]; exact hp1)).1
    have hc2' := (op_place (xs := xs) (i := p) (by omega)).1
    have hpend := fun h => pend_take (xs := xs) hp1 hmx hp2 h
    have hstep1 : (opsTo (xs.take m) (p + 1)).length = k + 1 := by rw [opsTo_yes hp2, List.length_append, hp4]; rfl
    have HMlp := HML.out p (by rw [← HLx.out]; omega)
    obtain ⟨O1, hO1⟩ : ∃ O1, opOf (xs.take m) p = O1 := ⟨_, rfl⟩
    rw [hO1] at hr hiu hot hc1' hpend
    have HR : Hid (wr.rangeAt b1 (o1 + k * 12) (opC O1 (.slice ua ma da) (.slice ub mb db))) := hr
    have HU : Hid (VSl wr (.slice ua ma da) O1.a ∧ VSl wr (.slice ub mb db) O1.r) := hiu
    have HOt : Hid (O1 = cutO m (opOf xs p)) := hot
    have HC1 : Hid (O1.call = (p : Int)) := hc1'
    have HC2 : Hid ((opOf xs p).call = (p : Int)) := hc2'
    have HPend : Hid (isOp xs p = false → O1.ret = -1) := hpend
    have HSt1 : Hid ((opsTo (xs.take m) (p + 1)).length = k + 1) := hstep1
    have HCn : Hid ((opsTo xs p).length = cn) := hcnp
    have HPl : Hid (p < m) := hp1
    have HMl : Hid (MlO (opOf xs p)) := HMlp
    have HLn2 : Hid ((opsTo xs xs.length).length = n2) := hlen2
    clear hP1 hP2 hP3 hlen2 hlen1 hbl1 hp2 hp4 hcnp hr hiu hot hyk hc1' hc2' hpend hstep1 hO1 HMlp
    have B5 := Blk.new wr (opC O1 (.slice ua ma da) (.slice ub mb db)) 41
    change Blk (wr.alloc (.cells #[.int .i64 O1.c.1, .int .i64 O1.c.2.1, .string O1.c.2.2, .int .i64 O1.m, .int .i64 O1.k.1, .int .i64 O1.k.2.1, .string O1.k.2.2, .int .i64 O1.o, .slice ua ma da, .slice ub mb db, .int .i64 O1.call, .int .i64 O1.ret] 41)) _ _ _ at B5
    have HbA : Hid (Below wr.heap.size wr (wr.alloc (.cells #[.int .i64 O1.c.1, .int .i64 O1.c.2.1, .string O1.c.2.2, .int .i64 O1.m, .int .i64 O1.k.1, .int .i64 O1.k.2.1, .string O1.k.2.2, .int .i64 O1.o, .slice ua ma da, .slice ub mb db, .int .i64 O1.call, .int .i64 O1.ret] 41))) := below_more (Below.refl _ _) _
    obtain ⟨z, hz⟩ : ∃ z, wr.heap.size = z := ⟨_, rfl⟩
    rw [hz] at B5
    have HB5 : Hid (Blk (wr.alloc (.cells #[.int .i64 O1.c.1, .int .i64 O1.c.2.1, .string O1.c.2.2, .int .i64 O1.m, .int .i64 O1.k.1, .int .i64 O1.k.2.1, .string O1.k.2.2, .int .i64 O1.o, .slice ua ma da, .slice ub mb db, .int .i64 O1.call, .int .i64 O1.ret] 41)) z (opC O1 (.slice ua ma da) (.slice ub mb db)) 41) := B5
    clear B5
    go_wp2_with ((with_reducible refine wpList_load_mid ?_ 41 (.tmp 59) ?_ b1 (o1 + k * 12) ?_ (opC O1 (.slice ua ma da) (.slice ub mb db)) _ HR.out Tryd.underlying41 ?_ ?_ ?_); (exact rfl); (exact rfl); (exact rfl); (exact rfl); (exact sizeO); (simp only [opC]))
    clear hz
    obtain ⟨wa, hwa⟩ : ∃ wa, (wr.alloc (.cells #[.int .i64 O1.c.1, .int .i64 O1.c.2.1, .string O1.c.2.2, .int .i64 O1.m, .int .i64 O1.k.1, .int .i64 O1.k.2.1, .string O1.k.2.2, .int .i64 O1.o, .slice ua ma da, .slice ub mb db, .int .i64 O1.call, .int .i64 O1.ret] 41)) = wa := ⟨_, rfl⟩
    rw [hwa] at HbA HB5 ⊢
    clear hwa
    have z10 := fun d os => cell_regrown (HB5.out.cell 10 _ rfl) d os
    rw [HC1.out] at z10
    cases his : isOp xs p
    case false =>
      have HRe : Hid (O1.ret = -1) := HPend.out his
      have HSt2 : Hid ((opsTo xs (p + 1)).length = cn) := by show _ = _; rw [opsTo_no his]; exact HCn.out
      by_cases hlt2 : cn < n2
      · have hlt2' : (cn : Int) < (n2 : Int) := by omega
        have hcn0 : (0 : Int) ≤ (cn : Int) := by omega
        have hd : decide (cn < n2) = true := decide_eq_true hlt2
        obtain ⟨p2, hq1, hq2, hq3, hq4⟩ := ops_at HM2.out (i := cn) (by rw [HN2.out]; exact hlt2)
        have hpp : p2 ≠ p := fun e => by rw [e, his] at hq2; cases hq2
        obtain ⟨b2, o2, rfl, hbl2⟩ := HS2f.out.block (by rw [HN2.out]; omega)
        have c10 := (HS2f.out.later HB.out).at (i := cn) (by rw [HN2.out]; exact hlt2) 10 (.int .i64 (p2 : Int)) (by rw [show encO (yo zs2 cn) = opC (yo zs2 cn).1 (yo zs2 cn).2.1 (yo zs2 cn).2.2 from rfl, hq3]; show some (Value.int .i64 (opOf xs p2).call) = _; rw [(op_place hq1).1])
        replace c10 := fun d os => cell_regrown ((HbA.out.cell (p := ⟨b2, o2 + cn * 12 + 10, none⟩) (Nat.lt_of_lt_of_le hbl2 HB.out.size)).trans c10) d os
        have e1 : ((p2 : Int) == (p : Int)) = false := by simp; omega
        have e2 : (p2 == p) = false := by simp [hpp]
        clear hq1 hq2 hq3 hq4 hpp hbl2 hlt2 his
        go_wp2_with fail
        refine wp_region_quiet_below mixed (by kernel_rfl) ?_
        repeat (go_big_quiet_step (fail))
        refine wpQuiet_nil ?_
        intro wb hw'
        have HbB : Hid (Below wa.heap.size wa wb) := by show Below _ _ _; obtain ⟨⟨d, os⟩, rfl⟩ := hw'; exact below_regrown wa d os
        clear hw'
        clear c10 z10
        have z11 := (HB5.out.later HbB.out).cell 11 _ rfl
        rw [HRe.out] at z11
        go_wp2
        go_roundw
        case rel => exact ⟨k + 1, p + 1, cn, by omega, by go_num, rfl, HSt1.out, by have := HPl.out; omega, HSt2.out, below_next (below_next HB.out HbA.out) HbB.out⟩
        case measure => simp [intOf] <;> omega
      · have hd : decide (cn < n2) = false := decide_eq_false hlt2
        clear hlt2 his
        go_wp2_with fail
        refine wp_region_quiet_below mixed (by kernel_rfl) ?_
        repeat (go_big_quiet_step (fail))
        refine wpQuiet_nil ?_
        intro wb hw'
        have HbB : Hid (Below wa.heap.size wa wb) := by show Below _ _ _; obtain ⟨⟨d, os⟩, rfl⟩ := hw'; exact below_regrown wa d os
        clear hw'
        clear z10
        have z11 := (HB5.out.later HbB.out).cell 11 _ rfl
        rw [HRe.out] at z11
        go_wp2
        go_roundw
        case rel => exact ⟨k + 1, p + 1, cn, by omega, by go_num, rfl, HSt1.out, by have := HPl.out; omega, HSt2.out, below_next (below_next HB.out HbA.out) HbB.out⟩
        case measure => simp [intOf] <;> omega
    case true =>
      have hpx : p < xs.length := by have := HPl.out; omega
      have hat := opsTo_at xs xs.length p hpx his
      rw [HCn.out] at hat
      have hlt2 : cn < n2 := by rw [← HLn2.out]; exact (List.getElem?_eq_some_iff.1 hat).1
      have hq3 : (yo zs2 cn).1 = opOf xs p := by
        have h5 := map_yo zs2 cn (by rw [HN2.out]; exact hlt2)
        rw [HM2.out] at h5
        exact Option.some.inj (h5.symm.trans hat)
      have HSt2 : Hid ((opsTo xs (p + 1)).length = cn + 1) := by show _ = _; rw [opsTo_yes his, List.length_append, HCn.out]; rfl
      have hlt2' : (cn : Int) < (n2 : Int) := by omega
      have hcn0 : (0 : Int) ≤ (cn : Int) := by omega
      have hd : decide (cn < n2) = true := decide_eq_true hlt2
      obtain ⟨b2, o2, rfl, hbl2⟩ := HS2f.out.block (by rw [HN2.out]; omega)
      have hr := (HS2f.out.later HB.out).at (i := cn) (by rw [HN2.out]; exact hlt2)
      have hiu := HI2f.out.later HB.out cn (by rw [HN2.out]; exact hlt2)
      rcases hyk : yo zs2 cn with ⟨O2, va, vb⟩
      rw [hyk] at hq3 hr hiu
      obtain rfl : O2 = opOf xs p := hq3
      obtain ⟨aa, na, ca, rfl⟩ : ∃ a n c, va = .slice a n c := by obtain ⟨a, c, h, _⟩ := hiu.1; exact ⟨a, _, c, h⟩
      obtain ⟨ab, nb, cb, rfl⟩ : ∃ a n c, vb = .slice a n c := by obtain ⟨a, c, h, _⟩ := hiu.2; exact ⟨a, _, c, h⟩
      obtain ⟨O2, hO2⟩ : ∃ O2, opOf xs p = O2 := ⟨_, rfl⟩
      rw [hO2] at hr hiu HOt HC2 HMl
      have HbBl : Hid (b2 < wr.heap.size) := Nat.lt_of_lt_of_le hbl2 HB.out.size
      have HR2 : Hid (wr.rangeAt b2 (o2 + cn * 12) (opC O2 (.slice aa na ca) (.slice ab nb cb))) := hr
      have HV : Hid (VSl wr (.slice aa na ca) O2.a ∧ VSl wr (.slice ab nb cb) O2.r) := hiu
      have c10 := fun d os => cell_regrown ((HbA.out.cell (p := ⟨b2, o2 + cn * 12 + 10, none⟩) HbBl.out).trans (HR2.out 10 (.int .i64 O2.call) rfl)) d os
      rw [HC2.out] at c10
      clear hat hlt2 hbl2 hr hiu hyk hO2 his hpx
      go_wp2_with fail
      refine wp_region_quiet_below mixed (by kernel_rfl) ?_
      repeat (go_big_quiet_step (fail))
      refine wpQuiet_nil ?_
      intro wb hw'
      have HbB : Hid (Below wa.heap.size wa wb) := by show Below _ _ _; obtain ⟨⟨d, os⟩, rfl⟩ := hw'; exact below_regrown wa d os
      clear hw'
      clear c10 z10
      have HRb : Hid (wb.rangeAt b2 (o2 + cn * 12) (opC O2 (.slice aa na ca) (.slice ab nb cb))) := fun j u hj => (HbB.out.cell (p := ⟨b2, o2 + cn * 12 + j, none⟩) (Nat.lt_of_lt_of_le HbBl.out HbA.out.size)).trans ((HbA.out.cell (p := ⟨b2, o2 + cn * 12 + j, none⟩) HbBl.out).trans (HR2.out j u hj))
      have BC := Blk.new wb (opC O2 (.slice aa na ca) (.slice ab nb cb)) 41
      change Blk (wb.alloc (.cells #[.int .i64 O2.c.1, .int .i64 O2.c.2.1, .string O2.c.2.2, .int .i64 O2.m, .int .i64 O2.k.1, .int .i64 O2.k.2.1, .string O2.k.2.2, .int .i64 O2.o, .slice aa na ca, .slice ab nb cb, .int .i64 O2.call, .int .i64 O2.ret] 41)) _ _ _ at BC
      have HbC : Hid (Below wr.heap.size wr (wb.alloc (.cells #[.int .i64 O2.c.1, .int .i64 O2.c.2.1, .string O2.c.2.2, .int .i64 O2.m, .int .i64 O2.k.1, .int .i64 O2.k.2.1, .string O2.k.2.2, .int .i64 O2.o, .slice aa na ca, .slice ab nb cb, .int .i64 O2.call, .int .i64 O2.ret] 41))) := below_more (below_next HbA.out HbB.out) _
      have B5c := (HB5.out.later HbB.out).alloc (.cells (opC O2 (.slice aa na ca) (.slice ab nb cb)).toArray 41)
      change Blk (wb.alloc (.cells #[.int .i64 O2.c.1, .int .i64 O2.c.2.1, .string O2.c.2.2, .int .i64 O2.m, .int .i64 O2.k.1, .int .i64 O2.k.2.1, .string O2.k.2.2, .int .i64 O2.o, .slice aa na ca, .slice ab nb cb, .int .i64 O2.call, .int .i64 O2.ret] 41)) _ _ _ at B5c
      have hzb := (HB5.out.later HbB.out).lt
      obtain ⟨z2, hz2⟩ : ∃ z2, wb.heap.size = z2 := ⟨_, rfl⟩
      rw [hz2] at BC hzb
      have HBC : Hid (Blk (wb.alloc (.cells #[.int .i64 O2.c.1, .int .i64 O2.c.2.1, .string O2.c.2.2, .int .i64 O2.m, .int .i64 O2.k.1, .int .i64 O2.k.2.1, .string O2.k.2.2, .int .i64 O2.o, .slice aa na ca, .slice ab nb cb, .int .i64 O2.call, .int .i64 O2.ret] 41)) z2 (opC O2 (.slice aa na ca) (.slice ab nb cb)) 41) := BC
      have HB5c : Hid (Blk (wb.alloc (.cells #[.int .i64 O2.c.1, .int .i64 O2.c.2.1, .string O2.c.2.2, .int .i64 O2.m, .int .i64 O2.k.1, .int .i64 O2.k.2.1, .string O2.k.2.2, .int .i64 O2.o, .slice aa na ca, .slice ab nb cb, .int .i64 O2.call, .int .i64 O2.ret] 41)) z (opC O1 (.slice ua ma da) (.slice ub mb db)) 41) := B5c
      have HNz : Hid (z ≠ z2) := by show _ ≠ _; omega
      have HLz : Hid (wr.heap.size ≤ z2) := by have h1 := HbA.out.size; have h2 := HbB.out.size; show _ ≤ _; omega
      clear BC B5c hzb
      by_cases hret : (m : Int) ≤ O2.ret
      · have hd2 : decide ((m : Int) ≤ O2.ret) = true := decide_eq_true hret
        have HO1 : Hid (O1 = ⟨O2.c, O2.m, O2.k, O2.o, O2.a, [], O2.call, -1⟩) := by show _ = _; rw [HOt.out]; unfold cutO; rw [if_pos hret]
        clear hret
        go_wp2_with (first
          | ((with_reducible refine wpList_load_mid ?_ 41 (.tmp 77) ?_ b2 (o2 + cn * 12) ?_ (opC O2 (.slice aa na ca) (.slice ab nb cb)) _ HRb.out Tryd.underlying41 ?_ ?_ ?_); (exact rfl); (exact rfl); (exact rfl); (exact rfl); (exact sizeO); (simp only [opC]))
          | ((with_reducible refine wp_storeC 3 (.tmp 83) (.const (.int .i64 (-1))) z2 11 (.int .i64 (-1)) (opC O2 (.slice aa na ca) (.slice ab nb cb)) 41 infoI3 ?_ ?_ ?_ ?_ ?_ ?_ HBC.out ?_); (exact (show 11 < 12 by decide)); (exact rfl); (exact rfl); (exact ⟨rfl, rfl⟩); (exact rfl); (exact rfl); (intro wd D o6); (have HBd : Hid (Blk wd z2 (opC ⟨O2.c, O2.m, O2.k, O2.o, O2.a, O2.r, O2.call, -1⟩ (.slice aa na ca) (.slice ab nb cb)) 41) := D); (have HB5d : Hid (Blk wd z (opC O1 (.slice ua ma da) (.slice ub mb db)) 41) := HB5c.out.oth o6 HNz.out HNz.out); (have HbD : Hid (Below wr.heap.size wr wd) := below_oth HbC.out o6 HLz.out HLz.out HbC.out.size); (clear D o6))
          | ((with_reducible refine wp_storeC 39 (.tmp 84) (.const (.slice none 0 0)) z2 9 (.slice none 0 0) (opC ⟨O2.c, O2.m, O2.k, O2.o, O2.a, O2.r, O2.call, -1⟩ (.slice aa na ca) (.slice ab nb cb)) 41 infoSV3 ?_ ?_ ?_ ?_ ?_ ?_ HBd.out ?_); (exact (show 9 < 12 by decide)); (exact rfl); (exact rfl); (exact ⟨rfl, rfl⟩); (exact rfl); (exact rfl); (intro we D o6); (have HBe : Hid (Blk we z2 (opC ⟨O2.c, O2.m, O2.k, O2.o, O2.a, [], O2.call, -1⟩ (.slice aa na ca) nilS) 41) := D); (have HB5e : Hid (Blk we z (opC O1 (.slice ua ma da) (.slice ub mb db)) 41) := HB5d.out.oth o6 HNz.out HNz.out); (have HbE : Hid (Below wr.heap.size wr we) := below_oth HbD.out o6 HLz.out HLz.out HbD.out.size); (clear D o6))
          | ((with_reducible refine wpList_load_mid ?_ 41 (.tmp 13) ?_ z2 0 ?_ (opC ⟨O2.c, O2.m, O2.k, O2.o, O2.a, [], O2.call, -1⟩ (.slice aa na ca) nilS) _ (Blk.all HBe.out) Tryd.underlying41 ?_ ?_ ?_); (exact rfl); (exact rfl); (exact rfl); (exact rfl); (exact sizeO))
          | ((with_reducible refine wpList_load_mid ?_ 41 (.tmp 12) ?_ z 0 ?_ (opC O1 (.slice ua ma da) (.slice ub mb db)) _ (Blk.all HB5e.out) Tryd.underlying41 ?_ ?_ ?_); (exact rfl); (exact rfl); (exact rfl); (exact rfl); (exact sizeO)))
        have h1 : VSl we (.slice ua ma da) O1.a := HU.out.1.later HbE.out
        have h2 : VSl we (.slice ub mb db) O1.r := HU.out.2.later HbE.out
        rw [HO1.out] at h1 h2 ⊢
        refine (rone_any ⟨O2.c, O2.m, O2.k, O2.o, O2.a, [], O2.call, -1⟩ (.slice aa na ca) nilS (.slice ua ma da) (.slice ub mb db) we (HV.out.1.later HbE.out) (OwnV.nil we 0).vsl h1 h2 HMl.out.1 (Nat.zero_le _)).mono ?_
        rintro e wf ⟨rfl, bf⟩
        have HbF : Hid (Below w7.heap.size w7 wf) := below_next (below_next HB.out HbE.out) bf
        clear bf h1 h2
        go_wp2
        go_roundw
        case rel => exact ⟨k + 1, p + 1, cn + 1, by omega, by go_num, by go_num, HSt1.out, by have := HPl.out; omega, HSt2.out, HbF.out⟩
        case measure => simp [intOf] <;> omega
      · have hd2 : decide ((m : Int) ≤ O2.ret) = false := decide_eq_false hret
        have HO1 : Hid (O1 = O2) := by show _ = _; rw [HOt.out]; unfold cutO; rw [if_neg hret]
        clear hret
        go_wp2_with (first
          | ((with_reducible refine wpList_load_mid ?_ 41 (.tmp 77) ?_ b2 (o2 + cn * 12) ?_ (opC O2 (.slice aa na ca) (.slice ab nb cb)) _ HRb.out Tryd.underlying41 ?_ ?_ ?_); (exact rfl); (exact rfl); (exact rfl); (exact rfl); (exact sizeO); (simp only [opC]))
          | ((with_reducible refine wpList_load_mid ?_ 41 (.tmp 13) ?_ z2 0 ?_ (opC O2 (.slice aa na ca) (.slice ab nb cb)) _ (Blk.all HBC.out) Tryd.underlying41 ?_ ?_ ?_); (exact rfl); (exact rfl); (exact rfl); (exact rfl); (exact sizeO))
          | ((with_reducible refine wpList_load_mid ?_ 41 (.tmp 12) ?_ z 0 ?_ (opC O1 (.slice ua ma da) (.slice ub mb db)) _ (Blk.all HB5c.out) Tryd.underlying41 ?_ ?_ ?_); (exact rfl); (exact rfl); (exact rfl); (exact rfl); (exact sizeO)))
        have h1 := HU.out.1.later HbC.out
        have h2 := HU.out.2.later HbC.out
        rw [HO1.out] at h1 h2 ⊢
        refine (rone_any O2 (.slice aa na ca) (.slice ab nb cb) (.slice ua ma da) (.slice ub mb db) _ (HV.out.1.later HbC.out) (HV.out.2.later HbC.out) h1 h2 HMl.out.1 HMl.out.2).mono ?_
        rintro e wf ⟨rfl, bf⟩
        have HbF : Hid (Below w7.heap.size w7 wf) := below_next (below_next HB.out HbC.out) bf
        clear bf h1 h2
        go_wp2
        go_roundw
        case rel => exact ⟨k + 1, p + 1, cn + 1, by omega, by go_num, by go_num, HSt1.out, by have := HPl.out; omega, HSt2.out, HbF.out⟩
        case measure => simp [intOf] <;> omega
end Go.Proofs.YtgdegbmakbfaaaaDoor
