/- The walk of PairTurns. Conditions: the table and the history lie in memory; numbers of 64 bits. -/
import Derived.Test.YtgdegbmakbfaaaaDoorBQA
namespace Go.Proofs.YtgdegbmakbfaaaaDoor
open Go.RowKit Go.PlainAid Ln
set_option linter.unusedVariables false
set_option linter.unusedSimpArgs false

theorem yo_drop (ys : List YO) (lo i : Nat) : yo (ys.drop lo) i = yo ys (lo + i) := by unfold yo; simp [List.getD, List.getElem?_drop]
theorem slice_cutO {w : World} {a : Option Addr} {n c : Nat} {ys : List YO} (h : OSl w (.slice a n c) ys) (lo : Nat) (h2 : lo ≤ ys.length) : OSl w (sliced a lo n c 12) (ys.drop lo) := by
  obtain ⟨a', c', hv, hl, hc, hr⟩ := h
  injection hv with ha hnn hcc
  subst ha hcc hnn
  have hlen : (ys.drop lo).length = ys.length - lo := List.length_drop
  refine ⟨if c = lo then a else a.map (·.add (lo * 12)), c - lo, by rw [hlen]; rfl, by omega, by omega, ?_⟩
  rcases hr with ⟨h3, h4⟩ | ⟨b, o, rfl, hb, hat⟩
  · subst h3
    have hl0 : lo = 0 := by simpa using h2
    subst hl0
    refine .inl ⟨rfl, fun e => ?_⟩
    have : a = none := by
      by_cases hcl : c = 0
      · rw [if_pos hcl] at e; exact e
      · rw [if_neg hcl] at e; simpa using e
    rw [h4 this]
  · by_cases h0 : ys.length - lo = 0
    · refine .inl ⟨List.eq_nil_of_length_eq_zero (by omega), fun e => ?_⟩
      by_cases hcl : c = lo
      · rw [if_pos hcl] at e; cases e
      · rw [if_neg hcl] at e; cases e
    · rw [if_neg (by omega)]
      refine .inr ⟨b, o + lo * 12, ?_, hb, fun i hi' => ?_⟩
      · show some ((⟨b, o, none⟩ : Addr).add (lo * 12)) = _
        rw [Addr.add_mid]
      · rw [hlen] at hi'
        rw [yo_drop, show o + lo * 12 + i * 12 = o + (lo + i) * 12 from by omega]
        exact hat (lo + i) (by omega)
theorem elemO : Tryd.prog.elem 32 = 41 := by kernel_rfl
theorem undO : Tryd.prog.underlying 32 = some (.slice (Tryd.prog.elem 32)) := by kernel_rfl
theorem run_cut_lO (k : IntKind) (a : Option Addr) (n c m : Nat) (hm : m ≤ n) (w : World) : (Instr.sliceAt 32 (.slice a n c) (some (.int k (m : Int))) none none).run Tryd.prog w = .ok (sliced a m n c 12) w := by
  rw [run_sliceAt_slice w 32 _ _ _ _ undO, run_slice_l w 32 _ _ _ undO k _ (by omega) (by omega), elemO, Tryd.sizeOf41, Int.toNat_natCast]; rfl
/-- where the operations were called -/
theorem ops_at {xs : List Ev} {zs : List YO} (hm : zs.map (·.1) = opsE xs) {i : Nat} (hi : i < zs.length) : ∃ p, p < xs.length ∧ isOp xs p = true ∧ (yo zs i).1 = opOf xs p ∧ (opsTo xs p).length = i := by
  have hl : zs.length = (opsTo xs xs.length).length := by
    have := congrArg List.length hm
    rw [List.length_map] at this; exact this
  obtain ⟨p, h1, h2, h3, h4⟩ := opsTo_all xs xs.length i (by omega)
  refine ⟨p, h1, h2, ?_, h4⟩
  have h5 := map_yo zs i hi
  rw [hm] at h5
  exact Option.some.inj (h5.symm.trans h3)
theorem ops_rise {xs : List Ev} {p q i j : Nat} (hp : (opsTo xs p).length = i) (hq : (opsTo xs q).length = j) (h : i < j) : p < q := by
  rcases Nat.lt_or_ge p q with h1 | h1
  · exact h1
  · have := opsTo_mono xs h1; omega
set_option maxRecDepth 100000 in
set_option maxHeartbeats 16000000 in
theorem law_turns (v : Value) (ys : List YE) (w : World) (ht : Tb w) (hy : YSl w v ys) (hi : InL w ys) (hb : InE ys) : Calls Tryd.prog 5 #[v] w fun e w' => e = .returned (.bool true) ∧ Below w.heap.size w w' := by
  have mixed : Tryd.prog.follows .mixedOrders = true := by kernel_rfl
  have HT : Hid (Tb w) := ht
  have HY : Hid (YSl w v ys) := hy
  have HI : Hid (InL w ys) := hi
  have HK : Hid (∀ i, i < ys.length → KV (ye ys i).1.c) := ine_kv hb
  have HG : Hid (∀ i, i < ys.length → LgE (ye ys i).1) := fun i h => (hb i h).2.1
  clear ht hi hb
  obtain ⟨ha, hc, rfl, hc1, hc2, _⟩ := hy.form
  clear hy
  go_enter Tryd.func5, Tryd.ntmps5
  go_wp2_with fail
  refine (wakes_p _ HT.out).mono ?_
  rintro e w1 ⟨rfl, b1⟩
  have Hb1 : Hid (Below w.heap.size w w1) := b1
  clear b1
  go_wp2_with fail
  refine (rgreat_h _ ys 60 w1 (HY.out.later Hb1.out) (HI.out.later Hb1.out) HG.out).mono ?_
  rintro e w2 ⟨g, rfl, hsm, b2⟩
  have Hb2 : Hid (Below w.heap.size w w2) := below_next Hb1.out b2
  clear b2
  cases g
  case true =>
    go_wp2
    go_ret
    exact ⟨rfl, Hb2.out⟩
  obtain ⟨hl, hse⟩ := hsm rfl
  have HL : Hid (ys.length ≤ 60) := hl
  have HZ : Hid (∀ i, i < ys.length → SzE (ye ys i).1) := fun i h => (hse i h).sz
  clear hsm hl hse
  go_wp2_with fail
  refine (opers_any _ ys w2 (HY.out.later Hb2.out) (HI.out.later Hb2.out) HZ.out HK.out (by have := HL.out; omega) (HT.out.later Hb2.out)).mono ?_
  rintro e w3 ⟨vl, zs, rfl, hok, hbad, b3⟩
  have Hb3 : Hid (Below w.heap.size w w3) := below_next Hb2.out b3
  clear b3
  have HLx : Hid ((ys.map (·.1)).length = ys.length) := List.length_map ..
  generalize ys.map (·.1) = xs at *
  obtain ⟨ck, hck⟩ : ∃ ck, checkE xs = ck := ⟨_, rfl⟩
  rw [hck] at hok hbad ⊢
  have HCk : Hid (checkE xs = ck) := hck
  have HOk : Hid (ck.1 = 0 → zs.map (·.1) = opsE xs ∧ OwnO w3 w2.heap.size vl zs ∧ OwnLO w3 w2.heap.size zs) := hok
  have HBad : Hid (ck.1 ≠ 0 → vl = nilS) := hbad
  clear hok hbad hck
  obtain ⟨q, hq⟩ : ∃ q, ys.length = q := ⟨_, rfl⟩
  rw [hq] at HLx HL hc1 ⊢
  clear hq
  by_cases h0 : ck.1 = 0
  case neg =>
    have hne : (ck.1 != 0) = true := by simp [h0]
    obtain rfl := HBad.out h0
    have Hb4 : Hid (Below w.heap.size w (w3.alloc (.cells #[.int .i64 ck.1, .int .i64 ck.2] 27))) := below_more Hb3.out _
    clear h0 HOk HBad
    go_wp2
    go_ret
    exact ⟨rfl, Hb4.out⟩
  have hne : (ck.1 != 0) = false := by simp [h0]
  obtain ⟨hm, ho, hlo⟩ := HOk.out h0
  have HOkE : Hid (okE xs xs.length) := by
    rcases okE_cases xs with ⟨k, h1, h2, h3⟩ | h
    · have := checkE_bad h1 h2 h3
      rw [HCk.out] at this
      rw [this] at h0
      exact absurd h0 h3
    · exact h
  obtain ⟨al, cl, rfl, hcl1, hcl2, _⟩ := ho.osl.form
  have HM : Hid (zs.map (·.1) = opsE xs) := hm
  have h34 := below_more (Below.refl w3.heap.size w3) (.cells #[.int .i64 ck.1, .int .i64 ck.2] 27)
  have HO4 : Hid (OSl (w3.alloc (.cells #[.int .i64 ck.1, .int .i64 ck.2] 27)) (.slice al zs.length cl) zs) := ho.osl.later h34
  have HF4 : Hid (∀ i, i < zs.length → (∃ a n c, (yo zs i).2.1 = .slice a n c) ∧ ∃ a n c, (yo zs i).2.2 = .slice a n c) := fun i h => by
    obtain ⟨a1, c1, e1⟩ := (hlo i h).1.form
    obtain ⟨a2, c2, e2⟩ := (hlo i h).2.form
    exact ⟨⟨a1, _, c1, e1⟩, ⟨a2, _, c2, e2⟩⟩
  have Hb4 : Hid (Below w.heap.size w (w3.alloc (.cells #[.int .i64 ck.1, .int .i64 ck.2] 27))) := below_next Hb3.out h34
  have HLz : Hid (zs.length ≤ 60) := by
    have h1 := congrArg List.length hm
    rw [List.length_map] at h1
    have h2 := opsTo_len xs xs.length
    have h3 := HL.out
    have h4 := HLx.out
    show _ ≤ _
    unfold opsE at h1
    omega
  clear h0 HOk HBad hm ho hlo h34
  obtain ⟨n, hn⟩ : ∃ n, zs.length = n := ⟨_, rfl⟩
  have HN : Hid (zs.length = n) := hn
  rw [hn] at HO4 HF4 HLz hcl1 ⊢
  clear hn
  go_wp2_with fail
  generalize w3.alloc (.cells #[.int .i64 ck.1, .int .i64 ck.2] 27) = w4 at HO4 Hb4 ⊢
  go_loopw [26] (fun i wr => ∃ k : Nat, k ≤ n ∧ i = .int .i64 (k : Int) ∧ Below w4.heap.size w4 wr) (fun i wr => n - (intOf i).toNat)
  case atStart => exact ⟨0, Nat.zero_le _, rfl, Below.refl _ _⟩
  case round =>
    obtain ⟨k, hk, rfl, hbr⟩ := hrel
    have HB : Hid (Below w4.heap.size w4 wr) := hbr
    clear hbr
    by_cases hlt : k < n
    case neg =>
      obtain rfl : k = n := by omega
      go_wp2
      go_ret
      exact ⟨rfl, below_next Hb4.out HB.out⟩
    have hlt' : (k : Int) < (n : Int) := by omega
    have hk0 : (0 : Int) ≤ (k : Int) := by omega
    obtain ⟨b, o, rfl, hbl⟩ := HO4.out.block (by rw [HN.out]; omega)
    have HBb : Hid (b < w4.heap.size) := hbl
    obtain ⟨p, hp1, hp2, hp3, hp4⟩ := ops_at HM.out (by rw [HN.out]; exact hlt)
    obtain ⟨pl1, pl2, pl3⟩ := op_place (xs := xs) hp1
    have hr := (HO4.out.later HB.out).at (i := k) (by rw [HN.out]; exact hlt)
    obtain ⟨⟨aa, na, ca, e1⟩, ⟨ab, nb, cb, e2⟩⟩ := HF4.out k hlt
    rcases hyk : yo zs k with ⟨O, va, vb⟩
    rw [hyk] at hp3 hr e1 e2
    obtain rfl : va = (.slice aa na ca) := e1
    obtain rfl : vb = (.slice ab nb cb) := e2
    obtain rfl : O = opOf xs p := hp3
    have HP : Hid (p < xs.length ∧ isOp xs p = true ∧ (opsTo xs p).length = k) := ⟨hp1, hp2, hp4⟩
    have HOc : Hid ((opOf xs p).c = (ev xs p).c) := pl2
    have HR : Hid (wr.rangeAt b (o + k * 12) (opC (opOf xs p) (.slice aa na ca) (.slice ab nb cb))) := hr
    have hq : (p : Int) < (q : Int) := by rw [← HLx.out]; omega
    have hRet : Hid ((opOf xs p).ret = -1 ∨ ∃ j : Nat, (opOf xs p).ret = (j : Int) ∧ p < j ∧ j < q) := by rw [← HLx.out]; exact pl3
    obtain ⟨O, hOO⟩ : ∃ O, opOf xs p = O := ⟨_, rfl⟩
    rw [hOO] at pl1 HOc HR hRet
    have HOp : Hid (opOf xs p = O) := hOO
    have hc0 : decide (O.call < 0) = false := decide_eq_false (by omega)
    have hcn : decide ((q : Int) ≤ O.call) = false := decide_eq_false (by omega)
    have HCl : Hid (O.call = (p : Int)) := pl1
    clear hbl hp1 hp2 hp4 pl1 pl2 pl3 hyk hr hq hOO
    have B5 := Blk.new wr (opC O (.slice aa na ca) (.slice ab nb cb)) 41
    change Blk (wr.alloc (.cells #[.int .i64 O.c.1, .int .i64 O.c.2.1, .string O.c.2.2, .int .i64 O.m, .int .i64 O.k.1, .int .i64 O.k.2.1, .string O.k.2.2, .int .i64 O.o, .slice aa na ca, .slice ab nb cb, .int .i64 O.call, .int .i64 O.ret] 41)) _ _ _ at B5
    have Hb5 : Hid (Below wr.heap.size wr (wr.alloc (.cells #[.int .i64 O.c.1, .int .i64 O.c.2.1, .string O.c.2.2, .int .i64 O.m, .int .i64 O.k.1, .int .i64 O.k.2.1, .string O.k.2.2, .int .i64 O.o, .slice aa na ca, .slice ab nb cb, .int .i64 O.call, .int .i64 O.ret] 41))) := below_more (Below.refl _ _) _
    obtain ⟨z, hz⟩ : ∃ z, wr.heap.size = z := ⟨_, rfl⟩
    rw [hz] at B5
    have HB5 : Hid (Blk (wr.alloc (.cells #[.int .i64 O.c.1, .int .i64 O.c.2.1, .string O.c.2.2, .int .i64 O.m, .int .i64 O.k.1, .int .i64 O.k.2.1, .string O.k.2.2, .int .i64 O.o, .slice aa na ca, .slice ab nb cb, .int .i64 O.call, .int .i64 O.ret] 41)) z (opC O (.slice aa na ca) (.slice ab nb cb)) 41) := B5
    clear B5
    go_wp2_with ((with_reducible refine wpList_load_mid ?_ 41 (.tmp 29) ?_ b (o + k * 12) ?_ (opC O (.slice aa na ca) (.slice ab nb cb)) _ HR.out Tryd.underlying41 ?_ ?_ ?_); (exact rfl); (exact rfl); (exact rfl); (exact rfl); (exact sizeO); (simp only [opC]))
    have c10 := fun d os => cell_regrown (HB5.out.cell 10 _ rfl) d os
    have c11 := fun d os => cell_regrown (HB5.out.cell 11 _ rfl) d os
    clear hz
    have HPrev : Hid (0 < k → ∃ r : Nat, (k : Int) - 1 = (r : Int) ∧ r < n ∧ ∃ C : Int, ¬ O.call ≤ C ∧ wr.cell? ⟨b, o + r * 12 + 10, none⟩ = some (.int .i64 C)) := fun hk => by
      obtain ⟨r, hr⟩ : ∃ r, r = k - 1 := ⟨_, rfl⟩
      obtain ⟨p', h1, h2, h3, h4⟩ := ops_at HM.out (i := r) (by rw [HN.out]; omega)
      have h5 := ops_rise h4 HP.out.2.2 (by omega)
      have h6 := (op_place h1).1
      refine ⟨r, by omega, by omega, (yo zs r).1.call, ?_, (HO4.out.later HB.out).at (i := r) (by rw [HN.out]; omega) 10 _ rfl⟩
      rw [h3, h6, HCl.out]; omega
    obtain ⟨w5, hw5⟩ : ∃ w5, (wr.alloc (.cells #[.int .i64 O.c.1, .int .i64 O.c.2.1, .string O.c.2.2, .int .i64 O.m, .int .i64 O.k.1, .int .i64 O.k.2.1, .string O.k.2.2, .int .i64 O.o, .slice aa na ca, .slice ab nb cb, .int .i64 O.call, .int .i64 O.ret] 41)) = w5 := ⟨_, rfl⟩
    rw [hw5] at Hb5 HB5 c10 c11 ⊢
    clear hw5
    have HLD : Hid (∀ d os, _) := c10
    obtain ⟨R, hR⟩ : ∃ R, O.ret = R := ⟨_, rfl⟩
    have HRe : Hid (O.ret = R) := hR
    rw [hR] at c11 hRet
    clear hR HLD
    rcases hRet.out with rfl | ⟨rj, rfl, hrj1, hrj2⟩
    · have hrn : ((-1 : Int) != -1) = false := by decide
      rcases Nat.eq_zero_or_pos k with hk1 | hk1
      · have hd0 : decide (0 < k) = false := by simp [hk1]
        clear hk1
        go_wp2_with fail
        refine wp_region_quiet_below mixed (by kernel_rfl) ?_
        repeat (go_big_quiet_step (fail))
        refine wpQuiet_nil ?_
        intro w6 hw'
        have Hb6 : Hid (Below w5.heap.size w5 w6) := by show Below _ _ _; obtain ⟨⟨d, os⟩, rfl⟩ := hw'; exact below_regrown w5 d os
        clear hw' c10 c11
        clear hd0
        obtain ⟨n4, hn4⟩ : ∃ n4, n - (k + 1) = n4 := ⟨_, rfl⟩
        obtain ⟨a4, c4, h4⟩ : ∃ a c, sliced (some ⟨b, o, none⟩) (k + 1) n cl 12 = .slice a n4 c := ⟨_, _, by rw [← hn4]; rfl⟩
        have hcut : ∀ w, (Instr.sliceAt 32 (.slice (some ⟨b, o, none⟩) n cl) (some (.int .i64 ((k : Int) + 1))) none none).run Tryd.prog w = .ok (.slice a4 n4 c4) w := fun w => by
          rw [show (k : Int) + 1 = ((k + 1 : Nat) : Int) by omega, run_cut_lO .i64 _ n cl (k + 1) (by omega) w, h4]
        have HS4 : Hid (OSl w4 (.slice a4 n4 c4) (zs.drop (k + 1))) := by show OSl _ _ _; rw [← h4]; exact slice_cutO HO4.out (k + 1) (by rw [HN.out]; omega)
        have HN4 : Hid (k + 1 + n4 = n) := by show _ = _; omega
        have hn4' : n4 ≤ 60 := by have := HLz.out; omega
        clear h4 hn4
        go_wp2_with fail
        go_loopw [80] (fun i wr => ∃ j : Nat, j ≤ n4 ∧ i = .int .i64 (j : Int) ∧ Below w6.heap.size w6 wr) (fun i wr => n4 - (intOf i).toNat)
        case atStart => exact ⟨0, Nat.zero_le _, rfl, Below.refl _ _⟩
        case round =>
          obtain ⟨j, hj, rfl, hbi⟩ := hrel
          have HBi : Hid (Below w6.heap.size w6 wr) := hbi
          have HWi : Hid (Below w5.heap.size w5 wr) := below_next Hb6.out hbi
          have HW4 : Hid (Below w4.heap.size w4 wr) := below_next (below_next HB.out Hb5.out) HWi.out
          clear hbi
          by_cases hjt : j < n4
          case neg =>
            obtain rfl : j = n4 := by omega
            go_wp2
            go_roundw
            case rel => exact ⟨k + 1, by omega, by go_num, HW4.out⟩
            case measure => simp [intOf] <;> omega
          have hjt' : (j : Int) < (n4 : Int) := by omega
          have hj0 : (0 : Int) ≤ (j : Int) := by omega
          have hdl : (zs.drop (k + 1)).length = n4 := by rw [List.length_drop, HN.out]; have := HN4.out; omega
          obtain ⟨b4, o4, rfl, hbl4⟩ := HS4.out.block (by omega)
          have hr := (HS4.out.later HW4.out).at (i := j) (by omega)
          rw [yo_drop] at hr
          obtain ⟨p2, hq1, hq2, hq3, hq4⟩ := ops_at HM.out (i := k + 1 + j) (by rw [HN.out]; have := HN4.out; omega)
          obtain ⟨pl1, pl2, _⟩ := op_place (xs := xs) hq1
          obtain ⟨⟨ua, ma, da, e1⟩, ⟨ub, mb, db, e2⟩⟩ := HF4.out (k + 1 + j) (by have := HN4.out; omega)
          rcases hyk : yo zs (k + 1 + j) with ⟨O2, va, vb⟩
          rw [hyk] at hq3 hr e1 e2
          obtain rfl : va = (.slice ua ma da) := e1
          obtain rfl : vb = (.slice ub mb db) := e2
          obtain rfl : O2 = opOf xs p2 := hq3
          have hturn : O.c = (opOf xs p2).c → ∃ kk : Nat, O.ret = (kk : Int) ∧ kk < p2 := fun hcc => by
            rw [← HOp.out]
            refine op_turn HOkE.out (ops_rise HP.out.2.2 hq4 (by omega)) hq1 HP.out.2.1 ?_ ?_
            · unfold isOp at hq2; rw [Bool.and_eq_true, decide_eq_true_eq] at hq2; exact hq2.1
            · rw [← HOc.out, ← pl2]; exact hcc
          rw [HRe.out] at hturn
          obtain ⟨O2, hOO⟩ : ∃ O2, opOf xs p2 = O2 := ⟨_, rfl⟩
          rw [hOO] at pl1 hturn hr
          have HR2 : Hid (wr.rangeAt b4 (o4 + j * 12) (opC O2 (.slice ua ma da) (.slice ub mb db))) := hr
          have HCl2 : Hid (O2.call = (p2 : Int)) := pl1
          have HTn : Hid (O.c = O2.c → ∃ kk : Nat, _ = (kk : Int) ∧ kk < p2) := hturn
          clear hdl hbl4 hr hq1 hq2 hq4 pl1 pl2 hyk hturn hOO
          have Hb8 : Hid (Below wr.heap.size wr (wr.alloc (.cells #[.int .i64 O2.c.1, .int .i64 O2.c.2.1, .string O2.c.2.2, .int .i64 O2.m, .int .i64 O2.k.1, .int .i64 O2.k.2.1, .string O2.k.2.2, .int .i64 O2.o, .slice ua ma da, .slice ub mb db, .int .i64 O2.call, .int .i64 O2.ret] 41))) := below_more (Below.refl _ _) _
          have B8 := (HB5.out.later HWi.out).alloc (.cells (opC O2 (.slice ua ma da) (.slice ub mb db)).toArray 41)
          change Blk (wr.alloc (.cells #[.int .i64 O2.c.1, .int .i64 O2.c.2.1, .string O2.c.2.2, .int .i64 O2.m, .int .i64 O2.k.1, .int .i64 O2.k.2.1, .string O2.k.2.2, .int .i64 O2.o, .slice ua ma da, .slice ub mb db, .int .i64 O2.call, .int .i64 O2.ret] 41)) _ _ _ at B8
          have d0 := B8.cell 0 _ rfl
          have d1 := B8.cell 1 _ rfl
          have d2 := B8.cell 2 _ rfl
          have d11 := B8.cell 11 _ rfl
          rw [HRe.out] at d11
          clear B8
          have hq := fun w => eqV O.c.1 O.c.2.1 O2.c.1 O2.c.2.1 O.c.2.2 O2.c.2.2 w
          have hg := eqgV
          cases hE : eqvB O.c.1 O.c.2.1 O.c.2.2 O2.c.1 O2.c.2.1 O2.c.2.2
          · rw [hE] at hq
            go_wp2_with ((with_reducible refine wpList_load_mid ?_ 41 (.tmp 82) ?_ b4 (o4 + j * 12) ?_ (opC O2 (.slice ua ma da) (.slice ub mb db)) _ HR2.out Tryd.underlying41 ?_ ?_ ?_); (exact rfl); (exact rfl); (exact rfl); (exact rfl); (exact sizeO); (simp only [opC]))
            go_roundw
            case rel => exact ⟨j + 1, by omega, by go_num, below_next HBi.out Hb8.out⟩
            case measure => simp [intOf] <;> omega
          · rw [hE] at hq
            obtain ⟨kk, hk1, hk2⟩ := HTn.out ((eqv_iff _ _).1 hE)
            exact absurd hk1 (by omega)
      · have hd0 : decide (0 < k) = true := by simp; omega
        obtain ⟨r, hr1, hr2, C, hC, hcp⟩ := HPrev.out hk1
        have hr2' : (r : Int) < (n : Int) := by omega
        have hr0 : (0 : Int) ≤ (r : Int) := by omega
        have cp := fun d os => cell_regrown ((Hb5.out.cell (p := ⟨b, o + r * 12 + 10, none⟩) (Nat.lt_of_lt_of_le HBb.out HB.out.size)).trans hcp) d os
        have hCd : decide (O.call ≤ C) = false := decide_eq_false hC
        clear hk1 hcp
        go_wp2_with fail
        refine wp_region_quiet_below mixed (by kernel_rfl) ?_
        repeat (go_big_quiet_step (fail))
        refine wpQuiet_nil ?_
        intro w6 hw'
        have Hb6 : Hid (Below w5.heap.size w5 w6) := by show Below _ _ _; obtain ⟨⟨d, os⟩, rfl⟩ := hw'; exact below_regrown w5 d os
        clear hw' c10 c11
        clear hd0 cp hr1 hr2 hC hr2' hr0 hCd
        obtain ⟨n4, hn4⟩ : ∃ n4, n - (k + 1) = n4 := ⟨_, rfl⟩
        obtain ⟨a4, c4, h4⟩ : ∃ a c, sliced (some ⟨b, o, none⟩) (k + 1) n cl 12 = .slice a n4 c := ⟨_, _, by rw [← hn4]; rfl⟩
        have hcut : ∀ w, (Instr.sliceAt 32 (.slice (some ⟨b, o, none⟩) n cl) (some (.int .i64 ((k : Int) + 1))) none none).run Tryd.prog w = .ok (.slice a4 n4 c4) w := fun w => by
          rw [show (k : Int) + 1 = ((k + 1 : Nat) : Int) by omega, run_cut_lO .i64 _ n cl (k + 1) (by omega) w, h4]
        have HS4 : Hid (OSl w4 (.slice a4 n4 c4) (zs.drop (k + 1))) := by show OSl _ _ _; rw [← h4]; exact slice_cutO HO4.out (k + 1) (by rw [HN.out]; omega)
        have HN4 : Hid (k + 1 + n4 = n) := by show _ = _; omega
        have hn4' : n4 ≤ 60 := by have := HLz.out; omega
        clear h4 hn4
        go_wp2_with fail
        go_loopw [80] (fun i wr => ∃ j : Nat, j ≤ n4 ∧ i = .int .i64 (j : Int) ∧ Below w6.heap.size w6 wr) (fun i wr => n4 - (intOf i).toNat)
        case atStart => exact ⟨0, Nat.zero_le _, rfl, Below.refl _ _⟩
        case round =>
          obtain ⟨j, hj, rfl, hbi⟩ := hrel
          have HBi : Hid (Below w6.heap.size w6 wr) := hbi
          have HWi : Hid (Below w5.heap.size w5 wr) := below_next Hb6.out hbi
          have HW4 : Hid (Below w4.heap.size w4 wr) := below_next (below_next HB.out Hb5.out) HWi.out
          clear hbi
          by_cases hjt : j < n4
          case neg =>
            obtain rfl : j = n4 := by omega
            go_wp2
            go_roundw
            case rel => exact ⟨k + 1, by omega, by go_num, HW4.out⟩
            case measure => simp [intOf] <;> omega
          have hjt' : (j : Int) < (n4 : Int) := by omega
          have hj0 : (0 : Int) ≤ (j : Int) := by omega
          have hdl : (zs.drop (k + 1)).length = n4 := by rw [List.length_drop, HN.out]; have := HN4.out; omega
          obtain ⟨b4, o4, rfl, hbl4⟩ := HS4.out.block (by omega)
          have hr := (HS4.out.later HW4.out).at (i := j) (by omega)
          rw [yo_drop] at hr
          obtain ⟨p2, hq1, hq2, hq3, hq4⟩ := ops_at HM.out (i := k + 1 + j) (by rw [HN.out]; have := HN4.out; omega)
          obtain ⟨pl1, pl2, _⟩ := op_place (xs := xs) hq1
          obtain ⟨⟨ua, ma, da, e1⟩, ⟨ub, mb, db, e2⟩⟩ := HF4.out (k + 1 + j) (by have := HN4.out; omega)
          rcases hyk : yo zs (k + 1 + j) with ⟨O2, va, vb⟩
          rw [hyk] at hq3 hr e1 e2
          obtain rfl : va = (.slice ua ma da) := e1
          obtain rfl : vb = (.slice ub mb db) := e2
          obtain rfl : O2 = opOf xs p2 := hq3
          have hturn : O.c = (opOf xs p2).c → ∃ kk : Nat, O.ret = (kk : Int) ∧ kk < p2 := fun hcc => by
            rw [← HOp.out]
            refine op_turn HOkE.out (ops_rise HP.out.2.2 hq4 (by omega)) hq1 HP.out.2.1 ?_ ?_
            · unfold isOp at hq2; rw [Bool.and_eq_true, decide_eq_true_eq] at hq2; exact hq2.1
            · rw [← HOc.out, ← pl2]; exact hcc
          rw [HRe.out] at hturn
          obtain ⟨O2, hOO⟩ : ∃ O2, opOf xs p2 = O2 := ⟨_, rfl⟩
          rw [hOO] at pl1 hturn hr
          have HR2 : Hid (wr.rangeAt b4 (o4 + j * 12) (opC O2 (.slice ua ma da) (.slice ub mb db))) := hr
          have HCl2 : Hid (O2.call = (p2 : Int)) := pl1
          have HTn : Hid (O.c = O2.c → ∃ kk : Nat, _ = (kk : Int) ∧ kk < p2) := hturn
          clear hdl hbl4 hr hq1 hq2 hq4 pl1 pl2 hyk hturn hOO
          have Hb8 : Hid (Below wr.heap.size wr (wr.alloc (.cells #[.int .i64 O2.c.1, .int .i64 O2.c.2.1, .string O2.c.2.2, .int .i64 O2.m, .int .i64 O2.k.1, .int .i64 O2.k.2.1, .string O2.k.2.2, .int .i64 O2.o, .slice ua ma da, .slice ub mb db, .int .i64 O2.call, .int .i64 O2.ret] 41))) := below_more (Below.refl _ _) _
          have B8 := (HB5.out.later HWi.out).alloc (.cells (opC O2 (.slice ua ma da) (.slice ub mb db)).toArray 41)
          change Blk (wr.alloc (.cells #[.int .i64 O2.c.1, .int .i64 O2.c.2.1, .string O2.c.2.2, .int .i64 O2.m, .int .i64 O2.k.1, .int .i64 O2.k.2.1, .string O2.k.2.2, .int .i64 O2.o, .slice ua ma da, .slice ub mb db, .int .i64 O2.call, .int .i64 O2.ret] 41)) _ _ _ at B8
          have d0 := B8.cell 0 _ rfl
          have d1 := B8.cell 1 _ rfl
          have d2 := B8.cell 2 _ rfl
          have d11 := B8.cell 11 _ rfl
          rw [HRe.out] at d11
          clear B8
          have hq := fun w => eqV O.c.1 O.c.2.1 O2.c.1 O2.c.2.1 O.c.2.2 O2.c.2.2 w
          have hg := eqgV
          cases hE : eqvB O.c.1 O.c.2.1 O.c.2.2 O2.c.1 O2.c.2.1 O2.c.2.2
          · rw [hE] at hq
            go_wp2_with ((with_reducible refine wpList_load_mid ?_ 41 (.tmp 82) ?_ b4 (o4 + j * 12) ?_ (opC O2 (.slice ua ma da) (.slice ub mb db)) _ HR2.out Tryd.underlying41 ?_ ?_ ?_); (exact rfl); (exact rfl); (exact rfl); (exact rfl); (exact sizeO); (simp only [opC]))
            go_roundw
            case rel => exact ⟨j + 1, by omega, by go_num, below_next HBi.out Hb8.out⟩
            case measure => simp [intOf] <;> omega
          · rw [hE] at hq
            obtain ⟨kk, hk1, hk2⟩ := HTn.out ((eqv_iff _ _).1 hE)
            exact absurd hk1 (by omega)
    · have hrn : ((rj : Int) != -1) = true := by simp
      have hrc : decide ((rj : Int) ≤ O.call) = false := decide_eq_false (by rw [HCl.out]; omega)
      have hrq : decide ((q : Int) ≤ (rj : Int)) = false := decide_eq_false (by omega)
      have hrq2 : decide (q ≤ rj) = false := decide_eq_false (by omega)
      rcases Nat.eq_zero_or_pos k with hk1 | hk1
      · have hd0 : decide (0 < k) = false := by simp [hk1]
        clear hk1
        go_wp2_with fail
        refine wp_region_quiet_below mixed (by kernel_rfl) ?_
        repeat (go_big_quiet_step (fail))
        refine wpQuiet_nil ?_
        intro w6 hw'
        have Hb6 : Hid (Below w5.heap.size w5 w6) := by show Below _ _ _; obtain ⟨⟨d, os⟩, rfl⟩ := hw'; exact below_regrown w5 d os
        clear hw' c10 c11
        clear hd0
        obtain ⟨n4, hn4⟩ : ∃ n4, n - (k + 1) = n4 := ⟨_, rfl⟩
        obtain ⟨a4, c4, h4⟩ : ∃ a c, sliced (some ⟨b, o, none⟩) (k + 1) n cl 12 = .slice a n4 c := ⟨_, _, by rw [← hn4]; rfl⟩
        have hcut : ∀ w, (Instr.sliceAt 32 (.slice (some ⟨b, o, none⟩) n cl) (some (.int .i64 ((k : Int) + 1))) none none).run Tryd.prog w = .ok (.slice a4 n4 c4) w := fun w => by
          rw [show (k : Int) + 1 = ((k + 1 : Nat) : Int) by omega, run_cut_lO .i64 _ n cl (k + 1) (by omega) w, h4]
        have HS4 : Hid (OSl w4 (.slice a4 n4 c4) (zs.drop (k + 1))) := by show OSl _ _ _; rw [← h4]; exact slice_cutO HO4.out (k + 1) (by rw [HN.out]; omega)
        have HN4 : Hid (k + 1 + n4 = n) := by show _ = _; omega
        have hn4' : n4 ≤ 60 := by have := HLz.out; omega
        clear h4 hn4
        go_wp2_with fail
        go_loopw [80] (fun i wr => ∃ j : Nat, j ≤ n4 ∧ i = .int .i64 (j : Int) ∧ Below w6.heap.size w6 wr) (fun i wr => n4 - (intOf i).toNat)
        case atStart => exact ⟨0, Nat.zero_le _, rfl, Below.refl _ _⟩
        case round =>
          obtain ⟨j, hj, rfl, hbi⟩ := hrel
          have HBi : Hid (Below w6.heap.size w6 wr) := hbi
          have HWi : Hid (Below w5.heap.size w5 wr) := below_next Hb6.out hbi
          have HW4 : Hid (Below w4.heap.size w4 wr) := below_next (below_next HB.out Hb5.out) HWi.out
          clear hbi
          by_cases hjt : j < n4
          case neg =>
            obtain rfl : j = n4 := by omega
            go_wp2
            go_roundw
            case rel => exact ⟨k + 1, by omega, by go_num, HW4.out⟩
            case measure => simp [intOf] <;> omega
          have hjt' : (j : Int) < (n4 : Int) := by omega
          have hj0 : (0 : Int) ≤ (j : Int) := by omega
          have hdl : (zs.drop (k + 1)).length = n4 := by rw [List.length_drop, HN.out]; have := HN4.out; omega
          obtain ⟨b4, o4, rfl, hbl4⟩ := HS4.out.block (by omega)
          have hr := (HS4.out.later HW4.out).at (i := j) (by omega)
          rw [yo_drop] at hr
          obtain ⟨p2, hq1, hq2, hq3, hq4⟩ := ops_at HM.out (i := k + 1 + j) (by rw [HN.out]; have := HN4.out; omega)
          obtain ⟨pl1, pl2, _⟩ := op_place (xs := xs) hq1
          obtain ⟨⟨ua, ma, da, e1⟩, ⟨ub, mb, db, e2⟩⟩ := HF4.out (k + 1 + j) (by have := HN4.out; omega)
          rcases hyk : yo zs (k + 1 + j) with ⟨O2, va, vb⟩
          rw [hyk] at hq3 hr e1 e2
          obtain rfl : va = (.slice ua ma da) := e1
          obtain rfl : vb = (.slice ub mb db) := e2
          obtain rfl : O2 = opOf xs p2 := hq3
          have hturn : O.c = (opOf xs p2).c → ∃ kk : Nat, O.ret = (kk : Int) ∧ kk < p2 := fun hcc => by
            rw [← HOp.out]
            refine op_turn HOkE.out (ops_rise HP.out.2.2 hq4 (by omega)) hq1 HP.out.2.1 ?_ ?_
            · unfold isOp at hq2; rw [Bool.and_eq_true, decide_eq_true_eq] at hq2; exact hq2.1
            · rw [← HOc.out, ← pl2]; exact hcc
          rw [HRe.out] at hturn
          obtain ⟨O2, hOO⟩ : ∃ O2, opOf xs p2 = O2 := ⟨_, rfl⟩
          rw [hOO] at pl1 hturn hr
          have HR2 : Hid (wr.rangeAt b4 (o4 + j * 12) (opC O2 (.slice ua ma da) (.slice ub mb db))) := hr
          have HCl2 : Hid (O2.call = (p2 : Int)) := pl1
          have HTn : Hid (O.c = O2.c → ∃ kk : Nat, _ = (kk : Int) ∧ kk < p2) := hturn
          clear hdl hbl4 hr hq1 hq2 hq4 pl1 pl2 hyk hturn hOO
          have Hb8 : Hid (Below wr.heap.size wr (wr.alloc (.cells #[.int .i64 O2.c.1, .int .i64 O2.c.2.1, .string O2.c.2.2, .int .i64 O2.m, .int .i64 O2.k.1, .int .i64 O2.k.2.1, .string O2.k.2.2, .int .i64 O2.o, .slice ua ma da, .slice ub mb db, .int .i64 O2.call, .int .i64 O2.ret] 41))) := below_more (Below.refl _ _) _
          have B8 := (HB5.out.later HWi.out).alloc (.cells (opC O2 (.slice ua ma da) (.slice ub mb db)).toArray 41)
          change Blk (wr.alloc (.cells #[.int .i64 O2.c.1, .int .i64 O2.c.2.1, .string O2.c.2.2, .int .i64 O2.m, .int .i64 O2.k.1, .int .i64 O2.k.2.1, .string O2.k.2.2, .int .i64 O2.o, .slice ua ma da, .slice ub mb db, .int .i64 O2.call, .int .i64 O2.ret] 41)) _ _ _ at B8
          have d0 := B8.cell 0 _ rfl
          have d1 := B8.cell 1 _ rfl
          have d2 := B8.cell 2 _ rfl
          have d11 := B8.cell 11 _ rfl
          rw [HRe.out] at d11
          clear B8
          have hq := fun w => eqV O.c.1 O.c.2.1 O2.c.1 O2.c.2.1 O.c.2.2 O2.c.2.2 w
          have hg := eqgV
          cases hE : eqvB O.c.1 O.c.2.1 O.c.2.2 O2.c.1 O2.c.2.1 O2.c.2.2
          · rw [hE] at hq
            go_wp2_with ((with_reducible refine wpList_load_mid ?_ 41 (.tmp 82) ?_ b4 (o4 + j * 12) ?_ (opC O2 (.slice ua ma da) (.slice ub mb db)) _ HR2.out Tryd.underlying41 ?_ ?_ ?_); (exact rfl); (exact rfl); (exact rfl); (exact rfl); (exact sizeO); (simp only [opC]))
            go_roundw
            case rel => exact ⟨j + 1, by omega, by go_num, below_next HBi.out Hb8.out⟩
            case measure => simp [intOf] <;> omega
          · rw [hE] at hq
            obtain ⟨kk, hk1, hk2⟩ := HTn.out ((eqv_iff _ _).1 hE)
            have hr0 : ¬ (rj : Int) < 0 := by omega
            have hr3 : ¬ O2.call ≤ (rj : Int) := by rw [HCl2.out]; omega
            clear hk1 hk2
            go_wp2_with ((with_reducible refine wpList_load_mid ?_ 41 (.tmp 82) ?_ b4 (o4 + j * 12) ?_ (opC O2 (.slice ua ma da) (.slice ub mb db)) _ HR2.out Tryd.underlying41 ?_ ?_ ?_); (exact rfl); (exact rfl); (exact rfl); (exact rfl); (exact sizeO); (simp only [opC]))
            go_roundw
            case rel => exact ⟨j + 1, by omega, by go_num, below_next HBi.out Hb8.out⟩
            case measure => simp [intOf] <;> omega
      · have hd0 : decide (0 < k) = true := by simp; omega
        obtain ⟨r, hr1, hr2, C, hC, hcp⟩ := HPrev.out hk1
        have hr2' : (r : Int) < (n : Int) := by omega
        have hr0 : (0 : Int) ≤ (r : Int) := by omega
        have cp := fun d os => cell_regrown ((Hb5.out.cell (p := ⟨b, o + r * 12 + 10, none⟩) (Nat.lt_of_lt_of_le HBb.out HB.out.size)).trans hcp) d os
        have hCd : decide (O.call ≤ C) = false := decide_eq_false hC
        clear hk1 hcp
        go_wp2_with fail
        refine wp_region_quiet_below mixed (by kernel_rfl) ?_
        repeat (go_big_quiet_step (fail))
        refine wpQuiet_nil ?_
        intro w6 hw'
        have Hb6 : Hid (Below w5.heap.size w5 w6) := by show Below _ _ _; obtain ⟨⟨d, os⟩, rfl⟩ := hw'; exact below_regrown w5 d os
        clear hw' c10 c11
        clear hd0 cp hr1 hr2 hC hr2' hr0 hCd
        obtain ⟨n4, hn4⟩ : ∃ n4, n - (k + 1) = n4 := ⟨_, rfl⟩
        obtain ⟨a4, c4, h4⟩ : ∃ a c, sliced (some ⟨b, o, none⟩) (k + 1) n cl 12 = .slice a n4 c := ⟨_, _, by rw [← hn4]; rfl⟩
        have hcut : ∀ w, (Instr.sliceAt 32 (.slice (some ⟨b, o, none⟩) n cl) (some (.int .i64 ((k : Int) + 1))) none none).run Tryd.prog w = .ok (.slice a4 n4 c4) w := fun w => by
          rw [show (k : Int) + 1 = ((k + 1 : Nat) : Int) by omega, run_cut_lO .i64 _ n cl (k + 1) (by omega) w, h4]
        have HS4 : Hid (OSl w4 (.slice a4 n4 c4) (zs.drop (k + 1))) := by show OSl _ _ _; rw [← h4]; exact slice_cutO HO4.out (k + 1) (by rw [HN.out]; omega)
        have HN4 : Hid (k + 1 + n4 = n) := by show _ = _; omega
        have hn4' : n4 ≤ 60 := by have := HLz.out; omega
        clear h4 hn4
        go_wp2_with fail
        go_loopw [80] (fun i wr => ∃ j : Nat, j ≤ n4 ∧ i = .int .i64 (j : Int) ∧ Below w6.heap.size w6 wr) (fun i wr => n4 - (intOf i).toNat)
        case atStart => exact ⟨0, Nat.zero_le _, rfl, Below.refl _ _⟩
        case round =>
          obtain ⟨j, hj, rfl, hbi⟩ := hrel
          have HBi : Hid (Below w6.heap.size w6 wr) := hbi
          have HWi : Hid (Below w5.heap.size w5 wr) := below_next Hb6.out hbi
          have HW4 : Hid (Below w4.heap.size w4 wr) := below_next (below_next HB.out Hb5.out) HWi.out
          clear hbi
          by_cases hjt : j < n4
          case neg =>
            obtain rfl : j = n4 := by omega
            go_wp2
            go_roundw
            case rel => exact ⟨k + 1, by omega, by go_num, HW4.out⟩
            case measure => simp [intOf] <;> omega
          have hjt' : (j : Int) < (n4 : Int) := by omega
          have hj0 : (0 : Int) ≤ (j : Int) := by omega
          have hdl : (zs.drop (k + 1)).length = n4 := by rw [List.length_drop, HN.out]; have := HN4.out; omega
          obtain ⟨b4, o4, rfl, hbl4⟩ := HS4.out.block (by omega)
          have hr := (HS4.out.later HW4.out).at (i := j) (by omega)
          rw [yo_drop] at hr
          obtain ⟨p2, hq1, hq2, hq3, hq4⟩ := ops_at HM.out (i := k + 1 + j) (by rw [HN.out]; have := HN4.out; omega)
          obtain ⟨pl1, pl2, _⟩ := op_place (xs := xs) hq1
          obtain ⟨⟨ua, ma, da, e1⟩, ⟨ub, mb, db, e2⟩⟩ := HF4.out (k + 1 + j) (by have := HN4.out; omega)
          rcases hyk : yo zs (k + 1 + j) with ⟨O2, va, vb⟩
          rw [hyk] at hq3 hr e1 e2
          obtain rfl : va = (.slice ua ma da) := e1
          obtain rfl : vb = (.slice ub mb db) := e2
          obtain rfl : O2 = opOf xs p2 := hq3
          have hturn : O.c = (opOf xs p2).c → ∃ kk : Nat, O.ret = (kk : Int) ∧ kk < p2 := fun hcc => by
            rw [← HOp.out]
            refine op_turn HOkE.out (ops_rise HP.out.2.2 hq4 (by omega)) hq1 HP.out.2.1 ?_ ?_
            · unfold isOp at hq2; rw [Bool.and_eq_true, decide_eq_true_eq] at hq2; exact hq2.1
            · rw [← HOc.out, ← pl2]; exact hcc
          rw [HRe.out] at hturn
          obtain ⟨O2, hOO⟩ : ∃ O2, opOf xs p2 = O2 := ⟨_, rfl⟩
          rw [hOO] at pl1 hturn hr
          have HR2 : Hid (wr.rangeAt b4 (o4 + j * 12) (opC O2 (.slice ua ma da) (.slice ub mb db))) := hr
          have HCl2 : Hid (O2.call = (p2 : Int)) := pl1
          have HTn : Hid (O.c = O2.c → ∃ kk : Nat, _ = (kk : Int) ∧ kk < p2) := hturn
          clear hdl hbl4 hr hq1 hq2 hq4 pl1 pl2 hyk hturn hOO
          have Hb8 : Hid (Below wr.heap.size wr (wr.alloc (.cells #[.int .i64 O2.c.1, .int .i64 O2.c.2.1, .string O2.c.2.2, .int .i64 O2.m, .int .i64 O2.k.1, .int .i64 O2.k.2.1, .string O2.k.2.2, .int .i64 O2.o, .slice ua ma da, .slice ub mb db, .int .i64 O2.call, .int .i64 O2.ret] 41))) := below_more (Below.refl _ _) _
          have B8 := (HB5.out.later HWi.out).alloc (.cells (opC O2 (.slice ua ma da) (.slice ub mb db)).toArray 41)
          change Blk (wr.alloc (.cells #[.int .i64 O2.c.1, .int .i64 O2.c.2.1, .string O2.c.2.2, .int .i64 O2.m, .int .i64 O2.k.1, .int .i64 O2.k.2.1, .string O2.k.2.2, .int .i64 O2.o, .slice ua ma da, .slice ub mb db, .int .i64 O2.call, .int .i64 O2.ret] 41)) _ _ _ at B8
          have d0 := B8.cell 0 _ rfl
          have d1 := B8.cell 1 _ rfl
          have d2 := B8.cell 2 _ rfl
          have d11 := B8.cell 11 _ rfl
          rw [HRe.out] at d11
          clear B8
          have hq := fun w => eqV O.c.1 O.c.2.1 O2.c.1 O2.c.2.1 O.c.2.2 O2.c.2.2 w
          have hg := eqgV
          cases hE : eqvB O.c.1 O.c.2.1 O.c.2.2 O2.c.1 O2.c.2.1 O2.c.2.2
          · rw [hE] at hq
            go_wp2_with ((with_reducible refine wpList_load_mid ?_ 41 (.tmp 82) ?_ b4 (o4 + j * 12) ?_ (opC O2 (.slice ua ma da) (.slice ub mb db)) _ HR2.out Tryd.underlying41 ?_ ?_ ?_); (exact rfl); (exact rfl); (exact rfl); (exact rfl); (exact sizeO); (simp only [opC]))
            go_roundw
            case rel => exact ⟨j + 1, by omega, by go_num, below_next HBi.out Hb8.out⟩
            case measure => simp [intOf] <;> omega
          · rw [hE] at hq
            obtain ⟨kk, hk1, hk2⟩ := HTn.out ((eqv_iff _ _).1 hE)
            have hr0 : ¬ (rj : Int) < 0 := by omega
            have hr3 : ¬ O2.call ≤ (rj : Int) := by rw [HCl2.out]; omega
            clear hk1 hk2
            go_wp2_with ((with_reducible refine wpList_load_mid ?_ 41 (.tmp 82) ?_ b4 (o4 + j * 12) ?_ (opC O2 (.slice ua ma da) (.slice ub mb db)) _ HR2.out Tryd.underlying41 ?_ ?_ ?_); (exact rfl); (exact rfl); (exact rfl); (exact rfl); (exact sizeO); (simp only [opC]))
            go_roundw
            case rel => exact ⟨j + 1, by omega, by go_num, below_next HBi.out Hb8.out⟩
            case measure => simp [intOf] <;> omega
end Go.Proofs.YtgdegbmakbfaaaaDoor
