/- Writing bytes to a digest in the making. Conditions: the table holds the rounds' numbers; no more than a million bytes are written. -/
import Derived.Test.YtilfmemfnheppaaDoorI
namespace Go.Proofs.YtilfmemfnheppaaDoor
open Go.RowKit Hx
set_option linter.unusedVariables false

/-- one byte more, the block not full -/
theorem has_more {w : World} {g : Nat} {l blk : List Int} {c : Int} (hc : 0 ≤ c ∧ c ≤ 255) (hm : (l.length + 1) % 64 ≠ 0)
    (h : HRow w g (tn l (l.length / 64)) (blk.set (l.length % 64) c) (l.length + 1 : Nat)) (hb : By blk) (ht : blk.take (l.length % 64) = l.drop (64 * (l.length / 64))) (hl : By l) : Has w g (l ++ [c]) := by
  have e1 : (l ++ [c]).length = l.length + 1 := by simp
  have e2 : (l.length + 1) / 64 = l.length / 64 := by omega
  have e3 : (l.length + 1) % 64 = l.length % 64 + 1 := by omega
  have hbl : blk.length = 64 := by have := h.2.2; simpa using this
  refine ⟨blk.set (l.length % 64) c, ?_, hb.set _ hc, ?_, ?_⟩
  · rw [e1, e2, tn_app l [c] _ (by omega)]; exact h
  · rw [e1, e2, e3, take_set blk _ c (by omega), ht, List.drop_append_of_le_length (by omega)]
  · intro x hx; simp at hx; rcases hx with hx | rfl
    · exact hl x hx
    · exact hc
/-- one byte more, and the block is full -/
theorem has_full {w : World} {g : Nat} {l blk : List Int} {c : Int} (hc : 0 ≤ c ∧ c ≤ 255) (hm : (l.length + 1) % 64 = 0) (hbl : blk.length = 64)
    (h : HRow w g (turn (tn l (l.length / 64)) (blk.set (l.length % 64) c)) (blk.set (l.length % 64) c) (l.length + 1 : Nat)) (hb : By blk) (ht : blk.take (l.length % 64) = l.drop (64 * (l.length / 64))) (hl : By l) : Has w g (l ++ [c]) := by
  have e1 : (l ++ [c]).length = l.length + 1 := by simp
  have e2 : (l.length + 1) / 64 = l.length / 64 + 1 := by omega
  have e3 : l.length % 64 = 63 := by omega
  have e4 : blk.set (l.length % 64) c = ((l ++ [c]).drop (64 * (l.length / 64))).take 64 := by
    have h1 := take_set blk (l.length % 64) c (by omega)
    rw [ht, e3, show 63 + 1 = 64 from rfl] at h1
    rw [e3, ← List.take_length (l := blk.set 63 c), List.length_set, hbl, h1, List.drop_append_of_le_length (by omega), List.take_of_length_le (by simp; omega)]
  refine ⟨blk.set (l.length % 64) c, ?_, hb.set _ hc, ?_, ?_⟩
  · rw [e1, e2]
    unfold tn
    rw [tn_app l [c] _ (by omega), ← e4]
    exact h
  · rw [e1, hm, e2, List.take_zero, List.drop_eq_nil_of_le (by simp; omega)]
  · intro x hx; simp at hx; rcases hx with hx | rfl
    · exact hl x hx
    · exact hc

/-- the rest of a region, whose order is forced -/
theorem any_of_seq {P : Program} {md : Region.Mode} {Q : Exit → Act → World → Prop} {a : Act} {w : World} {listed : Array Bool} {l : List Oper} {fuel : Nat} (n : Nat) (hf : fuel = (l.drop n).length)
    (hB : Region.seqB md l.toArray fuel n listed = true) (h : wpList P l.toArray Q (l.drop n) a w) : wpAny P md l.toArray Q fuel listed a w := by
  subst hf
  exact wpAny_of_seq (l.drop n) n listed a w (fun j => by simp [List.getElem?_drop]) hB h

/-- a range is read, as an operation that comes up in a region that draws its order -/
theorem wpOp_loadM {P : Program} {ops : Array Oper} {Q : Exit → Act → World → Prop} {K : Act → World → Prop} {a : Act} {w : World} {o : Oper} (i : Nat) (ho : ops[i]? = some o) (ty : TypeId) (x : Operand) (g off : Nat) (k : IntKind) (xs : List Int) (d : TypeDesc)
    (hu : P.underlying ty = some d) (hd : d.isRow = true) (hi : (P.info? ty).map (·.size) = some xs.length)
    (hop : o.guard = none ∧ o.op = .load ty x) (hx : a.eval x = .pointer (some ⟨g, off, none⟩)) (hr : w.rangeAt g off (cellsK k xs))
    (h : K (a.put o.dst (arr k xs)) w) : wpOp P ops Q i K a w := by
  unfold wpOp
  rw [ho]
  show if Region.wanted o (yielded ops a.tmps) then _ else _
  rw [if_pos (by simp [Region.wanted, hop.1])]
  exact .inl (wp_load_mid ty x hop.2 g off hx (cellsK k xs) d hr hu hd (by rw [cellsK_len]; exact hi) h)

set_option maxRecDepth 100000 in
set_option maxHeartbeats 1000000 in
theorem write_any (g : Nat) (l bs : List Int) (v : Value) (w : World) (hK : Kt w) (hg : 0 < g) (hh : Has w g l) (hv : Sl w v bs) (hne : ∀ b off n cap, v = .slice (some ⟨b, off, none⟩) n cap → 0 < bs.length → b ≠ g) (hsz : l.length + bs.length ≤ 1000000) :
    Calls Tryd.prog 27 #[.pointer (some ⟨g, 0, none⟩), v] w fun en w' => en = .returned (.tuple #[]) ∧ Has w' g (l ++ bs) ∧ Only g w w' := by
  obtain ⟨ad, cap, rfl, hbd, _, hcap, hr⟩ := hv
  go_enter Tryd.func27, Tryd.ntmps27
  go_wp2_with fail
  go_loopw [8] (fun i wr => ∃ k : Nat, k ≤ bs.length ∧ i = .int .i64 k ∧ Hid (Has wr g (l ++ bs.take k) ∧ Only g w wr)) (fun i _ => bs.length - (intOf i).toNat)
  case atStart => exact ⟨0, by omega, rfl, by simpa using hh, Only.refl _ _⟩
  case round =>
    clear hh
    obtain ⟨k, hk, rfl, HI⟩ := hrel
    by_cases hlt : k < bs.length
    · obtain ⟨b, off, rfl, hbs, hcell⟩ := hr (by omega)
      have hbg := hne b off _ _ rfl (by omega)
      obtain ⟨hH, ho⟩ := HI.out
      have cb : wr.cell? ⟨b, off + k, none⟩ = some (.int .u8 (nth bs k)) := by
        have h1 := ho.block b hbs hbg
        have h2 := hcell k hlt
        simp only [World.cell?] at h2 ⊢
        rw [h1]; exact h2
      have hlt' : (k : Int) < (bs.length : Int) := by omega
      obtain ⟨blk, hR, hBy, hT, hBl⟩ := hH
      have hll : (l ++ bs.take k).length = l.length + k := by simp; omega
      have HT : Hid (bs.take (k + 1) = bs.take k ++ [nth bs k]) := by
        show _ = _; rw [nth_eq bs k hlt, List.take_succ_eq_append_getElem hlt]
      have HC : Hid (0 ≤ nth bs k ∧ nth bs k ≤ 255) := nth_bd hbd k
      generalize hL : l ++ bs.take k = L at *
      have HL : Hid (l ++ bs.take k = L) := hL
      have HLL : Hid (L.length = l.length + k) := hll
      obtain ⟨M, hM⟩ : ∃ M, M = L.length := ⟨_, rfl⟩
      rw [← hM] at hR hT
      have HM : Hid (M = L.length) := hM
      have hMb : M ≤ 1000000 := by omega
      obtain ⟨r, hr2⟩ : ∃ r, r = M % 64 := ⟨_, rfl⟩
      have er : (M : Int).tmod 64 = (r : Int) := by rw [Int.tmod_eq_emod_of_nonneg (by omega)]; omega
      have hr0 : (0 : Int) ≤ (r : Int) := by omega
      have hr64 : (r : Int) < 64 := by omega
      have c72 := hR.len
      have f72 := hR.froz 72
      have c8 := hR.byte r (by omega)
      have f8 := hR.froz (8 + r)
      have hM1 : (M : Int) ≤ 1000000 := by omega
      have HR : Hid (HRow wr g (tn L (M / 64)) blk M) := hR
      have HHT : Hid (blk.take (M % 64) = L.drop (64 * (M / 64))) := hT
      have HR2 : Hid (r = M % 64) := hr2
      have HO : Hid (Only g w wr) := ho
      have hst := tn_st L (M / 64)
      generalize hS : tn L (M / 64) = S at HR hst
      have HS : Hid (tn L (M / 64) = S) := hS
      clear hS
      clear hcell hr hL hll hM hR hT hr2 ho HI
      generalize nth bs k = c at cb HT HC
      generalize nth blk r = z at c8
      by_cases hq : (M + 1) % 64 = 0
      · have eq : ((M : Int) + 1).tmod 64 = 0 := by rw [Int.tmod_eq_emod_of_nonneg (by omega)]; omega
        have HQ : Hid ((M + 1) % 64 = 0) := hq
        clear hq
        go_wp2
        refine wp_region_still_tail 10 Tryd.mixed (by kernel_rfl) ?_
        simp only [List.take_succ_cons, List.take_zero, List.drop_succ_cons, List.drop_zero]
        repeat still_step
        refine wpStill_nil ?_
        go_wp2_with fail
        have H1 := (HR.out.setByte r (by omega) c).setLen ((M : Int) + 1)
        have O1 := ((only_setCell wr g (8 + r) (.int .u8 c)).trans (only_setCell _ g 72 (.int .u64 ((M : Int) + 1)))).drew
        have H1' : HRow ((wr.setCell ⟨g, 8 + r, none⟩ (.int .u8 c)).setCell ⟨g, 72, none⟩ (.int .u64 ((M : Int) + 1))).drew g S (blk.set r c) ((M : Int) + 1) := H1
        generalize ((wr.setCell ⟨g, 8 + r, none⟩ (.int .u8 c)).setCell ⟨g, 72, none⟩ (.int .u64 ((M : Int) + 1))).drew = w2 at H1' O1 ⊢
        have O2 := HO.out.trans O1
        have hK2 := hK.only O2 hg
        have W8 : Hid (w2.rangeAt g 0 (cellsK .u32 S)) := H1'.words
        have W64 : Hid (w2.rangeAt g 8 (cellsK .u8 (blk.set r c))) := H1'.bytes
        have h8 : (Tryd.prog.info? 69).map (·.size) = some S.length := by rw [H1'.2.1]; exact Tryd.size69
        have h64 : (Tryd.prog.info? 59).map (·.size) = some (blk.set r c).length := by rw [H1'.2.2]; exact Tryd.size59
        have hBk : Blk (blk.set r c) := ⟨H1'.2.2, By.set hBy r HC.out⟩
        have HH1 : Hid (HRow w2 g S (blk.set r c) ((M : Int) + 1)) := H1'
        have HO2 : Hid (Only g w w2) := O2
        clear c72 f72 c8 f8 cb H1 H1' O1 O2
        refine wp_region_any Tryd.mixed ?_
        refine wpAny_take (i := 0) rfl (by kernel_rfl) (by kernel_rfl) (by kernel_rfl) (fun c a w h => h) (.inl ⟨rfl, fun w => rfl⟩) ?_
        refine wpAny_take (i := 1) rfl (by kernel_rfl) (by kernel_rfl) (by kernel_rfl) (fun c a w h => h) (.inl ⟨rfl, fun w => rfl⟩) ?_
        refine wpAny_take (i := 2) rfl (by kernel_rfl) (by kernel_rfl) (by kernel_rfl) (fun c a w h => h) (.inl ⟨rfl, fun w => rfl⟩) ?_
        refine wpAny_take (i := 3) (v := .pointer (some ⟨g, 0, none⟩)) rfl (by kernel_rfl) (by kernel_rfl) (by kernel_rfl) (fun c a w h => h) (.inl ⟨rfl, fun w => by go_simp⟩) ?_
        refine wpAny_take (i := 5) rfl (by kernel_rfl) (by kernel_rfl) (by kernel_rfl) (fun c a w h => h) (.inl ⟨rfl, fun w => rfl⟩) ?_
        refine wpAny_take (i := 6) rfl (by kernel_rfl) (by kernel_rfl) (by kernel_rfl) (fun c a w h => h) (.inl ⟨rfl, fun w => rfl⟩) ?_
        refine wpAny_take (i := 7) (v := .pointer (some ⟨g, 8, none⟩)) rfl (by kernel_rfl) (by kernel_rfl) (by kernel_rfl) (fun c a w h => h) (.inl ⟨rfl, fun w => by go_simp⟩) ?_
        refine wpAny_all (rs := [4, 8]) (by kernel_rfl) (by simp) (fun i hi => ?_)
        simp only [List.mem_cons, List.not_mem_nil, or_false] at hi
        rcases hi with rfl | rfl
        · refine wpOp_loadM 4 (by rfl) 69 (.tmp 38) g 0 .u32 S _ Tryd.underlying69 rfl h8 (by exact ⟨rfl, rfl⟩) (by kernel_rfl) W8.out ?_
          refine wpAny_all (rs := [8]) (by kernel_rfl) (by simp) (fun i hi => ?_)
          obtain rfl : i = 8 := by simpa using hi
          refine wpOp_loadM 8 (by rfl) 59 (.tmp 42) g 8 .u8 (blk.set r c) _ Tryd.underlying59 rfl h64 (by exact ⟨rfl, rfl⟩) (by kernel_rfl) W64.out ?_
          refine any_of_seq 9 (by rfl) (by kernel_rfl) ?_
          simp only [List.drop_succ_cons, List.drop_zero]
          go_wp2_with fail
          refine (turn_any S (blk.set r c) hst hBk w2.drew (show Kt w2.drew from hK2)).mono ?_
          rintro en w3 ⟨rfl, hb3⟩
          have hb3' : Below w2.heap.size w2 w3 := ⟨hb3.os, hb3.tape, hb3.output, hb3.size, hb3.block⟩
          have H3 := HH1.out.later hb3'
          have O3 := HO2.out.trans (Only.of_below hb3')
          have hst3 := turn_st (blk := blk.set r c) hst
          have hst3l := hst3.1
          have h83 : (Tryd.prog.info? 69).map (·.size) = some (turn S (blk.set r c)).length := by rw [hst3.1]; exact Tryd.size69
          clear hb3 hb3'
          go_wp2_with ((with_reducible refine wp_storeH 69 (.tmp 46) (.tmp 44) g S (blk.set r c) (turn S (blk.set r c)) ((M : Int) + 1) h83 ?_ ?_ ?_ hst3l H3 ?_); (exact ⟨rfl, rfl⟩); (exact rfl); (exact rfl); intro w4 H4 O4)
          have hm := HM.out
          have hr' := HR2.out
          refine ⟨⟨k + 1, by omega, by go_num, ?_, O3.trans O4⟩, by simp [intOf]; omega⟩
          rw [HT.out, ← List.append_assoc, HL.out]
          subst hm
          subst hr'
          refine has_full HC.out HQ.out (by have := HR.out.2.2; exact this) ?_ hBy HHT.out hBl
          rw [HS.out]
          exact H4
        · refine wpOp_loadM 8 (by rfl) 59 (.tmp 42) g 8 .u8 (blk.set r c) _ Tryd.underlying59 rfl h64 (by exact ⟨rfl, rfl⟩) (by kernel_rfl) W64.out ?_
          refine wpAny_all (rs := [4]) (by kernel_rfl) (by simp) (fun i hi => ?_)
          obtain rfl : i = 4 := by simpa using hi
          refine wpOp_loadM 4 (by rfl) 69 (.tmp 38) g 0 .u32 S _ Tryd.underlying69 rfl h8 (by exact ⟨rfl, rfl⟩) (by kernel_rfl) W8.out ?_
          refine any_of_seq 9 (by rfl) (by kernel_rfl) ?_
          simp only [List.drop_succ_cons, List.drop_zero]
          go_wp2_with fail
          refine (turn_any S (blk.set r c) hst hBk w2.drew (show Kt w2.drew from hK2)).mono ?_
          rintro en w3 ⟨rfl, hb3⟩
          have hb3' : Below w2.heap.size w2 w3 := ⟨hb3.os, hb3.tape, hb3.output, hb3.size, hb3.block⟩
          have H3 := HH1.out.later hb3'
          have O3 := HO2.out.trans (Only.of_below hb3')
          have hst3 := turn_st (blk := blk.set r c) hst
          have hst3l := hst3.1
          have h83 : (Tryd.prog.info? 69).map (·.size) = some (turn S (blk.set r c)).length := by rw [hst3.1]; exact Tryd.size69
          clear hb3 hb3'
          go_wp2_with ((with_reducible refine wp_storeH 69 (.tmp 46) (.tmp 44) g S (blk.set r c) (turn S (blk.set r c)) ((M : Int) + 1) h83 ?_ ?_ ?_ hst3l H3 ?_); (exact ⟨rfl, rfl⟩); (exact rfl); (exact rfl); intro w4 H4 O4)
          have hm := HM.out
          have hr' := HR2.out
          refine ⟨⟨k + 1, by omega, by go_num, ?_, O3.trans O4⟩, by simp [intOf]; omega⟩
          rw [HT.out, ← List.append_assoc, HL.out]
          subst hm
          subst hr'
          refine has_full HC.out HQ.out (by have := HR.out.2.2; exact this) ?_ hBy HHT.out hBl
          rw [HS.out]
          exact H4
      · obtain ⟨q, hq'⟩ : ∃ q, q = (M + 1) % 64 := ⟨_, rfl⟩
        have eq : ((M : Int) + 1).tmod 64 = (q : Int) := by rw [Int.tmod_eq_emod_of_nonneg (by omega)]; omega
        have hq0 : ¬ (q : Int) = 0 := by omega
        have HQ : Hid ((M + 1) % 64 ≠ 0) := hq
        clear hq hq'
        go_wp2
        refine wp_region_still_tail 10 Tryd.mixed (by kernel_rfl) ?_
        simp only [List.take_succ_cons, List.take_zero, List.drop_succ_cons, List.drop_zero]
        repeat still_step
        refine wpStill_nil ?_
        go_wp2
        have hm := HM.out
        have hr' := HR2.out
        have H1 := (HR.out.setByte r (by omega) c).setLen ((M : Int) + 1)
        have O1 := (HO.out.trans ((only_setCell wr g (8 + r) (.int .u8 c)).trans (only_setCell _ g 72 (.int .u64 ((M : Int) + 1))))).drew
        refine ⟨⟨k + 1, by omega, by go_num, ?_, O1⟩, by simp [intOf]; omega⟩
        rw [HT.out, ← List.append_assoc, HL.out]
        subst hm
        subst hr'
        refine has_more HC.out HQ.out ?_ hBy HHT.out hBl
        rw [HS.out]
        exact H1
    · have hk' : k = bs.length := by omega
      subst hk'
      obtain ⟨hH, ho⟩ := HI.out
      rw [List.take_length] at hH
      go_wp2
      go_end0
      exact ⟨rfl, hH, ho⟩
end Go.Proofs.YtilfmemfnheppaaDoor
