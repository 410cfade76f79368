/- The document's own digest, and the walk of ShaSums. Conditions: the table holds the rounds' numbers. -/
import Derived.Test.YtilfmemfnheppaaDoorR
import Derived.Test.YtilfmemfnheppaaDoorG
import Derived.Laws.AppendOwnNone
namespace Go.Proofs.YtilfmemfnheppaaDoor
open Go.RowKit Hx
set_option linter.unusedVariables false

theorem start_eq : startS = startP := rfl

/-- the byte i of eight words, in four bytes each -/
theorem bigB4 (x : Int) : ∀ j, j < 4 → nth (bigB x 4) j = cutB x (3 - j) % 256 := by
  intro j hj
  match j, hj with
  | 0, _ => rfl
  | 1, _ => rfl
  | 2, _ => rfl
  | 3, _ => rfl
theorem dgs_at (s : List Int) : ∀ k, ∀ i, i < 4 * k → nth (dgs s k) i = nth (bigB (nth s (i / 4)) 4) (i % 4) := by
  intro k
  induction k with
  | zero => intro i hi; omega
  | succ k ih =>
    intro i hi
    by_cases h : i < 4 * k
    · rw [← ih i h]
      exact nth_left (dgs s k) (bigB (nth s k) 4) i (by rw [dgs_len]; exact h)
    · have e : i / 4 = k := by omega
      rw [e]
      unfold dgs
      have hl := dgs_len s k
      rw [nth_eq _ i (by simp [hl, bigB_len]; omega), nth_eq _ (i % 4) (by rw [bigB_len]; omega), List.getElem_append_right (by omega)]
      congr 1
      omega
/-- the digest's byte, as the document reckons it -/
theorem dgs_byte (s : List Int) (i m : Nat) (hi : i < 32) (hm : m = 24 - 8 * (i % 4)) : nth s (i / 4) / 2 ^ m % 256 = nth (dgs s 8) i := by
  rw [dgs_at s 8 i (by omega), bigB4 _ (i % 4) (by omega)]
  unfold cutB
  have e : (256 : Int) ^ (3 - i % 4) = 2 ^ m := by
    rw [show (256 : Int) = 2 ^ 8 from rfl, ← Int.pow_mul, hm]
    congr 1
    omega
  rw [e]

theorem padded_len (l : List Int) : (padded l).length = l.length + (noughts l.length + 9) := by
  unfold padded; rw [List.length_append, padB_len]
theorem padded_div (l : List Int) : (padded l).length % 64 = 0 := by
  rw [padded_len]; unfold noughts; omega

theorem run_slice22 (w : World) (g L C a b : Nat) (h1 : a ≤ b) (h2 : b ≤ C) (h3 : a < C) : (Instr.sliceAt 25 (.slice (some ⟨g, 0, none⟩) L C) (some (.int .i64 (a : Int))) (some (.int .i64 (b : Int))) none).run Tryd.prog w =
    .ok (.slice (some ⟨g, a, none⟩) (b - a) (C - a)) w := by
  have e1 : ((a : Int)).toNat = a := by omega
  have e2 : ((b : Int)).toNat = b := by omega
  have e3 : (⟨g, 0, none⟩ : Addr).add a = ⟨g, a, none⟩ := by rw [Addr.add_mid, Nat.zero_add]
  have ht : Tryd.prog.underlying 25 = some (.slice (Tryd.prog.elem 25)) := by kernel_rfl
  have he : Tryd.prog.elem 25 = 5 := by kernel_rfl
  rw [run_sliceAt_slice w 25 _ _ _ _ ht, run_slice_lh w 25 _ _ _ ht .i64 .i64 _ _ (by omega) (by omega) (by omega), he, Tryd.sizeOf5, e1, e2]
  simp only [Result.andThen_ok, sliced, Nat.mul_one, e3, Option.map_some]
  first | rfl | (rw [if_neg (by omega)])

theorem sl_only {w w' : World} {g n cap off g' : Nat} {xs : List Int} (h : Sl w (.slice (some ⟨g, off, none⟩) n cap) xs) (ho : Only g' w w') (hg : g ≠ g') : Sl w' (.slice (some ⟨g, off, none⟩) n cap) xs := by
  obtain ⟨a, c, hv, hx, hl, hc, hr⟩ := h
  refine ⟨a, c, hv, hx, hl, hc, fun h0 => ?_⟩
  obtain ⟨b, o, ha, hb, hcell⟩ := hr h0
  subst ha
  cases hv
  refine ⟨g, off, rfl, Nat.lt_of_lt_of_le hb ho.size, fun i hi => ?_⟩
  have h2 := hcell i hi
  simp only [World.cell?] at h2 ⊢
  rw [ho.block g hb hg]; exact h2
theorem sl_part {w : World} {g cap : Nat} {xs : List Int} (h : Sl w (.slice (some ⟨g, 0, none⟩) xs.length cap) xs) (a n c : Nat) (h1 : a + n ≤ xs.length) (h2 : n ≤ c) (h0 : 0 < n) : Sl w (.slice (some ⟨g, a, none⟩) n c) ((xs.drop a).take n) := by
  obtain ⟨ad, cp, hv, hx, hl, hc, hr⟩ := h
  obtain ⟨b, o, ha, hb, hcell⟩ := hr (by omega)
  subst ha
  cases hv
  have hlen : ((xs.drop a).take n).length = n := by simp; omega
  refine ⟨_, c, by rw [hlen], fun x hm => hx x (List.mem_of_mem_drop (List.mem_of_mem_take hm)), by omega, by omega, fun _ => ⟨g, a, rfl, hb, fun i hi => ?_⟩⟩
  rw [hlen] at hi
  have := hcell (a + i) (by omega)
  rw [Nat.zero_add] at this
  rw [this, nth_take xs a n i hi (by omega)]

set_option maxRecDepth 100000 in
set_option maxHeartbeats 8000000 in
theorem rsum_any (v : Value) (l : List Int) (w : World) (hv : Sl w v l) (hnil : ∀ n c, v = .slice none n c → n = 0 ∧ c = 0) (hsz : l.length ≤ 900000) :
    Calls Tryd.prog 30 #[v] w fun en w' => en = .returned (arr .u8 (sumB l)) ∧ Below w.heap.size w w' := by
  obtain ⟨i0, hi, hz0, hz1, hz2⟩ := info_parts Tryd.info5
  have h32 : (Tryd.prog.info? 49).map (·.size) = some (sumB l).length := by unfold sumB; rw [dgs_len]; exact Tryd.size49
  have hBl : By l := by obtain ⟨_, _, _, h, _⟩ := hv; exact h
  obtain ⟨a, cap, rfl, hx, hl, hc, hr⟩ := hv
  cases a with
  | none =>
    obtain ⟨hn, rfl⟩ := hnil _ _ rfl
    have hl0 : l = [] := List.eq_nil_of_length_eq_zero hn
    subst hl0
    go_enter Tryd.func30, Tryd.ntmps30
    go_wp2_with (first
      | ((with_reducible refine wp_allocD 2 49 .u8 32 Tryd.zero49 ?_ ?_); (exact ⟨rfl, rfl, rfl⟩); intro p2 w2 hg2 r2a hb2)
      | (at_builtin; refine wpList_append_own_none rfl (.tmp 8) (.tmp 9) 25 rfl w2.heap.size 5 i0 1 Tryd.underlying25 hi (.slice none 0 0) 0 [] rfl (World.ownsRow_nil _ _ _ _) rfl ?_))
    obtain ⟨w1, hw1⟩ : ∃ w1, w1 = w2 := ⟨_, rfl⟩
    have hb1 : Below w2.heap.size w2 w1 := by rw [hw1]; exact Below.refl _ _
    have own1 : w1.ownsRow w2.heap.size 5 1 (.slice none 0 0) 0 (cells8 []) := World.ownsRow_nil _ _ _ _
    rw [← hw1]
    have HO1 : Hid (w1.ownsRow w2.heap.size 5 1 (.slice none 0 0) 0 (cells8 ([] : List Int))) := own1
    have hsz1 := hb1.size
    clear own1
    refine (rpad_any ((0 : Nat) : Int) (by omega) (by omega) _).mono ?_
    rintro e w3 ⟨v3, rfl, ow3, hb3⟩
    have hpl := padB_len ((0 : Nat) : Int)
    have hnl := noughts_lt ((0 : Nat) : Int)
    have s3 : Sl w3 v3 (padB ((0 : Nat) : Int)) := Sl.of_own ow3 (padB_bd _) (by omega)
    obtain ⟨b3, off3, cap3, hv3, hbs3, hcl3⟩ := sl_cells s3 (by omega)
    obtain ⟨PL, hPL⟩ : ∃ PL, PL = (padB ((0 : Nat) : Int)).length := ⟨_, rfl⟩
    rw [← hPL] at hv3
    subst hv3
    have own3 := own_later HO1.out hb3
    have hb3' : Below w2.heap.size w2 w3 := below_next hb1 hb3
    have hsz3 := hb3'.size
    have HC3 : Hid (∀ j u, (cells8 (padB ((0 : Nat) : Int)))[j]? = some u → w3.cell? ((⟨b3, off3, none⟩ : Addr).add j) = some u) := hcl3
    have HPL : Hid (PL = (padB ((0 : Nat) : Int)).length) := hPL
    have hPLb : PL ≤ 100 := by omega
    have hPL0 : 0 < PL := by omega
    clear hcl3 s3 ow3 hPL hpl hnl hb3 HO1 hsz1 hb1
    go_wp2_with (at_builtin; refine wpList_append_own _ rfl (.tmp 11) (.tmp 15) 25 rfl w2.heap.size 5 i0 (.int .u8 0) 1 1 Tryd.underlying25 hi hz0 hz1 hz2 rfl (by decide) (.slice none 0 0) 0 (cells8 ([] : List Int)) rfl own3 ⟨b3, off3, none⟩ PL cap3 (cells8 (padB ((0 : Nat) : Int))) rfl (by rw [cells8_len, HPL.out, Nat.mul_one]) HC3.out (cells8_one _) (by unfold maxLen; omega) (by omega) hsz3 ?_; intro v4 w4 hown4 hgrow4 _)
    have hb4 : Below w2.heap.size w2 w4 := hb3'.grown hgrow4 hsz3 (fun q h => (World.ownsRow.lt own3 q h).1)
    have e4 : cells8 ([] : List Int) ++ cells8 (padB ((0 : Nat) : Int)) = cells8 (padded ([] : List Int)) := cells8_app _ _
    have n4 : 0 + PL = (padded ([] : List Int)).length := by rw [HPL.out]; unfold padded; rw [List.length_append]; first | done | rfl
    rw [e4, n4] at hown4
    obtain ⟨g4, cap4, cur4, hv4, hg4, hh4, hnc4, _⟩ : ∃ g cap cur, v4 = .slice (some ⟨g, 0, none⟩) (padded ([] : List Int)).length cap ∧ w2.heap.size ≤ g ∧ w4.heap[g]? = some cur ∧ (padded ([] : List Int)).length ≤ cap ∧ True := by
      rcases hown4.2 with ⟨_, h⟩ | ⟨g, cap, cur, hv, hg, hh, hnc, _⟩
      · omega
      · exact ⟨g, cap, _, hv, hg, hh, hnc, trivial⟩
    subst hv4
    have hl4 : (padded ([] : List Int)).length ≤ 901000 := by rw [← n4]; omega
    have hA0 : 0 < (padded ([] : List Int)).length := by rw [← n4]; omega
    have s4 : Sl w4 (.slice (some ⟨g4, 0, none⟩) (padded ([] : List Int)).length cap4) (padded ([] : List Int)) := Sl.of_own (base := w2.heap.size) hown4 (padded_by hBl) (by omega)
    have HS4 : Hid (Sl w4 (.slice (some ⟨g4, 0, none⟩) (padded ([] : List Int)).length cap4) (padded ([] : List Int))) := s4
    have HN4 : Hid ((padded ([] : List Int)).length % 64 = 0) := padded_div ([] : List Int)
    have HBP : Hid (By (padded ([] : List Int))) := padded_by hBl
    have HSB : Hid (sumB ([] : List Int) = dgs (tn (padded ([] : List Int)) ((padded ([] : List Int)).length / 64)) 8) := rfl
    clear hown4 hgrow4 own3 hb3' e4 hPL0 HC3 HPL s4 hh4 n4 hPLb
    generalize padded ([] : List Int) = A at *
    go_wp2_with fail
    refine (rstart_any _).mono ?_
    rintro e w5 ⟨rfl, hb5⟩
    rw [start_eq]
    have hk8 : (Tryd.prog.info? 75).map (·.size) = some startP.length := Tryd.size75
    have s5 := HS4.out.later hb5
    have hb5' : Below w2.heap.size w2 w5 := below_next hb4 hb5
    go_wp2_with (first
      | ((with_reducible refine wp_allocD 4 75 .u64 8 Tryd.zero75 ?_ ?_); (exact ⟨rfl, rfl, rfl⟩); intro p4 w6 hg6 hr6 hb6)
      | ((with_reducible refine wp_storeR 75 (.tmp 4) (.tmp 17) p4 .u64 (List.replicate 8 0) startP hk8 ?_ ?_ ?_ ?_ hr6 ?_); (exact rfl); (exact ⟨rfl, rfl⟩); (exact rfl); (exact rfl); intro w7 r7 ho7))
    have hgp : g4 < p4 := by have := HS4.out; have h1 := sl_block this g4 0 _ _ rfl (by omega); have := hb5.size; omega
    have s7 : Sl w7 (.slice (some ⟨g4, 0, none⟩) A.length cap4) A := sl_only (s5.later hb6) ho7 (by omega)
    have hb7 : Below w2.heap.size w2 w7 := below_only (below_next hb5' hb6) ho7 (by omega) (Nat.le_refl _)
    have HI : Hid (Row w7 p4 .u64 (tn A 0) ∧ Sl w7 (.slice (some ⟨g4, 0, none⟩) A.length cap4) A ∧ Below w2.heap.size w2 w7) := ⟨r7, s7, hb7⟩
    clear s5 hb5 hb5' hr6 hb6 hg6 r7 ho7 s7 hb7 HS4 hb4
    obtain ⟨L, hL⟩ : ∃ L, L = A.length := ⟨_, rfl⟩
    have HL : Hid (L = A.length) := hL
    rw [← hL] at HI HN4 HSB hnc4 hl4 ⊢
    go_loopw [5] (fun v wr => ∃ k i : Nat, Hid (i = 64 * k) ∧ i ≤ L ∧ v = .int .i64 i ∧ Hid (Row wr p4 .u64 (tn A k) ∧ Sl wr (.slice (some ⟨g4, 0, none⟩) L cap4) A ∧ Below w2.heap.size w2 wr)) (fun v _ => L - (intOf v).toNat)
    case atStart => exact ⟨0, 0, rfl, by omega, rfl, HI.out⟩
    case round =>
      clear HI hL
      obtain ⟨k, i, HK, hiL, rfl, HI⟩ := hrel
      have hik := HK.out
      obtain ⟨j, hj⟩ : ∃ j, j = i + 64 := ⟨_, rfl⟩
      have ej : (i : Int) + 64 = j := by omega
      have vj : IntKind.i64.wrap (j : Int) = j := wrap_small _ (by omega) (by omega)
      by_cases hlt : j ≤ L
      · have hlt' : (j : Int) ≤ (L : Int) := by omega
        have hi0 : (0 : Int) ≤ (i : Int) := by omega
        have hst := tn_st A k
        have h8 : (Tryd.prog.info? 75).map (·.size) = some (tn A k).length := by rw [hst.1]; exact Tryd.size75
        have hsl := fun w => run_slice22 w g4 L cap4 i j (by omega) (by omega) (by omega)
        rw [show j - i = 64 by omega] at hsl
        obtain ⟨r4, s4, hb⟩ := HI.out
        have hLA := HL.out
        have hBk : Blk ((A.drop (64 * k)).take 64) := ⟨by simp; omega, fun x hx => HBP.out x (List.mem_of_mem_drop (List.mem_of_mem_take hx))⟩
        have sP : Sl wr.drew (.slice (some ⟨g4, i, none⟩) 64 (cap4 - i)) ((A.drop (64 * k)).take 64) := by
          have := sl_part (w := wr) (by rw [← hLA]; exact s4) i 64 (cap4 - i) (by omega) (by omega) (by omega)
          rw [← hik]; exact this
        have HSP : Hid (Sl wr.drew (.slice (some ⟨g4, i, none⟩) 64 (cap4 - i)) ((A.drop (64 * k)).take 64)) := sP
        have R4 : Hid (Row wr p4 .u64 (tn A k)) := r4
        have HT : Hid (tn A (k + 1) = turn (tn A k) ((A.drop (64 * k)).take 64)) := rfl
        have HJ : Hid (j = i + 64) := hj
        clear sP r4 s4 hb hj hLA hik
        go_wp2
        refine wp_region_still_tail 6 Tryd.mixed (by kernel_rfl) ?_
        simp only [List.take_succ_cons, List.take_zero, List.drop_succ_cons, List.drop_zero]
        refine still_loadR 75 (.tmp 4) p4 .u64 (tn A k) _ Tryd.underlying75 rfl h8 ⟨rfl, rfl⟩ rfl R4.out ?_
        repeat still_step
        refine wpStill_nil ?_
        go_wp2_with fail
        refine (rturn_any (tn A k) ((A.drop (64 * k)).take 64) hst hBk _ wr.drew HSP.out).mono ?_
        rintro e w8 ⟨rfl, hb8⟩
        have hb8' : Below wr.heap.size wr w8 := ⟨hb8.os, hb8.tape, hb8.output, hb8.size, hb8.block⟩
        have r8 := R4.out.later hb8'
        have hst8 := (turn_st (blk := (A.drop (64 * k)).take 64) hst).1
        have h88 : (Tryd.prog.info? 75).map (·.size) = some (turn (tn A k) ((A.drop (64 * k)).take 64)).length := by rw [hst8]; exact Tryd.size75
        clear hb8 hsl
        go_wp2_with ((with_reducible refine wp_storeR 75 (.tmp 4) (.tmp 31) p4 .u64 (tn A k) (turn (tn A k) ((A.drop (64 * k)).take 64)) h88 ?_ ?_ ?_ ?_ r8 ?_); (rw [hst8, hst.1]); (exact ⟨rfl, rfl⟩); (exact rfl); (exact rfl); intro w9 r9 o9)
        obtain ⟨_, s4, hb⟩ := HI.out
        have hj' := HJ.out
        have hk' := HK.out
        rw [← HT.out] at r9
        have a4 : Sl w9 (.slice (some ⟨g4, 0, none⟩) L cap4) A := sl_only (s4.later hb8') o9 (by omega)
        have ab := below_only (below_next hb hb8') o9 (show w2.heap.size ≤ p4 by omega) (Nat.le_refl _)
        exact ⟨⟨k + 1, j, (show j = 64 * (k + 1) by omega), by omega, by go_num, r9, a4, ab⟩, by simp [intOf]; omega⟩
      · have hkL : k = L / 64 := by have := HN4.out; omega
        obtain ⟨r4, s4, hb⟩ := HI.out
        have hst := tn_st A k
        rw [← hkL] at HSB
        generalize tn A k = S at r4 hst HSB
        have hsl : (dgs S 8).length = 32 := dgs_len S 8
        go_wp2_with ((with_reducible refine wp_allocD 6 49 .u8 32 Tryd.zero49 ?_ ?_); (exact ⟨rfl, rfl, rfl⟩); intro p6 w9 hg9 hr9 hb9)
        have hp46 : p4 < p6 := Nat.lt_of_lt_of_le r4.lt hg9
        have HJ : Hid (Row w9 p4 .u64 S ∧ Row w9 p6 .u8 ((dgs S 8).take 0 ++ List.replicate (32 - 0) 0) ∧ Below w2.heap.size w2 w9) := ⟨r4.later hb9, hr9, below_next hb hb9⟩
        clear r4 s4 hb hr9 hb9 hg9 HI
        go_loopw [7] (fun v wr => ∃ i : Nat, i ≤ 32 ∧ v = .int .i64 i ∧ Hid (Row wr p4 .u64 S ∧ Row wr p6 .u8 ((dgs S 8).take i ++ List.replicate (32 - i) 0) ∧ Below w2.heap.size w2 wr)) (fun v _ => 32 - (intOf v).toNat)
        case atStart => exact ⟨0, by omega, rfl, HJ.out⟩
        case round =>
          clear HJ
          obtain ⟨m, hm, rfl, HJ⟩ := hrel
          by_cases hlt2 : m < 32
          · have hm' : (m : Int) < 32 := by omega
            have hm0 : (0 : Int) ≤ (m : Int) := by omega
            obtain ⟨r4, r6, hb⟩ := HJ.out
            obtain ⟨q, hq⟩ : ∃ q, q = m / 4 := ⟨_, rfl⟩
            obtain ⟨r, hr'⟩ : ∃ r, r = m % 4 := ⟨_, rfl⟩
            obtain ⟨s, hs⟩ : ∃ s, s = 24 - 8 * r := ⟨_, rfl⟩
            have eq : (m : Int).tdiv 4 = (q : Int) := by rw [Int.tdiv_eq_ediv_of_nonneg hm0]; omega
            have er : (m : Int).tmod 4 = (r : Int) := by rw [Int.tmod_eq_emod_of_nonneg hm0]; omega
            have hq8 : (q : Int) < 8 := by omega
            have hq0 : (0 : Int) ≤ (q : Int) := by omega
            have hr4 : (r : Int) < 4 := by omega
            have es : (24 : Int) - 8 * (r : Int) = (s : Int) := by omega
            have us : IntKind.u64.wrap (s : Int) = s := by rw [IntKind.wrap_u64]; omega
            have c4 := r4.cell q (by rw [hst.1]; omega)
            have c6 := r6.cell m (by simp [hsl]; omega)
            have f6 := r6.froz m
            obtain ⟨x0, x1⟩ := nth_wd hst.2 q
            have HX : Hid (nth S q / 2 ^ s % 256 = nth (dgs S 8) m) := by
              show _ = _; rw [hq]; exact dgs_byte S m s hlt2 (by omega)
            have HT : Hid ((dgs S 8).take m ++ [nth (dgs S 8) m] = (dgs S 8).take (m + 1)) := take_next (dgs S 8) m (by omega)
            have hsh : Op.shift .shr .u64 (nth S q) .u64 (s : Int) = pure (.int .u64 (nth S q / 2 ^ s)) := by
              rw [shift_shr .u64 .u64 _ s (by omega) (by show (s : Int) ≤ 64; omega), Int.toNat_natCast]
            clear r4 r6 hb hq hr' hs
            generalize nth S q = X at c4 x0 x1 HX hsh
            generalize nth ((dgs S 8).take m ++ List.replicate (32 - m) 0) m = z at c6
            go_wp2
            obtain ⟨r4, r6, hb⟩ := HJ.out
            have o := only_setCell wr p6 m (.int .u8 (X / 2 ^ s % 256))
            have a4 := r4.only o (show p4 ≠ p6 by omega)
            have a6 := r6.set m (X / 2 ^ s % 256)
            rw [show 32 - m = (32 - (m + 1)) + 1 by omega] at a6
            have e := set_next ((dgs S 8).take m) (32 - (m + 1)) (X / 2 ^ s % 256)
            rw [show ((dgs S 8).take m).length = m by rw [List.length_take, hsl]; omega] at e
            rw [e, HX.out, HT.out] at a6
            rw [← HX.out] at a6
            have ab := below_only hb o (show w2.heap.size ≤ p6 by omega) (Nat.le_refl _)
            exact ⟨⟨m + 1, by omega, by go_num, a4, a6, ab⟩, by simp [intOf]; omega⟩
          · have hm' : m = 32 := by omega
            subst hm'
            obtain ⟨r4, r6, hb⟩ := HJ.out
            rw [List.take_of_length_le (by omega), Nat.sub_self, List.replicate_zero, List.append_nil, ← HSB.out] at r6
            have R6 : Hid (Row wr p6 .u8 (sumB ([] : List Int))) := r6
            have r2 := r2a.below hb r2a.lt
            go_wp2_with (first
              | ((with_reducible refine wp_loadR 49 (.tmp 6) p6 .u8 (sumB ([] : List Int)) _ Tryd.underlying49 rfl h32 ?_ ?_ R6.out ?_); (exact ⟨rfl, rfl⟩); (exact rfl))
              | ((with_reducible refine wp_storeR 49 (.tmp 2) (.tmp 49) p2 .u8 (List.replicate 32 0) (sumB ([] : List Int)) h32 ?_ ?_ ?_ ?_ r2 ?_); (unfold sumB; rw [dgs_len]; rfl); (exact ⟨rfl, rfl⟩); (exact rfl); (exact rfl); intro w10 r10 o10))
            refine ret_row rfl p2 .u8 (sumB ([] : List Int)) _ Tryd.underlying49 rfl h32 rfl r10 rfl ⟨rfl, ?_⟩
            exact below_only (hb2.trans (hb.mono hb2.size)) o10 hg2 (Nat.le_refl _)
  | some ad =>
    have hnews : Hid (∀ (w' : World), Below w.heap.size w w' → ∀ j u, (cells8 l)[j]? = some u → w'.cell? (ad.add j) = some u) := by
      intro w' hb j u hj
      have hj' : j < l.length := by have := (List.getElem?_eq_some_iff.1 hj).1; rw [cells8_len] at this; exact this
      obtain ⟨b, off, hab, hbs, hcell⟩ := hr (by omega)
      cases hab
      rw [Addr.add_mid, hb.cell (p := ⟨b, off + j, none⟩) hbs, hcell j hj', ← hj, cells8_at l j hj']
    go_enter Tryd.func30, Tryd.ntmps30
    go_wp2_with (first
      | ((with_reducible refine wp_allocD 2 49 .u8 32 Tryd.zero49 ?_ ?_); (exact ⟨rfl, rfl, rfl⟩); intro p2 w2 hg2 r2a hb2)
      | (at_builtin; refine wpList_append_own _ rfl (.tmp 8) (.tmp 9) 25 rfl w2.heap.size 5 i0 (.int .u8 0) 1 1 Tryd.underlying25 hi hz0 hz1 hz2 rfl (by decide) (.slice none 0 0) 0 [] rfl (World.ownsRow_nil _ _ _ _) ad l.length cap (cells8 l) rfl (by rw [cells8_len, Nat.mul_one]) (hnews.out _ hb2) (cells8_one _) (by unfold maxLen; omega) (by omega) (Nat.le_refl _) ?_; intro v1 w1 hown1 hgrow1 _))
    have hb1 : Below w2.heap.size w2 w1 := (Below.refl _ _).grown hgrow1 (Nat.le_refl _) (fun q h => by cases h)
    have own1 : w1.ownsRow w2.heap.size 5 1 v1 l.length (cells8 l) := by simpa using hown1
    clear hown1 hgrow1
    have HO1 : Hid (w1.ownsRow w2.heap.size 5 1 v1 l.length (cells8 l)) := own1
    have hsz1 := hb1.size
    clear own1
    refine (rpad_any ((l.length : Nat) : Int) (by omega) (by omega) _).mono ?_
    rintro e w3 ⟨v3, rfl, ow3, hb3⟩
    have hpl := padB_len ((l.length : Nat) : Int)
    have hnl := noughts_lt ((l.length : Nat) : Int)
    have s3 : Sl w3 v3 (padB ((l.length : Nat) : Int)) := Sl.of_own ow3 (padB_bd _) (by omega)
    obtain ⟨b3, off3, cap3, hv3, hbs3, hcl3⟩ := sl_cells s3 (by omega)
    obtain ⟨PL, hPL⟩ : ∃ PL, PL = (padB ((l.length : Nat) : Int)).length := ⟨_, rfl⟩
    rw [← hPL] at hv3
    subst hv3
    have own3 := own_later HO1.out hb3
    have hb3' : Below w2.heap.size w2 w3 := below_next hb1 hb3
    have hsz3 := hb3'.size
    have HC3 : Hid (∀ j u, (cells8 (padB ((l.length : Nat) : Int)))[j]? = some u → w3.cell? ((⟨b3, off3, none⟩ : Addr).add j) = some u) := hcl3
    have HPL : Hid (PL = (padB ((l.length : Nat) : Int)).length) := hPL
    have hPLb : PL ≤ 100 := by omega
    have hPL0 : 0 < PL := by omega
    clear hcl3 s3 ow3 hPL hpl hnl hb3 HO1 hsz1 hb1
    go_wp2_with (at_builtin; refine wpList_append_own _ rfl (.tmp 11) (.tmp 15) 25 rfl w2.heap.size 5 i0 (.int .u8 0) 1 1 Tryd.underlying25 hi hz0 hz1 hz2 rfl (by decide) v1 l.length (cells8 l) rfl own3 ⟨b3, off3, none⟩ PL cap3 (cells8 (padB ((l.length : Nat) : Int))) rfl (by rw [cells8_len, HPL.out, Nat.mul_one]) HC3.out (cells8_one _) (by unfold maxLen; omega) (by omega) hsz3 ?_; intro v4 w4 hown4 hgrow4 _)
    have hb4 : Below w2.heap.size w2 w4 := hb3'.grown hgrow4 hsz3 (fun q h => (World.ownsRow.lt own3 q h).1)
    have e4 : cells8 l ++ cells8 (padB ((l.length : Nat) : Int)) = cells8 (padded l) := cells8_app _ _
    have n4 : l.length + PL = (padded l).length := by rw [HPL.out]; unfold padded; rw [List.length_append]; first | done | rfl
    rw [e4, n4] at hown4
    obtain ⟨g4, cap4, cur4, hv4, hg4, hh4, hnc4, _⟩ : ∃ g cap cur, v4 = .slice (some ⟨g, 0, none⟩) (padded l).length cap ∧ w2.heap.size ≤ g ∧ w4.heap[g]? = some cur ∧ (padded l).length ≤ cap ∧ True := by
      rcases hown4.2 with ⟨_, h⟩ | ⟨g, cap, cur, hv, hg, hh, hnc, _⟩
      · omega
      · exact ⟨g, cap, _, hv, hg, hh, hnc, trivial⟩
    subst hv4
    have hl4 : (padded l).length ≤ 901000 := by rw [← n4]; omega
    have hA0 : 0 < (padded l).length := by rw [← n4]; omega
    have s4 : Sl w4 (.slice (some ⟨g4, 0, none⟩) (padded l).length cap4) (padded l) := Sl.of_own (base := w2.heap.size) hown4 (padded_by hBl) (by omega)
    have HS4 : Hid (Sl w4 (.slice (some ⟨g4, 0, none⟩) (padded l).length cap4) (padded l)) := s4
    have HN4 : Hid ((padded l).length % 64 = 0) := padded_div l
    have HBP : Hid (By (padded l)) := padded_by hBl
    have HSB : Hid (sumB l = dgs (tn (padded l) ((padded l).length / 64)) 8) := rfl
    clear hown4 hgrow4 own3 hb3' e4 hPL0 HC3 HPL s4 hh4 n4 hPLb
    generalize padded l = A at *
    go_wp2_with fail
    refine (rstart_any _).mono ?_
    rintro e w5 ⟨rfl, hb5⟩
    rw [start_eq]
    have hk8 : (Tryd.prog.info? 75).map (·.size) = some startP.length := Tryd.size75
    have s5 := HS4.out.later hb5
    have hb5' : Below w2.heap.size w2 w5 := below_next hb4 hb5
    go_wp2_with (first
      | ((with_reducible refine wp_allocD 4 75 .u64 8 Tryd.zero75 ?_ ?_); (exact ⟨rfl, rfl, rfl⟩); intro p4 w6 hg6 hr6 hb6)
      | ((with_reducible refine wp_storeR 75 (.tmp 4) (.tmp 17) p4 .u64 (List.replicate 8 0) startP hk8 ?_ ?_ ?_ ?_ hr6 ?_); (exact rfl); (exact ⟨rfl, rfl⟩); (exact rfl); (exact rfl); intro w7 r7 ho7))
    have hgp : g4 < p4 := by have := HS4.out; have h1 := sl_block this g4 0 _ _ rfl (by omega); have := hb5.size; omega
    have s7 : Sl w7 (.slice (some ⟨g4, 0, none⟩) A.length cap4) A := sl_only (s5.later hb6) ho7 (by omega)
    have hb7 : Below w2.heap.size w2 w7 := below_only (below_next hb5' hb6) ho7 (by omega) (Nat.le_refl _)
    have HI : Hid (Row w7 p4 .u64 (tn A 0) ∧ Sl w7 (.slice (some ⟨g4, 0, none⟩) A.length cap4) A ∧ Below w2.heap.size w2 w7) := ⟨r7, s7, hb7⟩
    clear s5 hb5 hb5' hr6 hb6 hg6 r7 ho7 s7 hb7 HS4 hb4
    obtain ⟨L, hL⟩ : ∃ L, L = A.length := ⟨_, rfl⟩
    have HL : Hid (L = A.length) := hL
    rw [← hL] at HI HN4 HSB hnc4 hl4 ⊢
    go_loopw [5] (fun v wr => ∃ k i : Nat, Hid (i = 64 * k) ∧ i ≤ L ∧ v = .int .i64 i ∧ Hid (Row wr p4 .u64 (tn A k) ∧ Sl wr (.slice (some ⟨g4, 0, none⟩) L cap4) A ∧ Below w2.heap.size w2 wr)) (fun v _ => L - (intOf v).toNat)
    case atStart => exact ⟨0, 0, rfl, by omega, rfl, HI.out⟩
    case round =>
      clear HI hL
      obtain ⟨k, i, HK, hiL, rfl, HI⟩ := hrel
      have hik := HK.out
      obtain ⟨j, hj⟩ : ∃ j, j = i + 64 := ⟨_, rfl⟩
      have ej : (i : Int) + 64 = j := by omega
      have vj : IntKind.i64.wrap (j : Int) = j := wrap_small _ (by omega) (by omega)
      by_cases hlt : j ≤ L
      · have hlt' : (j : Int) ≤ (L : Int) := by omega
        have hi0 : (0 : Int) ≤ (i : Int) := by omega
        have hst := tn_st A k
        have h8 : (Tryd.prog.info? 75).map (·.size) = some (tn A k).length := by rw [hst.1]; exact Tryd.size75
        have hsl := fun w => run_slice22 w g4 L cap4 i j (by omega) (by omega) (by omega)
        rw [show j - i = 64 by omega] at hsl
        obtain ⟨r4, s4, hb⟩ := HI.out
        have hLA := HL.out
        have hBk : Blk ((A.drop (64 * k)).take 64) := ⟨by simp; omega, fun x hx => HBP.out x (List.mem_of_mem_drop (List.mem_of_mem_take hx))⟩
        have sP : Sl wr.drew (.slice (some ⟨g4, i, none⟩) 64 (cap4 - i)) ((A.drop (64 * k)).take 64) := by
          have := sl_part (w := wr) (by rw [← hLA]; exact s4) i 64 (cap4 - i) (by omega) (by omega) (by omega)
          rw [← hik]; exact this
        have HSP : Hid (Sl wr.drew (.slice (some ⟨g4, i, none⟩) 64 (cap4 - i)) ((A.drop (64 * k)).take 64)) := sP
        have R4 : Hid (Row wr p4 .u64 (tn A k)) := r4
        have HT : Hid (tn A (k + 1) = turn (tn A k) ((A.drop (64 * k)).take 64)) := rfl
        have HJ : Hid (j = i + 64) := hj
        clear sP r4 s4 hb hj hLA hik
        go_wp2
        refine wp_region_still_tail 6 Tryd.mixed (by kernel_rfl) ?_
        simp only [List.take_succ_cons, List.take_zero, List.drop_succ_cons, List.drop_zero]
        refine still_loadR 75 (.tmp 4) p4 .u64 (tn A k) _ Tryd.underlying75 rfl h8 ⟨rfl, rfl⟩ rfl R4.out ?_
        repeat still_step
        refine wpStill_nil ?_
        go_wp2_with fail
        refine (rturn_any (tn A k) ((A.drop (64 * k)).take 64) hst hBk _ wr.drew HSP.out).mono ?_
        rintro e w8 ⟨rfl, hb8⟩
        have hb8' : Below wr.heap.size wr w8 := ⟨hb8.os, hb8.tape, hb8.output, hb8.size, hb8.block⟩
        have r8 := R4.out.later hb8'
        have hst8 := (turn_st (blk := (A.drop (64 * k)).take 64) hst).1
        have h88 : (Tryd.prog.info? 75).map (·.size) = some (turn (tn A k) ((A.drop (64 * k)).take 64)).length := by rw [hst8]; exact Tryd.size75
        clear hb8 hsl
        go_wp2_with ((with_reducible refine wp_storeR 75 (.tmp 4) (.tmp 31) p4 .u64 (tn A k) (turn (tn A k) ((A.drop (64 * k)).take 64)) h88 ?_ ?_ ?_ ?_ r8 ?_); (rw [hst8, hst.1]); (exact ⟨rfl, rfl⟩); (exact rfl); (exact rfl); intro w9 r9 o9)
        obtain ⟨_, s4, hb⟩ := HI.out
        have hj' := HJ.out
        have hk' := HK.out
        rw [← HT.out] at r9
        have a4 : Sl w9 (.slice (some ⟨g4, 0, none⟩) L cap4) A := sl_only (s4.later hb8') o9 (by omega)
        have ab := below_only (below_next hb hb8') o9 (show w2.heap.size ≤ p4 by omega) (Nat.le_refl _)
        exact ⟨⟨k + 1, j, (show j = 64 * (k + 1) by omega), by omega, by go_num, r9, a4, ab⟩, by simp [intOf]; omega⟩
      · have hkL : k = L / 64 := by have := HN4.out; omega
        obtain ⟨r4, s4, hb⟩ := HI.out
        have hst := tn_st A k
        rw [← hkL] at HSB
        generalize tn A k = S at r4 hst HSB
        have hsl : (dgs S 8).length = 32 := dgs_len S 8
        go_wp2_with ((with_reducible refine wp_allocD 6 49 .u8 32 Tryd.zero49 ?_ ?_); (exact ⟨rfl, rfl, rfl⟩); intro p6 w9 hg9 hr9 hb9)
        have hp46 : p4 < p6 := Nat.lt_of_lt_of_le r4.lt hg9
        have HJ : Hid (Row w9 p4 .u64 S ∧ Row w9 p6 .u8 ((dgs S 8).take 0 ++ List.replicate (32 - 0) 0) ∧ Below w2.heap.size w2 w9) := ⟨r4.later hb9, hr9, below_next hb hb9⟩
        clear r4 s4 hb hr9 hb9 hg9 HI
        go_loopw [7] (fun v wr => ∃ i : Nat, i ≤ 32 ∧ v = .int .i64 i ∧ Hid (Row wr p4 .u64 S ∧ Row wr p6 .u8 ((dgs S 8).take i ++ List.replicate (32 - i) 0) ∧ Below w2.heap.size w2 wr)) (fun v _ => 32 - (intOf v).toNat)
        case atStart => exact ⟨0, by omega, rfl, HJ.out⟩
        case round =>
          clear HJ
          obtain ⟨m, hm, rfl, HJ⟩ := hrel
          by_cases hlt2 : m < 32
          · have hm' : (m : Int) < 32 := by omega
            have hm0 : (0 : Int) ≤ (m : Int) := by omega
            obtain ⟨r4, r6, hb⟩ := HJ.out
            obtain ⟨q, hq⟩ : ∃ q, q = m / 4 := ⟨_, rfl⟩
            obtain ⟨r, hr'⟩ : ∃ r, r = m % 4 := ⟨_, rfl⟩
            obtain ⟨s, hs⟩ : ∃ s, s = 24 - 8 * r := ⟨_, rfl⟩
            have eq : (m : Int).tdiv 4 = (q : Int) := by rw [Int.tdiv_eq_ediv_of_nonneg hm0]; omega
            have er : (m : Int).tmod 4 = (r : Int) := by rw [Int.tmod_eq_emod_of_nonneg hm0]; omega
            have hq8 : (q : Int) < 8 := by omega
            have hq0 : (0 : Int) ≤ (q : Int) := by omega
            have hr4 : (r : Int) < 4 := by omega
            have es : (24 : Int) - 8 * (r : Int) = (s : Int) := by omega
            have us : IntKind.u64.wrap (s : Int) = s := by rw [IntKind.wrap_u64]; omega
            have c4 := r4.cell q (by rw [hst.1]; omega)
            have c6 := r6.cell m (by simp [hsl]; omega)
            have f6 := r6.froz m
            obtain ⟨x0, x1⟩ := nth_wd hst.2 q
            have HX : Hid (nth S q / 2 ^ s % 256 = nth (dgs S 8) m) := by
              show _ = _; rw [hq]; exact dgs_byte S m s hlt2 (by omega)
            have HT : Hid ((dgs S 8).take m ++ [nth (dgs S 8) m] = (dgs S 8).take (m + 1)) := take_next (dgs S 8) m (by omega)
            have hsh : Op.shift .shr .u64 (nth S q) .u64 (s : Int) = pure (.int .u64 (nth S q / 2 ^ s)) := by
              rw [shift_shr .u64 .u64 _ s (by omega) (by show (s : Int) ≤ 64; omega), Int.toNat_natCast]
            clear r4 r6 hb hq hr' hs
            generalize nth S q = X at c4 x0 x1 HX hsh
            generalize nth ((dgs S 8).take m ++ List.replicate (32 - m) 0) m = z at c6
            go_wp2
            obtain ⟨r4, r6, hb⟩ := HJ.out
            have o := only_setCell wr p6 m (.int .u8 (X / 2 ^ s % 256))
            have a4 := r4.only o (show p4 ≠ p6 by omega)
            have a6 := r6.set m (X / 2 ^ s % 256)
            rw [show 32 - m = (32 - (m + 1)) + 1 by omega] at a6
            have e := set_next ((dgs S 8).take m) (32 - (m + 1)) (X / 2 ^ s % 256)
            rw [show ((dgs S 8).take m).length = m by rw [List.length_take, hsl]; omega] at e
            rw [e, HX.out, HT.out] at a6
            rw [← HX.out] at a6
            have ab := below_only hb o (show w2.heap.size ≤ p6 by omega) (Nat.le_refl _)
            exact ⟨⟨m + 1, by omega, by go_num, a4, a6, ab⟩, by simp [intOf]; omega⟩
          · have hm' : m = 32 := by omega
            subst hm'
            obtain ⟨r4, r6, hb⟩ := HJ.out
            rw [List.take_of_length_le (by omega), Nat.sub_self, List.replicate_zero, List.append_nil, ← HSB.out] at r6
            have R6 : Hid (Row wr p6 .u8 (sumB l)) := r6
            have r2 := r2a.below hb r2a.lt
            go_wp2_with (first
              | ((with_reducible refine wp_loadR 49 (.tmp 6) p6 .u8 (sumB l) _ Tryd.underlying49 rfl h32 ?_ ?_ R6.out ?_); (exact ⟨rfl, rfl⟩); (exact rfl))
              | ((with_reducible refine wp_storeR 49 (.tmp 2) (.tmp 49) p2 .u8 (List.replicate 32 0) (sumB l) h32 ?_ ?_ ?_ ?_ r2 ?_); (unfold sumB; rw [dgs_len]; rfl); (exact ⟨rfl, rfl⟩); (exact rfl); (exact rfl); intro w10 r10 o10))
            refine ret_row rfl p2 .u8 (sumB l) _ Tryd.underlying49 rfl h32 rfl r10 rfl ⟨rfl, ?_⟩
            exact below_only (hb2.trans (hb.mono hb2.size)) o10 hg2 (Nat.le_refl _)
end Go.Proofs.YtilfmemfnheppaaDoor
