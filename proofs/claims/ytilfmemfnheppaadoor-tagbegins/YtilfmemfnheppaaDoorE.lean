/- What a block turns eight words into, as the program reckons it: the rounds' numbers from its table. Conditions: the table holds the rounds' numbers; a block is 64 bytes; words are numbers of 32 bits. -/
import Derived.Test.YtilfmemfnheppaaDoorD
import Derived.StillTailTactics
namespace Go.Proofs.YtilfmemfnheppaaDoor
open Go.RowKit Hx
set_option linter.unusedVariables false

/-- the rounds' numbers -/
def kTab : List Int := [1116352408, 1899447441, 3049323471, 3921009573, 961987163, 1508970993, 2453635748, 2870763221, 3624381080, 310598401, 607225278, 1426881987, 1925078388, 2162078206, 2614888103, 3248222580, 3835390401, 4022224774, 264347078, 604807628, 770255983, 1249150122, 1555081692, 1996064986, 2554220882, 2821834349, 2952996808, 3210313671, 3336571891, 3584528711, 113926993, 338241895, 666307205, 773529912, 1294757372, 1396182291, 1695183700, 1986661051, 2177026350, 2456956037, 2730485921, 2820302411, 3259730800, 3345764771, 3516065817, 3600352804, 4094571909, 275423344, 430227734, 506948616, 659060556, 883997877, 958139571, 1322822218, 1537002063, 1747873779, 1955562222, 2024104815, 2227730452, 2361852424, 2428436474, 2756734187, 3204031479, 3329325298]
theorem kTab_wd : ∀ x ∈ kTab, Wd x := by unfold Wd; decide +kernel

/-- the program's table holds them -/
def Kt (w : World) : Prop := ∀ i, i < 64 → w.cell? ⟨0, i, none⟩ = some (.int .u32 (nth kTab i))
theorem Kt.pos {w : World} (h : Kt w) : 0 < w.heap.size := block_lt_of_cell (h 0 (by omega))
theorem Kt.below {w w' : World} {B : Nat} (h : Kt w) (hb : Below B w w') (hB : 0 < B) : Kt w' := fun i hi => (hb.cell (p := ⟨0, i, none⟩) hB).trans (h i hi)
theorem Kt.later {w w' : World} (h : Kt w) (hb : Below w.heap.size w w') : Kt w' := h.below hb h.pos
theorem Kt.only {w w' : World} {g : Nat} (h : Kt w) (hb : Only g w w') (hg : 0 < g) : Kt w' := fun i hi => by
  have := hb.block 0 h.pos (by omega)
  have h2 := h i hi
  simp only [World.cell?] at h2 ⊢
  rw [this]; exact h2

/-- the words behind i rounds -/
def rf (K W s : List Int) : Nat → List Int
  | 0 => s
  | i + 1 => rnd (rf K W s i) ((nth K i + nth W i) % 4294967296)
theorem rf_st {K W s : List Int} (h : St s) (i : Nat) : St (rf K W s i) := by
  induction i with
  | zero => exact h
  | succ i ih => exact rnd_st ih _
/-- of the words t the first k, and to each what it was in s -/
def mix (s t : List Int) (k : Nat) : List Int := (List.range t.length).map fun i => if i < k then (nth t i + nth s i) % 4294967296 else nth t i
theorem mix_len (s t : List Int) (k : Nat) : (mix s t k).length = t.length := by simp [mix]
theorem mix_at (s t : List Int) (k i : Nat) (h : i < t.length) : nth (mix s t k) i = if i < k then (nth t i + nth s i) % 4294967296 else nth t i := by
  rw [nth_eq _ i (by rw [mix_len]; exact h)]; simp [mix]
theorem mix_zero (s t : List Int) : mix s t 0 = t := by
  refine List.ext_getElem (mix_len s t 0) fun i h1 h2 => ?_
  rw [← nth_eq _ i h1, mix_at s t 0 i h2, if_neg (by omega), nth_eq t i h2]
theorem mix_set (s t : List Int) (k : Nat) (h : k < t.length) : (mix s t k).set k ((nth t k + nth s k) % 4294967296) = mix s t (k + 1) := by
  refine List.ext_getElem (by simp [mix_len]) fun i h1 h2 => ?_
  have hi : i < t.length := by simpa [mix_len] using h2
  rw [List.getElem_set]
  rw [← nth_eq _ i h2, mix_at s t (k + 1) i hi]
  by_cases e : k = i
  · subst e; simp
  · rw [if_neg e, ← nth_eq (mix s t k) i (by rw [mix_len]; exact hi), mix_at s t k i hi]
    by_cases hk : i < k
    · rw [if_pos hk, if_pos (by omega)]
    · rw [if_neg hk, if_neg (by omega)]
/-- the words behind a block -/
def turn (s blk : List Int) : List Int := mix s (rf kTab (ws blk 48) s 64) 8
theorem turn_st {s blk : List Int} (h : St s) : St (turn s blk) := by
  have h2 := rf_st (K := kTab) (W := ws blk 48) h 64
  refine ⟨by rw [turn, mix_len]; exact h2.1, fun x hx => ?_⟩
  unfold turn mix at hx
  simp only [List.mem_map, List.mem_range] at hx
  obtain ⟨i, hi, rfl⟩ := hx
  rw [if_pos (by rw [h2.1] at hi; exact hi)]
  exact md_wd _

theorem Tryd.mixed : Tryd.prog.follows .mixedOrders = true := by kernel_rfl

/-- an array read whole, as a step of a region that draws its order -/
theorem still_loadR {P : Program} {ops : Array Oper} {w : World} {Q : Act → Prop} {rest : List Oper} {o : Oper} {a : Act} (ty : TypeId) (x : Operand) (g : Nat) (k : IntKind) (xs : List Int) (d : TypeDesc)
    (hu : P.underlying ty = some d) (hd : d.isRow = true) (hi : (P.info? ty).map (·.size) = some xs.length)
    (hop : o.guard = none ∧ o.op = .load ty x) (hx : a.eval x = .pointer (some ⟨g, 0, none⟩)) (hr : Row w g k xs)
    (hK : wpStill P ops w Q rest (a.put o.dst (arr k xs))) : wpStill P ops w Q (o :: rest) a := by
  have hrun := run_loadAt_mid (P := P) w g 0 ty (cellsK k xs) d hr.range hu hd (by rw [cellsK_len]; exact hi)
  unfold wpStill
  rw [if_pos (by simp [Region.wanted, hop.1])]
  unfold Oper.still execOp
  simp only [hop.2, hx, Sem.run_bind, hrun, Result.andThen_ok, Sem.run_pure, Oper.stillUpon]
  exact ⟨trivial, hK⟩

set_option maxRecDepth 100000 in
set_option maxHeartbeats 1000000 in
theorem turn_any (s blk : List Int) (hs : St s) (hB : Blk blk) (w : World) (hK : Kt w) :
    Calls Tryd.prog 35 #[arr .u32 s, arr .u8 blk] w fun en w' => en = .returned (arr .u32 (turn s blk)) ∧ Below w.heap.size w w' := by
  have h8 : (Tryd.prog.info? 69).map (·.size) = some s.length := by rw [hs.1]; exact Tryd.size69
  have h64 : (Tryd.prog.info? 59).map (·.size) = some blk.length := by rw [hB.1]; exact Tryd.size59
  have hw64 : (Tryd.prog.info? 79).map (·.size) = some (ws blk 48).length := by rw [ws_len]; exact Tryd.size79
  go_enter Tryd.func35, Tryd.ntmps35
  go_wp2_with (first
    | ((with_reducible refine wp_boxR 69 (.tmp 0) .u32 s ?_ ?_ ?_); (exact rfl); (exact ⟨rfl, rfl⟩); intro p2 w2 hg2 hr2 hb2)
    | ((with_reducible refine wp_boxR 59 (.tmp 1) .u8 blk ?_ ?_ ?_); (exact rfl); (exact ⟨rfl, rfl⟩); intro p3 w3 hg3 hr3 hb3)
    | ((with_reducible refine wp_allocD 4 69 .u32 8 Tryd.zero69 ?_ ?_); (exact ⟨rfl, rfl, rfl⟩); intro p4 w4 hg4 hr4 hb4; replace hr3 := hr3.later hb4)
    | ((with_reducible refine wp_loadR 59 (.tmp 3) p3 .u8 blk _ Tryd.underlying59 rfl h64 ?_ ?_ hr3 ?_); (exact ⟨rfl, rfl⟩); (exact rfl)))
  have q1 : w.heap.size ≤ p4 := Nat.le_trans (Nat.le_trans hb2.size hb3.size) hg4
  have q2 : w.heap.size ≤ p2 := hg2
  have q3 : p2 < p4 := Nat.lt_of_lt_of_le hr2.lt (Nat.le_trans hb3.size hg4)
  have hb : Below w.heap.size w w4 := below_next (below_next hb2 hb3) hb4
  replace hr2 := (hr2.later hb3).later hb4
  clear hb2 hb3 hb4 hg2 hg3 hg4 hr3
  refine (spread_any blk hB _).mono ?_
  rintro e w5 ⟨rfl, hb5⟩
  replace hr2 := hr2.later hb5
  replace hr4 := hr4.later hb5
  replace hb := below_next hb hb5
  clear hb5
  go_wp2_with (first
    | ((with_reducible refine wp_allocD 5 79 .u32 64 Tryd.zero79 ?_ ?_); (exact ⟨rfl, rfl, rfl⟩); intro p5 w6 hg6 hr6 hb6; replace hr2 := hr2.later hb6)
    | ((with_reducible refine wp_storeR 79 (.tmp 5) (.tmp 10) p5 .u32 (List.replicate 64 0) (ws blk 48) hw64 ?_ ?_ ?_ ?_ hr6 ?_); (rw [ws_len]; rfl); (exact ⟨rfl, rfl⟩); (exact rfl); (exact rfl); intro w7 hr7 ho7; replace hr2 := hr2.only ho7 (by have := hr2.lt; have := hr4.lt; have := hb6.size; omega))
    | ((with_reducible refine wp_loadR 69 (.tmp 2) p2 .u32 s _ Tryd.underlying69 rfl h8 ?_ ?_ hr2 ?_); (exact ⟨rfl, rfl⟩); (exact rfl))
    | ((with_reducible refine wp_allocD 6 69 .u32 8 Tryd.zero69 ?_ ?_); (exact ⟨rfl, rfl, rfl⟩); intro p6 w8 hg8 hr8 hb8)
    | ((with_reducible refine wp_storeR 69 (.tmp 6) (.tmp 11) p6 .u32 (List.replicate 8 0) s h8 ?_ ?_ ?_ ?_ hr8 ?_); (rw [hs.1]; rfl); (exact ⟨rfl, rfl⟩); (exact rfl); (exact rfl); intro w9 hr9 ho9))
  have HI : Hid (Row w9 p2 .u32 s ∧ Row w9 p4 .u32 (List.replicate 8 0) ∧ Row w9 p5 .u32 (ws blk 48) ∧ Row w9 p6 .u32 s ∧ Kt w9 ∧ Below w.heap.size w w9) := by
    have l2 := hr2.lt
    have l4 := hr4.lt
    have l6 := hb6.size
    have l7 := ho7.size
    have l8 := hb8.size
    have l5 := hr7.lt
    have B7 : Below w.heap.size w w7 := below_only (below_next hb hb6) ho7 (by have := hb.size; omega) (Nat.le_refl _)
    have B9 : Below w.heap.size w w9 := below_only (below_next B7 hb8) ho9 (by have := B7.size; omega) (Nat.le_refl _)
    refine ⟨(hr2.later hb8).only ho9 (by omega), (((hr4.later hb6).only ho7 (by omega)).later hb8).only ho9 (by omega), (hr7.later hb8).only ho9 (by omega), hr9, hK.below B9 hK.pos, B9⟩
  have q4 : p4 < p5 := Nat.lt_of_lt_of_le hr4.lt hg6
  have q5 : p5 < p6 := Nat.lt_of_lt_of_le hr7.lt hg8
  have q0 : 0 < w.heap.size := hK.pos
  clear hr2 hr4 hr6 hr7 hr8 hr9 hb hb6 hb8 ho7 ho9 hg6 hg8 hK h64
  generalize hW : ws blk 48 = W at *
  have HW : Hid (ws blk 48 = W) := hW
  have hWl : W.length = 64 := by rw [← hW, ws_len]
  clear hW
  go_loopw [12] (fun i wr => ∃ k : Nat, k ≤ 64 ∧ i = .int .i64 k ∧ Hid (Row wr p2 .u32 s ∧ Row wr p4 .u32 (List.replicate 8 0) ∧ Row wr p5 .u32 W ∧ Row wr p6 .u32 (rf kTab W s k) ∧ Kt wr ∧ Below w.heap.size w wr)) (fun i _ => 64 - (intOf i).toNat)
  case atStart => exact ⟨0, by omega, rfl, HI.out⟩
  case round =>
    clear HI
    obtain ⟨k, hk, rfl, HI⟩ := hrel
    by_cases hlt : k < 64
    · obtain ⟨r2, r4, r5, r6, hKt, hb⟩ := HI.out
      have hlt' : (k : Int) < 64 := by omega
      have hk0 : (0 : Int) ≤ (k : Int) := by omega
      have hst := rf_st (K := kTab) (W := W) hs k
      have HR : Hid (rf kTab W s (k + 1) = rnd (rf kTab W s k) ((nth kTab k + nth W k) % 4294967296)) := rfl
      have H8 : Hid ((Tryd.prog.info? 69).map (·.size) = some (rf kTab W s k).length) := by rw [hst.1]; exact Tryd.size69
      have R6 : Hid (Row wr p6 .u32 (rf kTab W s k)) := r6
      have cK := hKt k hlt
      have cW := r5.cell k (by omega)
      clear r2 r4 r5 r6 hKt hb
      generalize nth kTab k = Kk at *
      generalize nth W k = Wk at *
      go_wp2
      refine wp_region_still_tail 8 Tryd.mixed (by kernel_rfl) ?_
      simp only [List.take_succ_cons, List.take_zero, List.drop_succ_cons, List.drop_zero]
      refine still_loadR 69 (.tmp 6) p6 .u32 (rf kTab W s k) _ Tryd.underlying69 rfl H8.out ⟨rfl, rfl⟩ rfl R6.out ?_
      repeat still_step
      refine wpStill_nil ?_
      go_wp2_with fail
      refine (round_any _ _ hst _).mono ?_
      rintro e w' ⟨rfl, hb'⟩
      have hb'' : Below wr.heap.size wr w' := ⟨hb'.os, hb'.tape, hb'.output, hb'.size, hb'.block⟩
      clear hb'
      have R6' := R6.out.later hb''
      have hst' := rnd_st hst ((Kk + Wk) % 4294967296)
      go_wp2_with ((with_reducible refine wp_storeR 69 (.tmp 6) (.tmp 23) p6 .u32 (rf kTab W s k) (rnd (rf kTab W s k) ((Kk + Wk) % 4294967296)) ?_ ?_ ?_ ?_ ?_ R6' ?_); (rw [hst'.1]; exact Tryd.size69); (rw [hst.1, hst'.1]); (exact ⟨rfl, rfl⟩); (exact rfl); (exact rfl); intro w'' r'' o'')
      go_roundw
      case rel =>
        obtain ⟨r2, r4, r5, r6, hKt, hb⟩ := HI.out
        have l := hb.size
        refine ⟨k + 1, by omega, by go_num, (r2.later hb'').only o'' (by omega), (r4.later hb'').only o'' (by omega), (r5.later hb'').only o'' (by omega), by rw [HR.out]; exact r'', (hKt.later hb'').only o'' (by omega), below_only (below_next hb hb'') o'' (by omega) (Nat.le_refl _)⟩
      case measure => simp [intOf]; omega
    · have hk' : k = 64 := by omega
      subst hk'
      have hst := rf_st (K := kTab) (W := W) hs 64
      have HT : Hid (turn s blk = mix s (rf kTab W s 64) 8) := by show _ = _; rw [← HW.out]; rfl
      generalize rf kTab W s 64 = T at *
      go_wp2_with fail
      go_loopw [25] (fun i wr => ∃ k : Nat, k ≤ 8 ∧ i = .int .i64 k ∧ Hid (Row wr p2 .u32 s ∧ Row wr p4 .u32 (List.replicate 8 0) ∧ Row wr p6 .u32 (mix s T k) ∧ Below w.heap.size w wr)) (fun i _ => 8 - (intOf i).toNat)
      case atStart =>
        obtain ⟨r2, r4, r5, r6, hKt, hb⟩ := HI.out
        exact ⟨0, by omega, rfl, r2, r4, by rw [mix_zero]; exact r6, hb⟩
      case round =>
        clear HI hk hlt
        obtain ⟨k, hk, rfl, HI⟩ := hrel
        by_cases hlt : k < 8
        · obtain ⟨r2, r4, r6, hb⟩ := HI.out
          have hlt' : (k : Int) < 8 := by omega
          have hk0 : (0 : Int) ≤ (k : Int) := by omega
          have c1 := r6.cell k (by rw [mix_len, hst.1]; exact hlt)
          have c2 := r2.cell k (by rw [hs.1]; exact hlt)
          have f1 := r6.froz k
          rw [mix_at s T k k (by rw [hst.1]; exact hlt), if_neg (by omega)] at c1
          have HM : Hid ((mix s T k).set k ((nth T k + nth s k) % 4294967296) = mix s T (k + 1)) := mix_set s T k (by rw [hst.1]; exact hlt)
          clear r2 r4 r6 hb
          generalize nth T k = X at *
          generalize nth s k = Y at *
          go_wp2
          refine wp_region_still_tail 8 Tryd.mixed (by kernel_rfl) ?_
          simp only [List.take_succ_cons, List.take_zero, List.drop_succ_cons, List.drop_zero]
          repeat still_step
          refine wpStill_nil ?_
          go_wp2
          go_roundw
          case rel =>
            (repeat apply Exists.intro)
            refine ⟨?_, rfl⟩
            obtain ⟨r2, r4, r6, hb⟩ := HI.out
            have o := only_setCell wr p6 k (.int .u32 ((X + Y) % 4294967296))
            have h6 := r6.set k ((X + Y) % 4294967296)
            rw [HM.out] at h6
            have a2 := r2.only o (show p2 ≠ p6 by omega)
            have a4 := r4.only o (show p4 ≠ p6 by omega)
            exact ⟨k + 1, by omega, by go_num, a2, a4, h6, (below_only hb o (by omega) (Nat.le_refl _)).drew⟩
          case measure => simp [intOf]; omega
        · have hk' : k = 8 := by omega
          subst hk'
          obtain ⟨r2, r4, r6, hb⟩ := HI.out
          have hml : (Tryd.prog.info? 69).map (·.size) = some (mix s T 8).length := by rw [mix_len, hst.1]; exact Tryd.size69
          have R4 : Hid (Row wr p4 .u32 (List.replicate 8 0)) := r4
          have R6 : Hid (Row wr p6 .u32 (mix s T 8)) := r6
          have HB : Hid (Below w.heap.size w wr) := hb
          clear r2 r4 r6 hb HI
          go_wp2_with (first
            | ((with_reducible refine wp_loadR 69 (.tmp 6) p6 .u32 (mix s T 8) _ Tryd.underlying69 rfl hml ?_ ?_ R6.out ?_); (exact ⟨rfl, rfl⟩); (exact rfl))
            | ((with_reducible refine wp_storeR 69 (.tmp 4) (.tmp 37) p4 .u32 (List.replicate 8 0) (mix s T 8) hml ?_ ?_ ?_ ?_ R4.out ?_); (rw [mix_len, hst.1]; rfl); (exact ⟨rfl, rfl⟩); (exact rfl); (exact rfl); intro w4 r4 h4))
          refine ret_row rfl p4 .u32 (mix s T 8) _ Tryd.underlying69 rfl hml rfl r4 rfl ⟨by rw [HT.out], ?_⟩
          exact below_only HB.out h4 q1 (Nat.le_refl _)
end Go.Proofs.YtilfmemfnheppaaDoor
