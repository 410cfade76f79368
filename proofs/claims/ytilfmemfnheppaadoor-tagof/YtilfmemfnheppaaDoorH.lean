/- The beginning as the program reckons it, by the roots of the first primes; the padding. Conditions: a length is a number of 64 bits. -/
import Derived.Test.YtilfmemfnheppaaDoorE
import Derived.Test.YtilfmemfnheppaaDoorPE
import Derived.Deep.AppendLies
namespace Go.Proofs.YtilfmemfnheppaaDoor
open Go.RowKit Hx
set_option linter.unusedVariables false

/-- the beginning -/
def startP : List Int := [1779033703, 3144134277, 1013904242, 2773480762, 1359893119, 2600822924, 528734635, 1541459225]
theorem startP_st : St startP := ⟨rfl, by unfold Wd startP; decide⟩
theorem start_word : ∀ i, i < 8 → ((Pr.rt (Pr.hundred.getD i 0) 2 % 4294967296 : Nat) : Int) = nth startP i ∧ 2 ≤ Pr.hundred.getD i 0 ∧ Pr.hundred.getD i 0 ≤ 1000 := by decide +kernel
theorem take_next (l : List Int) (k : Nat) (h : k < l.length) : l.take k ++ [nth l k] = l.take (k + 1) := by
  rw [nth_eq l k h, List.take_succ_eq_append_getElem h]

set_option maxHeartbeats 1000000 in
theorem start_any (w : World) : Calls Tryd.prog 41 #[] w fun en w' => en = .returned (arr .u32 startP) ∧ Below w.heap.size w w' := by
  have h8 : (Tryd.prog.info? 69).map (·.size) = some startP.length := Tryd.size69
  go_enter Tryd.func41, Tryd.ntmps41
  go_wp2_with (first
    | ((with_reducible refine wp_allocD 0 69 .u32 8 Tryd.zero69 ?_ ?_); (exact ⟨rfl, rfl, rfl⟩); intro p1 w1 hg1 hr1 hb1)
    | ((with_reducible refine wp_allocD 1 69 .u32 8 Tryd.zero69 ?_ ?_); (exact ⟨rfl, rfl, rfl⟩); intro p2 w2 hg2 hr2 hb2))
  have HI : Hid (Row w2 p1 .u32 (List.replicate 8 0) ∧ Row w2 p2 .u32 (startP.take 0 ++ List.replicate (8 - 0) 0) ∧ Below w.heap.size w w2) := ⟨hr1.later hb2, hr2, below_next hb1 hb2⟩
  have q1 : w.heap.size ≤ p1 := hg1
  have q2 : p1 < p2 := Nat.lt_of_lt_of_le hr1.lt hg2
  clear hr1 hr2 hb1 hb2 hg1 hg2
  go_loopw [3] (fun i wr => ∃ k : Nat, k ≤ 8 ∧ i = .int .i64 k ∧ Hid (Row wr p1 .u32 (List.replicate 8 0) ∧ Row wr p2 .u32 (startP.take k ++ List.replicate (8 - k) 0) ∧ Below w.heap.size w wr)) (fun i _ => 8 - (intOf i).toNat)
  case atStart => exact ⟨0, by omega, rfl, HI.out⟩
  case round =>
    clear HI
    obtain ⟨k, hk, rfl, HI⟩ := hrel
    by_cases hlt : k < 8
    · have hlt' : (k : Int) < 8 := by omega
      have hk0 : (0 : Int) ≤ (k : Int) := by omega
      have hpr := Pr.pr_hundred k (by omega)
      obtain ⟨hw1, hw2, hw3⟩ := start_word k hlt
      have HP : Hid (Pr.pr k = (Pr.hundred.getD k 0 : Nat)) := hpr
      obtain ⟨P, hP⟩ : ∃ P, P = Pr.hundred.getD k 0 := ⟨_, rfl⟩
      rw [← hP] at hw1 hw2 hw3 HP
      have HW : Hid (((Pr.rt P 2 % 4294967296 : Nat) : Int) = nth startP k) := hw1
      clear hpr hw1 hP
      go_wp2_with fail
      refine (Pr.nth_any k _).mono ?_
      rintro e w3 ⟨rfl, hb3⟩
      rw [HP.out]
      go_wp2_with fail
      refine (Pr.root_any P 2 hw2 hw3 (.inl rfl) _).mono ?_
      rintro e w4 ⟨rfl, rfl⟩
      rw [HW.out]
      obtain ⟨r1, r2, hb⟩ := HI.out
      have r1' := r1.later hb3
      have r2' := r2.later hb3
      have hb' := below_next hb hb3
      have c1 := r2'.cell k (by show k < _; simp [startP]; omega)
      have f1 := r2'.froz k
      have HJ : Hid (Row w4 p1 .u32 (List.replicate 8 0) ∧ Row w4 p2 .u32 (startP.take k ++ List.replicate (8 - k) 0) ∧ Below w.heap.size w w4) := ⟨r1', r2', hb'⟩
      clear r1 r2 hb r1' r2' hb' hb3 HI HP HW
      generalize hz : nth (startP.take k ++ List.replicate (8 - k) 0) k = z at c1
      generalize hX : nth startP k = X
      have HX : Hid (nth startP k = X) := hX
      clear hX hz
      go_wp2
      obtain ⟨r1, r2, hb⟩ := HJ.out
      have o := only_setCell w4 p2 k (.int .u32 X)
      have a1 := r1.only o (show p1 ≠ p2 by omega)
      have a2 := r2.set k X
      rw [show 8 - k = (8 - (k + 1)) + 1 by omega] at a2
      have e := set_next (startP.take k) (8 - (k + 1)) X
      rw [show (startP.take k).length = k by simp [startP]; omega] at e
      rw [e, ← HX.out, take_next startP k hlt, HX.out] at a2
      have ab := below_only hb o (show w.heap.size ≤ p2 by omega) (Nat.le_refl _)
      refine ⟨⟨k + 1, by omega, by go_num, a1, a2, ab⟩, ?_⟩
      simp [intOf]; omega
    · have hk' : k = 8 := by omega
      subst hk'
      obtain ⟨r1, r2, hb⟩ := HI.out
      have R2 : Hid (Row wr p2 .u32 startP) := r2
      go_wp2_with (first
        | ((with_reducible refine wp_loadR 69 (.tmp 1) p2 .u32 startP _ Tryd.underlying69 rfl h8 ?_ ?_ R2.out ?_); (exact ⟨rfl, rfl⟩); (exact rfl))
        | ((with_reducible refine wp_storeR 69 (.tmp 0) (.tmp 15) p1 .u32 (List.replicate 8 0) startP h8 ?_ ?_ ?_ ?_ r1 ?_); (exact rfl); (exact ⟨rfl, rfl⟩); (exact rfl); (exact rfl); intro w5 r5 o5))
      refine ret_row rfl p1 .u32 startP _ Tryd.underlying69 rfl h8 rfl r5 rfl ⟨rfl, ?_⟩
      exact below_only hb o5 q1 (Nat.le_refl _)

/-- how many noughts a padding has -/
def noughts (n : Int) : Nat := ((64 - (n + 9) % 64) % 64).toNat
/-- the padding of n bytes -/
def padB (n : Int) : List Int := (128 :: List.replicate (noughts n) 0) ++ bigB (8 * n % 18446744073709551616) 8

theorem own_later {w w' : World} {base : Nat} {e : TypeId} {sz : Nat} {v : Value} {n : Nat} {xs : List Value} (h : w.ownsRow base e sz v n xs) (hb : Below w.heap.size w w') : w'.ownsRow base e sz v n xs := by
  obtain ⟨h1, h2⟩ := h
  refine ⟨h1, ?_⟩
  rcases h2 with h | ⟨g, cap, cur, hv, hg, hh, hr⟩
  · exact .inl h
  · exact .inr ⟨g, cap, cur, hv, hg, (hb.block g (Array.getElem?_eq_some_iff.1 hh).1).trans hh, hr⟩
/-- a row that isn't empty, its cells one by one -/
theorem sl_cells {w : World} {v : Value} {xs : List Int} (h : Sl w v xs) (h0 : 0 < xs.length) :
    ∃ b off cap, v = .slice (some ⟨b, off, none⟩) xs.length cap ∧ b < w.heap.size ∧ ∀ j u, (cells8 xs)[j]? = some u → w.cell? ((⟨b, off, none⟩ : Addr).add j) = some u := by
  obtain ⟨a, cap, hv, hx, hl, hc, hr⟩ := h
  obtain ⟨b, off, rfl, hb, hcell⟩ := hr h0
  refine ⟨b, off, cap, hv, hb, fun j u hj => ?_⟩
  have hj' : j < xs.length := by have := (List.getElem?_eq_some_iff.1 hj).1; rw [cells8_len] at this; exact this
  rw [Addr.add_mid, hcell j hj', ← hj, cells8_at xs j hj']

theorem made_zero (m : Nat) : (madeCells (Value.int .u8 0).cells (m * 1)).toList = cells8 (List.replicate m 0) := by
  have := made_row m 0
  simpa [rowB, bigB] using this
theorem rep_set (z : Nat) : (cells8 (List.replicate (z + 1) 0)).set 0 (.int .u8 128) = cells8 (128 :: List.replicate z 0) := by
  simp [cells8, List.replicate_succ]
theorem padB_bd (n : Int) : ∀ x ∈ padB n, 0 ≤ x ∧ x ≤ 255 := by
  intro x hx
  simp only [padB, List.mem_append, List.mem_cons, List.mem_replicate] at hx
  rcases hx with (rfl | ⟨_, rfl⟩) | hx
  · omega
  · omega
  · exact bigB_bd _ _ x hx
theorem noughts_lt (n : Int) : noughts n < 64 := by unfold noughts; omega
theorem padB_len (n : Int) : (padB n).length = noughts n + 9 := by simp [padB, bigB_len]

set_option maxHeartbeats 1000000 in
theorem pad_own (n : Int) (h0 : 0 ≤ n) (h1 : n < 18446744073709551616) (w : World) :
    Calls Tryd.prog 44 #[.int .u64 n] w fun en w' => ∃ v, en = .returned v ∧ Hx.Own w' w.heap.size v (padB n) ∧ Below w.heap.size w w' := by
  obtain ⟨i0, hi, hz0, hz1, hz2⟩ := info_parts Tryd.info5
  obtain ⟨O, hO⟩ : ∃ O, O = (n + 9) % 64 := ⟨_, rfl⟩
  have eA : (IntKind.u64.wrap (IntKind.u64.wrap (n + 1) + 8)).tmod 64 = O := by
    rw [IntKind.wrap_u64, IntKind.wrap_u64, Int.tmod_eq_emod_of_nonneg (by omega)]; omega
  obtain ⟨z, hz⟩ : ∃ z, z = noughts n := ⟨_, rfl⟩
  have hz' := hz
  unfold noughts at hz'
  have eB : (IntKind.u64.wrap (64 - O)).tmod 64 = (z : Int) := by
    rw [IntKind.wrap_u64, Int.tmod_eq_emod_of_nonneg (by omega)]; omega
  have hz64 : z < 64 := by omega
  obtain ⟨m, hm⟩ : ∃ m, m = z + 1 := ⟨_, rfl⟩
  have eC : IntKind.u64.wrap (1 + (z : Int)) = (m : Int) := by rw [IntKind.wrap_u64]; omega
  obtain ⟨E, hE⟩ : ∃ E, E = 8 * n % 18446744073709551616 := ⟨_, rfl⟩
  have eD : IntKind.u64.wrap (8 * n) = E := by rw [IntKind.wrap_u64, hE]
  have hP : Hid (padB n = (128 :: List.replicate z 0) ++ bigB E 8) := by show _ = _; rw [hE, hz]; rfl
  have hE0 : 0 ≤ E := by omega
  have hE1 : E ≤ 18446744073709551615 := by omega
  have hm0 : (0 : Int) < (m : Int) := by omega
  have HM : Hid (m = z + 1) := hm
  have hm64 : m ≤ 64 := by omega
  have hmk : ∀ w1 : World, w1.ownsRow w.heap.size 5 1 (.slice (some ⟨w.heap.size, 0, none⟩) m m) m (madeCells (Value.int .u8 0).cells (m * 1)).toList → Hid (w1.ownsRow w.heap.size 5 1 (.slice (some ⟨w.heap.size, 0, none⟩) m m) m (cells8 (List.replicate m 0))) := by
    intro w1 h; rw [made_zero m] at h; exact h
  have hmc : ∀ w1 : World, Hid (w1.ownsRow w.heap.size 5 1 (.slice (some ⟨w.heap.size, 0, none⟩) m m) m (cells8 (List.replicate m 0))) → w1.cell? ⟨w.heap.size, 0, none⟩ = some (.int .u8 0) := by
    intro w1 h
    rw [World.ownsRow.cellAt h.out 0 (by omega), cells8_at _ 0 (by simp; omega)]
    rw [hm, List.replicate_succ]; rfl
  clear hz hz' hO hE hm
  go_enter Tryd.func44, Tryd.ntmps44
  go_wp2_with (at_make; refine wpList_make_full _ rfl (.tmp 14) (.tmp 14) 25 rfl w.heap.size 5 i0 (.int .u8 0) 1 Tryd.underlying25 hi hz0 hz1 .u64 .u64 _ _ m rfl rfl (by omega) (by omega) (by rw [hz2]; omega) (by unfold maxLen; omega) (Nat.le_refl _) ?_; intro w1 hown hgrow; replace hown := hmk _ hown; have c0 := hmc _ hown; have f0 := World.ownsRow.frozenAt hown.out 0)
  have hb1 : Below w.heap.size w w1 := (Below.refl _ _).grown hgrow (Nat.le_refl _) (fun k h => by cases h)
  have own2 := (World.ownsRow.stored hown.out 0 (.int .u8 128)).1
  rw [HM.out, rep_set] at own2
  rw [← HM.out] at own2
  have hb2 := hb1.setCell (p := ⟨w.heap.size, 0, none⟩) (Nat.le_refl _) (.int .u8 128)
  generalize w1.setCell ⟨w.heap.size, 0, none⟩ (.int .u8 128) = w2 at own2 hb2 ⊢
  clear hmk hmc hown hgrow c0 f0 hb1
  refine (big_any E 8 _ hE0 hE1).mono ?_
  rintro e w3 ⟨v3, rfl, s3, hb3⟩
  have s3' : Sl w3 v3 (bigB E 8) := s3
  obtain ⟨b, off, cap, hv, hbs, hcl⟩ := sl_cells s3' (by rw [bigB_len]; omega)
  rw [bigB_len] at hv
  subst hv
  have own3 := own_later own2 hb3
  have hb4 := below_next hb2 hb3
  have HC : Hid (∀ j u, (cells8 (bigB E 8))[j]? = some u → w3.cell? ((⟨b, off, none⟩ : Addr).add j) = some u) := hcl
  have hsz := hb4.size
  clear s3 s3' hcl own2 hb2 hb3
  go_wp2_with (at_builtin; refine wpList_append_own _ rfl (.tmp 18) (.tmp 21) 25 rfl w.heap.size 5 i0 (.int .u8 0) 1 1 Tryd.underlying25 hi hz0 hz1 hz2 rfl (by decide) (.slice (some ⟨w.heap.size, 0, none⟩) m m) m (cells8 (128 :: List.replicate z 0)) rfl own3 ⟨b, off, none⟩ 8 cap (cells8 (bigB E 8)) rfl (by rw [cells8_len, bigB_len]) HC.out (cells8_one _) (by unfold maxLen; omega) (by omega) hsz ?_; intro v' w4 hown' hgrow _)
  have hb5 : Below w.heap.size w w4 := hb4.grown hgrow hsz (fun q h => by simp [Value.ownBlock] at h; omega)
  go_ret
  refine ⟨_, rfl, ?_, hb5⟩
  unfold Hx.Own
  rw [hP.out]
  have e : ((128 :: List.replicate z (0 : Int)) ++ bigB E 8).length = m + 8 := by rw [HM.out]; simp [bigB_len]
  rw [e, ← cells8_app]
  exact hown'

theorem pad_any (n : Int) (h0 : 0 ≤ n) (h1 : n < 18446744073709551616) (w : World) :
    Calls Tryd.prog 44 #[.int .u64 n] w fun en w' => ∃ v, en = .returned v ∧ Sl w' v (padB n) ∧ Below w.heap.size w w' := by
  refine (pad_own n h0 h1 w).mono ?_
  rintro e w' ⟨v, rfl, ho, hb⟩
  exact ⟨v, rfl, Sl.of_own ho (padB_bd n) (by rw [padB_len]; have := noughts_lt n; omega), hb⟩
end Go.Proofs.YtilfmemfnheppaaDoor
