/- The walk of MacBlocks. Conditions: the table holds the rounds' numbers. -/
import Derived.Test.YtidonnilklplhaaDoorML
import Derived.Test.YtidonnilklplhaaDoorMK
namespace Go.Proofs.YtidonnilklplhaaDoor
open Go.RowKit Hx
set_option linter.unusedVariables false

theorem neq29 (X Y : List Int) (hX : X.length = 64) (hY : Y.length = 64) (w : World) : (binOp .neq 29 (arr .u8 X) (arr .u8 Y)).run Tryd.prog w = .ok (.bool (!decide (X = Y))) w := by
  have := eqa29_in 9998 X Y hX hY w
  unfold arr at this ⊢
  rw [run_neq_struct, this]
  rfl
theorem neqg29 (X Y : List Int) (x y : Operand) (w : World) : (eqGuard .neq 29 x y (arr .u8 X) (arr .u8 Y)).run Tryd.prog w = .ok () w := run_eqGuard_agg w .neq 29 x y _ _ (by kernel_rfl)
theorem neq25 (X : List Int) (hX : X.length = 32) (w : World) : (binOp .neq 25 (arr .u8 X) (arr .u8 X)).run Tryd.prog w = .ok (.bool false) w := by
  have := eq24_in 9998 X hX w
  unfold arr at this ⊢
  rw [run_neq_struct, this]
  rfl
theorem neqg25 (X : List Int) (x y : Operand) (w : World) : (eqGuard .neq 25 x y (arr .u8 X) (arr .u8 X)).run Tryd.prog w = .ok () w := run_eqGuard_agg w .neq 25 x y _ _ (by kernel_rfl)

theorem psl_three {w : World} {u v x : Value} {xs ys zs : List Int} (h : Sl w u xs) (k : Sl w v ys) (l : Sl w x zs) (T : TypeId) : PSl (w.alloc (.cells #[u, v, x] T)) (.slice (some ⟨w.heap.size, 0, none⟩) 3 3) [xs, ys, zs] := by
  refine ⟨some ⟨w.heap.size, 0, none⟩, 3, rfl, by simp, by simp, fun _ => ⟨w.heap.size, 0, rfl, by simp, fun i hi => ?_⟩⟩
  have hb := (Below.refl w.heap.size w).alloc (Nat.le_refl _) (.cells #[u, v, x] T)
  have hi2 : i < 3 := by simpa using hi
  match i, hi2 with
  | 0, _ => exact ⟨u, by simp, h.later hb⟩
  | 1, _ => exact ⟨v, by simp, k.later hb⟩
  | 2, _ => exact ⟨x, by simp, l.later hb⟩
theorem few_three {a b c : List Int} (h : Few [a, b, c]) : a.length ≤ 300 ∧ b.length ≤ 300 ∧ c.length ≤ 300 := ⟨h.2 0 (by simp), h.2 1 (by simp), h.2 2 (by simp)⟩

/-- the block of a block is it -/
theorem blk_blk (key : List Int) : blkK (blkK key) = blkK key := by
  have h := blkK_len key
  generalize blkK key = X at h
  unfold blkK
  rw [if_pos (by omega), h]
  simp
theorem seal_blk {k1 k2 : List Int} (h : blkK k1 = blkK k2) (l : List Int) : sealB k1 l = sealB k2 l := by unfold sealB; rw [h]

/-- what stays as it is while the answers are asked for -/
def Bk (p : Nat) (key oth bs : List Int) (vk vo vu : Value) (w0 w : World) : Prop :=
  Row w p .u8 (blkK key) ∧ Kt w ∧ Sl w vk key ∧ Sl w vo oth ∧ Sl w vu bs ∧ Below w0.heap.size w0 w
theorem Bk.later {p : Nat} {key oth bs : List Int} {vk vo vu : Value} {w0 w w' : World} (h : Bk p key oth bs vk vo vu w0 w) (hb : Below w.heap.size w w') : Bk p key oth bs vk vo vu w0 w' :=
  ⟨h.1.later hb, h.2.1.below hb h.2.1.pos, h.2.2.1.later hb, h.2.2.2.1.later hb, h.2.2.2.2.1.later hb, below_next h.2.2.2.2.2 hb⟩

theorem Bk.drew {p : Nat} {key oth bs : List Int} {vk vo vu : Value} {w0 w : World} (h : Bk p key oth bs vk vo vu w0 w) : Bk p key oth bs vk vo vu w0 ({ w with drawn := w.drawn + 1 } : World) :=
  ⟨h.1, h.2.1, h.2.2.1, h.2.2.2.1, h.2.2.2.2.1, h.2.2.2.2.2.drew⟩

set_option maxRecDepth 100000 in
set_option maxHeartbeats 4000000 in
theorem law_blocks (v o u : Value) (key oth bs : List Int) (w : World) (hK : Kt w) (hv : Sl w v key) (ho : Sl w o oth) (hu : Sl w u bs) (hnv : ∀ n c, v = .slice none n c → n = 0 ∧ c = 0) (hno : ∀ n c, o = .slice none n c → n = 0 ∧ c = 0) (hnu : ∀ n c, u = .slice none n c → n = 0 ∧ c = 0) :
    Calls Tryd.prog 4 #[v, o, u] w fun en w' => en = .returned (.bool true) ∧ Below w.heap.size w w' := by
  have hk0 := hK.pos
  obtain ⟨a, na, ca, rfl⟩ := sl_form hv
  obtain ⟨b, nb, cb, rfl⟩ := sl_form ho
  obtain ⟨c, nc, cc, rfl⟩ := sl_form hu
  have HNV : Hid (∀ n c, Value.slice a na ca = .slice none n c → n = 0 ∧ c = 0) := hnv
  have hkb : By key := by obtain ⟨_, _, _, h, _⟩ := hv; exact h
  clear hnv hno hnu
  go_enter Tryd.func4, Tryd.ntmps4
  go_wp2_with fail
  refine (wakes_any _ hK).mono ?_
  rintro e w1 ⟨rfl, hb1⟩
  have v1 := hv.later hb1
  have o1 := ho.later hb1
  have u1 := hu.later hb1
  go_wp2_with fail
  have p2 := psl_three v1 o1 u1 22
  have hb2 : Below w1.heap.size w1 (w1.alloc (.cells #[.slice a na ca, .slice b nb cb, .slice c nc cc] 22)) := (Below.refl _ _).alloc (Nat.le_refl _) _
  generalize w1.alloc (.cells #[.slice a na ca, .slice b nb cb, .slice c nc cc] 22) = w2 at p2 hb2 ⊢
  have hB2 := below_next hb1 hb2
  refine (great_any _ [key, oth, bs] w2 p2).mono ?_
  rintro e w3 ⟨bb, rfl, hf, rfl⟩
  cases bb with
  | true =>
    go_wp2
    go_ret
    exact ⟨rfl, hB2⟩
  | false =>
    obtain ⟨hk3, ho3, hb3⟩ := few_three (hf rfl)
    have v2 := v1.later hb2
    have o2 := o1.later hb2
    have u2 := u1.later hb2
    clear v1 u1 o1 hb1 hb2 p2 hf hv ho hu
    go_wp2_with fail
    refine (block_any _ key w3 (hK.below hB2 hk0) v2 (by omega)).mono ?_
    rintro e w4 ⟨rfl, hb4⟩
    have hbl := blkK_len key
    have hbo := blkK_len oth
    have h64 : (Tryd.prog.info? 29).map (·.size) = some (blkK key).length := by rw [hbl]; exact Tryd.size29
    go_wp2_with (first
      | ((with_reducible refine wp_allocD 7 29 .u8 64 Tryd.zero29 ?_ ?_); (exact ⟨rfl, rfl, rfl⟩); intro p7 w5 hg5 hr5 hb5)
      | ((with_reducible refine wp_storeR 29 (.tmp 7) (.tmp 16) p7 .u8 (List.replicate 64 0) (blkK key) h64 ?_ ?_ ?_ ?_ hr5 ?_); (rw [hbl]; rfl); (exact ⟨rfl, rfl⟩); (exact rfl); (exact rfl); intro w6 r6 o6))
    have hB4 := below_next hB2 hb4
    have hB6 := below_only (below_next hB4 hb5) o6 (by have := hB4.size; omega) (Nat.le_refl _)
    have hb6 := below_only (below_next hb4 hb5) o6 (by have := hb4.size; omega) (Nat.le_refl _)
    have HW : Bk p7 key oth bs (.slice a na ca) (.slice b nb cb) (.slice c nc cc) w w6 := ⟨r6, hK.below hB6 hk0, v2.later hb6, o2.later hb6, u2.later hb6, hB6⟩
    clear hB2 hb4 hB4 hb5 hr5 hg5 o6 hB6 hb6 r6 v2 o2 u2
    obtain ⟨S, hS⟩ : ∃ S, sealB key bs = S := ⟨_, rfl⟩
    have h32 : S.length = 32 := by rw [← hS]; exact sealB_len _ _
    have hfl : ([bs] : List (List Int)).flatten = bs := by simp
    have hbs1 : ([bs] : List (List Int)).flatten.length ≤ 800000 := by rw [hfl]; omega
    have HF : Hid (sealB (blkK key) ([bs] : List (List Int)).flatten = S) := by show _ = _; rw [hfl, seal_blk (blk_blk key), hS]
    have HF2 : Hid (sealB key ([bs] : List (List Int)).flatten = S) := by show _ = _; rw [hfl, hS]
    have hsl := slice30a
    have g1 := fun (w : World) (x y : Operand) => neqg29 (blkK key) (blkK key) x y w
    have g2 : ∀ w : World, (binOp .neq 29 (arr .u8 (blkK key)) (arr .u8 (blkK key))).run Tryd.prog w = .ok (.bool false) w := fun w => by rw [neq29 _ _ hbl hbl]; simp
    have g3 := fun (w : World) (x y : Operand) => neqg25 S x y w
    have g4 := fun (w : World) => neq25 S h32 w
    have g5 := fun (w : World) (x y : Operand) => neqg29 (blkK oth) (blkK key) x y w
    have g6 := fun (w : World) (x y : Operand) => eqg24 S x y w
    have g7 := fun (w : World) => eq24 S h32 w
    rename_i K hKK
    have tail : ∀ (x24 x28 : Value) (w8 : World), Bk p7 key oth bs (.slice a na ca) (.slice b nb cb) (.slice c nc cc) w w8 → K ⟨#[.slice a na ca, .slice b nb cb, .slice c nc cc, undef, undef, undef, .bool false, .pointer (some ⟨p7, 0, none⟩), .bool true, .bool false, .slice a na ca, .slice b nb cb, .slice c nc cc, .slice (some ⟨w1.heap.size, 0, none⟩) 3 3, .bool false, .slice a na ca, arr .u8 (blkK key), arr .u8 (blkK key), .slice a na ca, arr .u8 (blkK key), .bool false, .bool false, .slice (some ⟨p7, 0, none⟩) 64 64, .slice c nc cc, x24, arr .u8 S, .slice a na ca, .slice c nc cc, x28, arr .u8 S, .bool false, .bool false, undef, undef, undef, undef, undef, undef, undef, undef, undef, undef, undef, undef, undef, undef, undef], []⟩ w8 := by
      intro x24 x28 w8 HW
      apply hKK
      clear hKK
      go_wp2_with fail
      by_cases hE : blkK oth = blkK key
      · have HF3 : Hid (sealB oth ([bs] : List (List Int)).flatten = S) := by show _ = _; rw [hfl, seal_blk hE, hS]
        have g8 : ∀ w : World, (binOp .neq 29 (arr .u8 (blkK oth)) (arr .u8 (blkK key))).run Tryd.prog w = .ok (.bool false) w := fun w => by rw [neq29 _ _ hbo hbl, decide_eq_true hE]; rfl
        refine wp_region_held (S := Bk p7 key oth bs (.slice a na ca) (.slice b nb cb) (.slice c nc cc) w) Tryd.mixed ?_
        replace HW : Bk p7 key oth bs (.slice a na ca) (.slice b nb cb) (.slice c nc cc) w ({ w8 with drawn := w8.drawn + 1 } : World) := HW.drew
        generalize ({ w8 with drawn := w8.drawn + 1 } : World) = w9 at HW ⊢
        refine takeH 0 32 (.slice b nb cb) rfl rfl (by kernel_rfl) (by kernel_rfl) (by kernel_rfl) (fun c a w h => h) (.inl ⟨rfl, fun w _ => rfl⟩) HW ?_
        simp only [List.setIfInBounds_toArray, List.set_cons_zero, List.set_cons_succ]
        refine takeH 2 34 (arr .u8 (blkK key)) rfl rfl (by kernel_rfl) (by kernel_rfl) (by kernel_rfl) (fun c a w h => h) (yieldsIf_load_mid rfl 29 (.tmp 7) rfl p7 0 rfl (cellsK .u8 (blkK key)) _ (fun w h => h.1.range) Tryd.underlying29 rfl (by rw [cellsK_len]; exact h64)) HW ?_
        simp only [List.setIfInBounds_toArray, List.set_cons_zero, List.set_cons_succ]
        refine wpAnyH_all (rs := [1]) (by kernel_rfl) (by simp) (fun i hi => ?_)
        obtain rfl : i = 1 := by simpa using hi
        refine wpOp_doG 1 (by rfl) (by rfl) ?_
        go_wp2_with fail
        refine (block_any _ oth w9 HW.2.1 HW.2.2.2.1 (by omega)).mono ?_
        rintro e z1 ⟨rfl, hb⟩
        refine ⟨HW.later hb, ?_⟩
        replace HW := HW.later hb
        clear hb
        refine takeH 3 35 (.bool false) rfl rfl (by kernel_rfl) (by kernel_rfl) (by kernel_rfl) (fun c a w h => h) (.inl ⟨rfl, fun w _ => by go_simp⟩) HW ?_
        simp only [List.setIfInBounds_toArray, List.set_cons_zero, List.set_cons_succ]
        refine takeH 4 36 (.bool false) rfl rfl (by kernel_rfl) (by kernel_rfl) (by kernel_rfl) (fun c a w h => h) (.inl ⟨rfl, fun w _ => rfl⟩) HW ?_
        simp only [List.setIfInBounds_toArray, List.set_cons_zero, List.set_cons_succ]
        refine takeH 5 37 (.slice b nb cb) rfl rfl (by kernel_rfl) (by kernel_rfl) (by kernel_rfl) (fun c a w h => h) (.inl ⟨rfl, fun w _ => rfl⟩) HW ?_
        simp only [List.setIfInBounds_toArray, List.set_cons_zero, List.set_cons_succ]
        refine takeH 6 38 (.slice c nc cc) rfl rfl (by kernel_rfl) (by kernel_rfl) (by kernel_rfl) (fun c a w h => h) (.inl ⟨rfl, fun w _ => rfl⟩) HW ?_
        simp only [List.setIfInBounds_toArray, List.set_cons_zero, List.set_cons_succ]
        refine takeH 9 41 (.slice a na ca) rfl rfl (by kernel_rfl) (by kernel_rfl) (by kernel_rfl) (fun c a w h => h) (.inl ⟨rfl, fun w _ => rfl⟩) HW ?_
        simp only [List.setIfInBounds_toArray, List.set_cons_zero, List.set_cons_succ]
        refine takeH 10 42 (.slice c nc cc) rfl rfl (by kernel_rfl) (by kernel_rfl) (by kernel_rfl) (fun c a w h => h) (.inl ⟨rfl, fun w _ => rfl⟩) HW ?_
        simp only [List.setIfInBounds_toArray, List.set_cons_zero, List.set_cons_succ]
        refine wpAnyH_all (rs := [7, 11]) (by kernel_rfl) (by simp) (fun i hi => ?_)
        simp only [List.mem_cons, List.not_mem_nil, or_false] at hi
        rcases hi with rfl | rfl
        · refine wpOp_doG 7 (by rfl) (by rfl) ?_
          go_wp2_with fail
          have hp7 := psl_one HW.2.2.2.2.1 (.cells #[.slice c nc cc] 22) ⟨_, rfl⟩
          have hb : Below z1.heap.size z1 (z1.alloc (.cells #[.slice c nc cc] 22)) := (Below.refl _ _).alloc (Nat.le_refl _) _
          generalize z1.alloc (.cells #[.slice c nc cc] 22) = z2 at hp7 hb ⊢
          refine ⟨HW.later hb, ?_⟩
          replace HW := HW.later hb
          clear hb
          refine wpAnyH_all (rs := [8, 11]) (by kernel_rfl) (by simp) (fun i hi => ?_)
          simp only [List.mem_cons, List.not_mem_nil, or_false] at hi
          rcases hi with rfl | rfl
          · refine wpOp_doG 8 (by rfl) (by rfl) ?_
            go_wp2_with fail
            refine (msum_any _ _ oth [bs] z2 HW.2.1 HW.2.2.2.1 hp7 (by omega) hbs1).mono ?_
            rintro e z3 ⟨rfl, hb⟩
            rw [HF3.out]
            refine ⟨HW.later hb, ?_⟩
            replace HW := HW.later hb
            replace hp7 := hp7.later hb
            clear hb
            clear hp7
            refine wpAnyH_all (rs := [11]) (by kernel_rfl) (by simp) (fun i hi => ?_)
            obtain rfl : i = 11 := by simpa using hi
            refine wpOp_doG 11 (by rfl) (by rfl) ?_
            go_wp2_with fail
            have hp11 := psl_one HW.2.2.2.2.1 (.cells #[.slice c nc cc] 22) ⟨_, rfl⟩
            have hb : Below z3.heap.size z3 (z3.alloc (.cells #[.slice c nc cc] 22)) := (Below.refl _ _).alloc (Nat.le_refl _) _
            generalize z3.alloc (.cells #[.slice c nc cc] 22) = z4 at hp11 hb ⊢
            refine ⟨HW.later hb, ?_⟩
            replace HW := HW.later hb
            clear hb
            refine wpAnyH_all (rs := [12]) (by kernel_rfl) (by simp) (fun i hi => ?_)
            obtain rfl : i = 12 := by simpa using hi
            refine wpOp_doG 12 (by rfl) (by rfl) ?_
            go_wp2_with fail
            refine (msum_any _ _ key [bs] z4 HW.2.1 HW.2.2.1 hp11 (by omega) hbs1).mono ?_
            rintro e z5 ⟨rfl, hb⟩
            rw [HF2.out]
            refine ⟨HW.later hb, ?_⟩
            replace HW := HW.later hb
            replace hp11 := hp11.later hb
            clear hb
            clear hp11
            refine takeH 13 45 (.bool true) rfl rfl (by kernel_rfl) (by kernel_rfl) (by kernel_rfl) (fun c a w h => h) (.inl ⟨rfl, fun w _ => by go_simp⟩) HW ?_
            simp only [List.setIfInBounds_toArray, List.set_cons_zero, List.set_cons_succ]
            refine takeH 14 46 (.bool true) rfl rfl (by kernel_rfl) (by kernel_rfl) (by kernel_rfl) (fun c a w h => h) (.inl ⟨rfl, fun w _ => by go_simp⟩) HW ?_
            simp only [List.setIfInBounds_toArray, List.set_cons_zero, List.set_cons_succ]
            refine takeH 15 6 (.bool true) rfl rfl (by kernel_rfl) (by kernel_rfl) (by kernel_rfl) (fun c a w h => h) (.inl ⟨rfl, fun w _ => rfl⟩) HW ?_
            simp only [List.setIfInBounds_toArray, List.set_cons_zero, List.set_cons_succ]
            refine wpAnyH_done (by kernel_rfl) ?_ _
            go_wp2
            go_ret
            exact ⟨rfl, HW.2.2.2.2.2⟩
          · refine wpOp_doG 11 (by rfl) (by rfl) ?_
            go_wp2_with fail
            have hp11 := psl_one HW.2.2.2.2.1 (.cells #[.slice c nc cc] 22) ⟨_, rfl⟩
            have hb : Below z2.heap.size z2 (z2.alloc (.cells #[.slice c nc cc] 22)) := (Below.refl _ _).alloc (Nat.le_refl _) _
            generalize z2.alloc (.cells #[.slice c nc cc] 22) = z6 at hp11 hb ⊢
            refine ⟨HW.later hb, ?_⟩
            replace HW := HW.later hb
            replace hp7 := hp7.later hb
            clear hb
            refine wpAnyH_all (rs := [8]) (by kernel_rfl) (by simp) (fun i hi => ?_)
            obtain rfl : i = 8 := by simpa using hi
            refine wpOp_doG 8 (by rfl) (by rfl) ?_
            go_wp2_with fail
            refine (msum_any _ _ oth [bs] z6 HW.2.1 HW.2.2.2.1 hp7 (by omega) hbs1).mono ?_
            rintro e z7 ⟨rfl, hb⟩
            rw [HF3.out]
            refine ⟨HW.later hb, ?_⟩
            replace HW := HW.later hb
            replace hp7 := hp7.later hb
            replace hp11 := hp11.later hb
            clear hb
            clear hp7
            refine wpAnyH_all (rs := [12]) (by kernel_rfl) (by simp) (fun i hi => ?_)
            obtain rfl : i = 12 := by simpa using hi
            refine wpOp_doG 12 (by rfl) (by rfl) ?_
            go_wp2_with fail
            refine (msum_any _ _ key [bs] z7 HW.2.1 HW.2.2.1 hp11 (by omega) hbs1).mono ?_
            rintro e z8 ⟨rfl, hb⟩
            rw [HF2.out]
            refine ⟨HW.later hb, ?_⟩
            replace HW := HW.later hb
            replace hp11 := hp11.later hb
            clear hb
            clear hp11
            refine takeH 13 45 (.bool true) rfl rfl (by kernel_rfl) (by kernel_rfl) (by kernel_rfl) (fun c a w h => h) (.inl ⟨rfl, fun w _ => by go_simp⟩) HW ?_
            simp only [List.setIfInBounds_toArray, List.set_cons_zero, List.set_cons_succ]
            refine takeH 14 46 (.bool true) rfl rfl (by kernel_rfl) (by kernel_rfl) (by kernel_rfl) (fun c a w h => h) (.inl ⟨rfl, fun w _ => by go_simp⟩) HW ?_
            simp only [List.setIfInBounds_toArray, List.set_cons_zero, List.set_cons_succ]
            refine takeH 15 6 (.bool true) rfl rfl (by kernel_rfl) (by kernel_rfl) (by kernel_rfl) (fun c a w h => h) (.inl ⟨rfl, fun w _ => rfl⟩) HW ?_
            simp only [List.setIfInBounds_toArray, List.set_cons_zero, List.set_cons_succ]
            refine wpAnyH_done (by kernel_rfl) ?_ _
            go_wp2
            go_ret
            exact ⟨rfl, HW.2.2.2.2.2⟩
        · refine wpOp_doG 11 (by rfl) (by rfl) ?_
          go_wp2_with fail
          have hp11 := psl_one HW.2.2.2.2.1 (.cells #[.slice c nc cc] 22) ⟨_, rfl⟩
          have hb : Below z1.heap.size z1 (z1.alloc (.cells #[.slice c nc cc] 22)) := (Below.refl _ _).alloc (Nat.le_refl _) _
          generalize z1.alloc (.cells #[.slice c nc cc] 22) = z9 at hp11 hb ⊢
          refine ⟨HW.later hb, ?_⟩
          replace HW := HW.later hb
          clear hb
          refine wpAnyH_all (rs := [7]) (by kernel_rfl) (by simp) (fun i hi => ?_)
          obtain rfl : i = 7 := by simpa using hi
          refine wpOp_doG 7 (by rfl) (by rfl) ?_
          go_wp2_with fail
          have hp7 := psl_one HW.2.2.2.2.1 (.cells #[.slice c nc cc] 22) ⟨_, rfl⟩
          have hb : Below z9.heap.size z9 (z9.alloc (.cells #[.slice c nc cc] 22)) := (Below.refl _ _).alloc (Nat.le_refl _) _
          generalize z9.alloc (.cells #[.slice c nc cc] 22) = z10 at hp7 hb ⊢
          refine ⟨HW.later hb, ?_⟩
          replace HW := HW.later hb
          replace hp11 := hp11.later hb
          clear hb
          refine wpAnyH_all (rs := [8]) (by kernel_rfl) (by simp) (fun i hi => ?_)
          obtain rfl : i = 8 := by simpa using hi
          refine wpOp_doG 8 (by rfl) (by rfl) ?_
          go_wp2_with fail
          refine (msum_any _ _ oth [bs] z10 HW.2.1 HW.2.2.2.1 hp7 (by omega) hbs1).mono ?_
          rintro e z11 ⟨rfl, hb⟩
          rw [HF3.out]
          refine ⟨HW.later hb, ?_⟩
          replace HW := HW.later hb
          replace hp11 := hp11.later hb
          replace hp7 := hp7.later hb
          clear hb
          clear hp7
          refine wpAnyH_all (rs := [12]) (by kernel_rfl) (by simp) (fun i hi => ?_)
          obtain rfl : i = 12 := by simpa using hi
          refine wpOp_doG 12 (by rfl) (by rfl) ?_
          go_wp2_with fail
          refine (msum_any _ _ key [bs] z11 HW.2.1 HW.2.2.1 hp11 (by omega) hbs1).mono ?_
          rintro e z12 ⟨rfl, hb⟩
          rw [HF2.out]
          refine ⟨HW.later hb, ?_⟩
          replace HW := HW.later hb
          replace hp11 := hp11.later hb
          clear hb
          clear hp11
          refine takeH 13 45 (.bool true) rfl rfl (by kernel_rfl) (by kernel_rfl) (by kernel_rfl) (fun c a w h => h) (.inl ⟨rfl, fun w _ => by go_simp⟩) HW ?_
          simp only [List.setIfInBounds_toArray, List.set_cons_zero, List.set_cons_succ]
          refine takeH 14 46 (.bool true) rfl rfl (by kernel_rfl) (by kernel_rfl) (by kernel_rfl) (fun c a w h => h) (.inl ⟨rfl, fun w _ => by go_simp⟩) HW ?_
          simp only [List.setIfInBounds_toArray, List.set_cons_zero, List.set_cons_succ]
          refine takeH 15 6 (.bool true) rfl rfl (by kernel_rfl) (by kernel_rfl) (by kernel_rfl) (fun c a w h => h) (.inl ⟨rfl, fun w _ => rfl⟩) HW ?_
          simp only [List.setIfInBounds_toArray, List.set_cons_zero, List.set_cons_succ]
          refine wpAnyH_done (by kernel_rfl) ?_ _
          go_wp2
          go_ret
          exact ⟨rfl, HW.2.2.2.2.2⟩
      · have g8 : ∀ w : World, (binOp .neq 29 (arr .u8 (blkK oth)) (arr .u8 (blkK key))).run Tryd.prog w = .ok (.bool true) w := fun w => by rw [neq29 _ _ hbo hbl, decide_eq_false hE]; rfl
        refine wp_region_held (S := Bk p7 key oth bs (.slice a na ca) (.slice b nb cb) (.slice c nc cc) w) Tryd.mixed ?_
        replace HW : Bk p7 key oth bs (.slice a na ca) (.slice b nb cb) (.slice c nc cc) w ({ w8 with drawn := w8.drawn + 1 } : World) := HW.drew
        generalize ({ w8 with drawn := w8.drawn + 1 } : World) = w9 at HW ⊢
        refine takeH 0 32 (.slice b nb cb) rfl rfl (by kernel_rfl) (by kernel_rfl) (by kernel_rfl) (fun c a w h => h) (.inl ⟨rfl, fun w _ => rfl⟩) HW ?_
        simp only [List.setIfInBounds_toArray, List.set_cons_zero, List.set_cons_succ]
        refine takeH 2 34 (arr .u8 (blkK key)) rfl rfl (by kernel_rfl) (by kernel_rfl) (by kernel_rfl) (fun c a w h => h) (yieldsIf_load_mid rfl 29 (.tmp 7) rfl p7 0 rfl (cellsK .u8 (blkK key)) _ (fun w h => h.1.range) Tryd.underlying29 rfl (by rw [cellsK_len]; exact h64)) HW ?_
        simp only [List.setIfInBounds_toArray, List.set_cons_zero, List.set_cons_succ]
        refine wpAnyH_all (rs := [1]) (by kernel_rfl) (by simp) (fun i hi => ?_)
        obtain rfl : i = 1 := by simpa using hi
        refine wpOp_doG 1 (by rfl) (by rfl) ?_
        go_wp2_with fail
        refine (block_any _ oth w9 HW.2.1 HW.2.2.2.1 (by omega)).mono ?_
        rintro e z1 ⟨rfl, hb⟩
        refine ⟨HW.later hb, ?_⟩
        replace HW := HW.later hb
        clear hb
        refine takeH 3 35 (.bool true) rfl rfl (by kernel_rfl) (by kernel_rfl) (by kernel_rfl) (fun c a w h => h) (.inl ⟨rfl, fun w _ => by go_simp⟩) HW ?_
        simp only [List.setIfInBounds_toArray, List.set_cons_zero, List.set_cons_succ]
        refine takeH 4 36 (.bool true) rfl rfl (by kernel_rfl) (by kernel_rfl) (by kernel_rfl) (fun c a w h => h) (.inl ⟨rfl, fun w _ => rfl⟩) HW ?_
        simp only [List.setIfInBounds_toArray, List.set_cons_zero, List.set_cons_succ]
        refine takeH 5 37 (undef) rfl rfl (by kernel_rfl) (by kernel_rfl) (by kernel_rfl) (fun c a w h => h) (.inr ⟨rfl, rfl⟩) HW ?_
        simp only [List.setIfInBounds_toArray, List.set_cons_zero, List.set_cons_succ]
        refine takeH 6 38 (undef) rfl rfl (by kernel_rfl) (by kernel_rfl) (by kernel_rfl) (fun c a w h => h) (.inr ⟨rfl, rfl⟩) HW ?_
        simp only [List.setIfInBounds_toArray, List.set_cons_zero, List.set_cons_succ]
        refine takeH 7 39 (undef) rfl rfl (by kernel_rfl) (by kernel_rfl) (by kernel_rfl) (fun c a w h => h) (.inr ⟨rfl, rfl⟩) HW ?_
        simp only [List.setIfInBounds_toArray, List.set_cons_zero, List.set_cons_succ]
        refine takeH 8 40 (undef) rfl rfl (by kernel_rfl) (by kernel_rfl) (by kernel_rfl) (fun c a w h => h) (.inr ⟨rfl, rfl⟩) HW ?_
        simp only [List.setIfInBounds_toArray, List.set_cons_zero, List.set_cons_succ]
        refine takeH 9 41 (undef) rfl rfl (by kernel_rfl) (by kernel_rfl) (by kernel_rfl) (fun c a w h => h) (.inr ⟨rfl, rfl⟩) HW ?_
        simp only [List.setIfInBounds_toArray, List.set_cons_zero, List.set_cons_succ]
        refine takeH 10 42 (undef) rfl rfl (by kernel_rfl) (by kernel_rfl) (by kernel_rfl) (fun c a w h => h) (.inr ⟨rfl, rfl⟩) HW ?_
        simp only [List.setIfInBounds_toArray, List.set_cons_zero, List.set_cons_succ]
        refine takeH 11 43 (undef) rfl rfl (by kernel_rfl) (by kernel_rfl) (by kernel_rfl) (fun c a w h => h) (.inr ⟨rfl, rfl⟩) HW ?_
        simp only [List.setIfInBounds_toArray, List.set_cons_zero, List.set_cons_succ]
        refine takeH 12 44 (undef) rfl rfl (by kernel_rfl) (by kernel_rfl) (by kernel_rfl) (fun c a w h => h) (.inr ⟨rfl, rfl⟩) HW ?_
        simp only [List.setIfInBounds_toArray, List.set_cons_zero, List.set_cons_succ]
        refine takeH 13 45 (undef) rfl rfl (by kernel_rfl) (by kernel_rfl) (by kernel_rfl) (fun c a w h => h) (.inr ⟨rfl, rfl⟩) HW ?_
        simp only [List.setIfInBounds_toArray, List.set_cons_zero, List.set_cons_succ]
        refine takeH 14 46 (.bool true) rfl rfl (by kernel_rfl) (by kernel_rfl) (by kernel_rfl) (fun c a w h => h) (.inl ⟨rfl, fun w _ => by go_simp⟩) HW ?_
        simp only [List.setIfInBounds_toArray, List.set_cons_zero, List.set_cons_succ]
        refine takeH 15 6 (.bool true) rfl rfl (by kernel_rfl) (by kernel_rfl) (by kernel_rfl) (fun c a w h => h) (.inl ⟨rfl, fun w _ => rfl⟩) HW ?_
        simp only [List.setIfInBounds_toArray, List.set_cons_zero, List.set_cons_succ]
        refine wpAnyH_done (by kernel_rfl) ?_ _
        go_wp2
        go_ret
        exact ⟨rfl, HW.2.2.2.2.2⟩
    simp only [Act.put, List.setIfInBounds_toArray, List.set_cons_zero, List.set_cons_succ]
    refine wp_region_held (S := Bk p7 key oth bs (.slice a na ca) (.slice b nb cb) (.slice c nc cc) w) Tryd.mixed ?_
    replace HW : Bk p7 key oth bs (.slice a na ca) (.slice b nb cb) (.slice c nc cc) w ({ w6 with drawn := w6.drawn + 1 } : World) := HW.drew
    generalize ({ w6 with drawn := w6.drawn + 1 } : World) = w7 at HW ⊢
    refine takeH 0 17 (arr .u8 (blkK key)) rfl rfl (by kernel_rfl) (by kernel_rfl) (by kernel_rfl) (fun c a w h => h) (yieldsIf_load_mid rfl 29 (.tmp 7) rfl p7 0 rfl (cellsK .u8 (blkK key)) _ (fun w h => h.1.range) Tryd.underlying29 rfl (by rw [cellsK_len]; exact h64)) HW ?_
    simp only [List.setIfInBounds_toArray, List.set_cons_zero, List.set_cons_succ]
    refine takeH 1 18 (.slice a na ca) rfl rfl (by kernel_rfl) (by kernel_rfl) (by kernel_rfl) (fun c a w h => h) (.inl ⟨rfl, fun w _ => rfl⟩) HW ?_
    simp only [List.setIfInBounds_toArray, List.set_cons_zero, List.set_cons_succ]
    refine wpAnyH_all (rs := [2]) (by kernel_rfl) (by simp) (fun i hi => ?_)
    obtain rfl : i = 2 := by simpa using hi
    refine wpOp_doG 2 (by rfl) (by rfl) ?_
    go_wp2_with fail
    refine (rblock_any _ key w7 HW.2.2.1 HNV.out (by omega)).mono ?_
    rintro e y1 ⟨rfl, hb⟩
    refine ⟨HW.later hb, ?_⟩
    replace HW := HW.later hb
    clear hb
    refine takeH 3 20 (.bool false) rfl rfl (by kernel_rfl) (by kernel_rfl) (by kernel_rfl) (fun c a w h => h) (.inl ⟨rfl, fun w _ => by go_simp⟩) HW ?_
    simp only [List.setIfInBounds_toArray, List.set_cons_zero, List.set_cons_succ]
    refine takeH 4 21 (.bool false) rfl rfl (by kernel_rfl) (by kernel_rfl) (by kernel_rfl) (fun c a w h => h) (.inl ⟨rfl, fun w _ => rfl⟩) HW ?_
    simp only [List.setIfInBounds_toArray, List.set_cons_zero, List.set_cons_succ]
    refine takeH 5 22 (.slice (some ⟨p7, 0, none⟩) 64 64) rfl rfl (by kernel_rfl) (by kernel_rfl) (by kernel_rfl) (fun c a w h => h) (.inl ⟨rfl, fun w _ => by go_simp⟩) HW ?_
    simp only [List.setIfInBounds_toArray, List.set_cons_zero, List.set_cons_succ]
    refine takeH 6 23 (.slice c nc cc) rfl rfl (by kernel_rfl) (by kernel_rfl) (by kernel_rfl) (fun c a w h => h) (.inl ⟨rfl, fun w _ => rfl⟩) HW ?_
    simp only [List.setIfInBounds_toArray, List.set_cons_zero, List.set_cons_succ]
    refine takeH 9 26 (.slice a na ca) rfl rfl (by kernel_rfl) (by kernel_rfl) (by kernel_rfl) (fun c a w h => h) (.inl ⟨rfl, fun w _ => rfl⟩) HW ?_
    simp only [List.setIfInBounds_toArray, List.set_cons_zero, List.set_cons_succ]
    refine takeH 10 27 (.slice c nc cc) rfl rfl (by kernel_rfl) (by kernel_rfl) (by kernel_rfl) (fun c a w h => h) (.inl ⟨rfl, fun w _ => rfl⟩) HW ?_
    simp only [List.setIfInBounds_toArray, List.set_cons_zero, List.set_cons_succ]
    refine wpAnyH_all (rs := [7, 11]) (by kernel_rfl) (by simp) (fun i hi => ?_)
    simp only [List.mem_cons, List.not_mem_nil, or_false] at hi
    rcases hi with rfl | rfl
    · refine wpOp_doG 7 (by rfl) (by rfl) ?_
      go_wp2_with fail
      have hp7 := psl_one HW.2.2.2.2.1 (.cells #[.slice c nc cc] 22) ⟨_, rfl⟩
      have hb : Below y1.heap.size y1 (y1.alloc (.cells #[.slice c nc cc] 22)) := (Below.refl _ _).alloc (Nat.le_refl _) _
      generalize y1.alloc (.cells #[.slice c nc cc] 22) = y2 at hp7 hb ⊢
      refine ⟨HW.later hb, ?_⟩
      replace HW := HW.later hb
      clear hb
      refine wpAnyH_all (rs := [8, 11]) (by kernel_rfl) (by simp) (fun i hi => ?_)
      simp only [List.mem_cons, List.not_mem_nil, or_false] at hi
      rcases hi with rfl | rfl
      · refine wpOp_doG 8 (by rfl) (by rfl) ?_
        go_wp2_with fail
        refine (msum_any _ _ (blkK key) [bs] y2 HW.2.1 (row_sl HW.1 (blkK_by hkb) hbl (by omega)) hp7 (by omega) hbs1).mono ?_
        rintro e y3 ⟨rfl, hb⟩
        rw [HF.out]
        refine ⟨HW.later hb, ?_⟩
        replace HW := HW.later hb
        replace hp7 := hp7.later hb
        clear hb
        clear hp7
        refine wpAnyH_all (rs := [11]) (by kernel_rfl) (by simp) (fun i hi => ?_)
        obtain rfl : i = 11 := by simpa using hi
        refine wpOp_doG 11 (by rfl) (by rfl) ?_
        go_wp2_with fail
        have hp11 := psl_one HW.2.2.2.2.1 (.cells #[.slice c nc cc] 22) ⟨_, rfl⟩
        have hb : Below y3.heap.size y3 (y3.alloc (.cells #[.slice c nc cc] 22)) := (Below.refl _ _).alloc (Nat.le_refl _) _
        generalize y3.alloc (.cells #[.slice c nc cc] 22) = y4 at hp11 hb ⊢
        refine ⟨HW.later hb, ?_⟩
        replace HW := HW.later hb
        clear hb
        refine wpAnyH_all (rs := [12]) (by kernel_rfl) (by simp) (fun i hi => ?_)
        obtain rfl : i = 12 := by simpa using hi
        refine wpOp_doG 12 (by rfl) (by rfl) ?_
        go_wp2_with fail
        refine (msum_any _ _ key [bs] y4 HW.2.1 HW.2.2.1 hp11 (by omega) hbs1).mono ?_
        rintro e y5 ⟨rfl, hb⟩
        rw [HF2.out]
        refine ⟨HW.later hb, ?_⟩
        replace HW := HW.later hb
        replace hp11 := hp11.later hb
        clear hb
        clear hp11
        refine takeH 13 30 (.bool false) rfl rfl (by kernel_rfl) (by kernel_rfl) (by kernel_rfl) (fun c a w h => h) (.inl ⟨rfl, fun w _ => by go_simp⟩) HW ?_
        simp only [List.setIfInBounds_toArray, List.set_cons_zero, List.set_cons_succ]
        refine takeH 14 31 (.bool false) rfl rfl (by kernel_rfl) (by kernel_rfl) (by kernel_rfl) (fun c a w h => h) (.inl ⟨rfl, fun w _ => by go_simp⟩) HW ?_
        simp only [List.setIfInBounds_toArray, List.set_cons_zero, List.set_cons_succ]
        refine wpAnyH_done (by kernel_rfl) ?_ _
        exact tail _ _ _ HW
      · refine wpOp_doG 11 (by rfl) (by rfl) ?_
        go_wp2_with fail
        have hp11 := psl_one HW.2.2.2.2.1 (.cells #[.slice c nc cc] 22) ⟨_, rfl⟩
        have hb : Below y2.heap.size y2 (y2.alloc (.cells #[.slice c nc cc] 22)) := (Below.refl _ _).alloc (Nat.le_refl _) _
        generalize y2.alloc (.cells #[.slice c nc cc] 22) = y6 at hp11 hb ⊢
        refine ⟨HW.later hb, ?_⟩
        replace HW := HW.later hb
        replace hp7 := hp7.later hb
        clear hb
        refine wpAnyH_all (rs := [8]) (by kernel_rfl) (by simp) (fun i hi => ?_)
        obtain rfl : i = 8 := by simpa using hi
        refine wpOp_doG 8 (by rfl) (by rfl) ?_
        go_wp2_with fail
        refine (msum_any _ _ (blkK key) [bs] y6 HW.2.1 (row_sl HW.1 (blkK_by hkb) hbl (by omega)) hp7 (by omega) hbs1).mono ?_
        rintro e y7 ⟨rfl, hb⟩
        rw [HF.out]
        refine ⟨HW.later hb, ?_⟩
        replace HW := HW.later hb
        replace hp7 := hp7.later hb
        replace hp11 := hp11.later hb
        clear hb
        clear hp7
        refine wpAnyH_all (rs := [12]) (by kernel_rfl) (by simp) (fun i hi => ?_)
        obtain rfl : i = 12 := by simpa using hi
        refine wpOp_doG 12 (by rfl) (by rfl) ?_
        go_wp2_with fail
        refine (msum_any _ _ key [bs] y7 HW.2.1 HW.2.2.1 hp11 (by omega) hbs1).mono ?_
        rintro e y8 ⟨rfl, hb⟩
        rw [HF2.out]
        refine ⟨HW.later hb, ?_⟩
        replace HW := HW.later hb
        replace hp11 := hp11.later hb
        clear hb
        clear hp11
        refine takeH 13 30 (.bool false) rfl rfl (by kernel_rfl) (by kernel_rfl) (by kernel_rfl) (fun c a w h => h) (.inl ⟨rfl, fun w _ => by go_simp⟩) HW ?_
        simp only [List.setIfInBounds_toArray, List.set_cons_zero, List.set_cons_succ]
        refine takeH 14 31 (.bool false) rfl rfl (by kernel_rfl) (by kernel_rfl) (by kernel_rfl) (fun c a w h => h) (.inl ⟨rfl, fun w _ => by go_simp⟩) HW ?_
        simp only [List.setIfInBounds_toArray, List.set_cons_zero, List.set_cons_succ]
        refine wpAnyH_done (by kernel_rfl) ?_ _
        exact tail _ _ _ HW
    · refine wpOp_doG 11 (by rfl) (by rfl) ?_
      go_wp2_with fail
      have hp11 := psl_one HW.2.2.2.2.1 (.cells #[.slice c nc cc] 22) ⟨_, rfl⟩
      have hb : Below y1.heap.size y1 (y1.alloc (.cells #[.slice c nc cc] 22)) := (Below.refl _ _).alloc (Nat.le_refl _) _
      generalize y1.alloc (.cells #[.slice c nc cc] 22) = y9 at hp11 hb ⊢
      refine ⟨HW.later hb, ?_⟩
      replace HW := HW.later hb
      clear hb
      refine wpAnyH_all (rs := [7]) (by kernel_rfl) (by simp) (fun i hi => ?_)
      obtain rfl : i = 7 := by simpa using hi
      refine wpOp_doG 7 (by rfl) (by rfl) ?_
      go_wp2_with fail
      have hp7 := psl_one HW.2.2.2.2.1 (.cells #[.slice c nc cc] 22) ⟨_, rfl⟩
      have hb : Below y9.heap.size y9 (y9.alloc (.cells #[.slice c nc cc] 22)) := (Below.refl _ _).alloc (Nat.le_refl _) _
      generalize y9.alloc (.cells #[.slice c nc cc] 22) = y10 at hp7 hb ⊢
      refine ⟨HW.later hb, ?_⟩
      replace HW := HW.later hb
      replace hp11 := hp11.later hb
      clear hb
      refine wpAnyH_all (rs := [8]) (by kernel_rfl) (by simp) (fun i hi => ?_)
      obtain rfl : i = 8 := by simpa using hi
      refine wpOp_doG 8 (by rfl) (by rfl) ?_
      go_wp2_with fail
      refine (msum_any _ _ (blkK key) [bs] y10 HW.2.1 (row_sl HW.1 (blkK_by hkb) hbl (by omega)) hp7 (by omega) hbs1).mono ?_
      rintro e y11 ⟨rfl, hb⟩
      rw [HF.out]
      refine ⟨HW.later hb, ?_⟩
      replace HW := HW.later hb
      replace hp11 := hp11.later hb
      replace hp7 := hp7.later hb
      clear hb
      clear hp7
      refine wpAnyH_all (rs := [12]) (by kernel_rfl) (by simp) (fun i hi => ?_)
      obtain rfl : i = 12 := by simpa using hi
      refine wpOp_doG 12 (by rfl) (by rfl) ?_
      go_wp2_with fail
      refine (msum_any _ _ key [bs] y11 HW.2.1 HW.2.2.1 hp11 (by omega) hbs1).mono ?_
      rintro e y12 ⟨rfl, hb⟩
      rw [HF2.out]
      refine ⟨HW.later hb, ?_⟩
      replace HW := HW.later hb
      replace hp11 := hp11.later hb
      clear hb
      clear hp11
      refine takeH 13 30 (.bool false) rfl rfl (by kernel_rfl) (by kernel_rfl) (by kernel_rfl) (fun c a w h => h) (.inl ⟨rfl, fun w _ => by go_simp⟩) HW ?_
      simp only [List.setIfInBounds_toArray, List.set_cons_zero, List.set_cons_succ]
      refine takeH 14 31 (.bool false) rfl rfl (by kernel_rfl) (by kernel_rfl) (by kernel_rfl) (fun c a w h => h) (.inl ⟨rfl, fun w _ => by go_simp⟩) HW ?_
      simp only [List.setIfInBounds_toArray, List.set_cons_zero, List.set_cons_succ]
      refine wpAnyH_done (by kernel_rfl) ?_ _
      exact tail _ _ _ HW
end Go.Proofs.YtidonnilklplhaaDoor
