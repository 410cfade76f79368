/- The walk of MacWrites. Conditions: the table holds the rounds' numbers. -/
import Derived.Test.YtidonnilklplhaaDoorMO
import Derived.Test.YtidonnilklplhaaDoorMF
namespace Go.Proofs.YtidonnilklplhaaDoor
open Go.RowKit Hx
set_option linter.unusedVariables false

/-- what stays as it is while the answers are asked for -/
def Wm (p m g : Nat) (X key L A Bl : List Int) (vk va vb : Value) (w0 w : World) : Prop :=
  Row w p .u8 X ∧ Kt w ∧ MHas w m g key L ∧ Sl w vk key ∧ Sl w va A ∧ Sl w vb Bl ∧ Below w0.heap.size w0 w
section
variable {p m g : Nat} {X key L A Bl : List Int} {vk va vb : Value} {w0 w w' : World}
theorem Wm.later (h : Wm p m g X key L A Bl vk va vb w0 w) (hb : Below w.heap.size w w') : Wm p m g X key L A Bl vk va vb w0 w' :=
  ⟨h.1.later hb, h.2.1.below hb h.2.1.pos, h.2.2.1.later hb, h.2.2.2.1.later hb, h.2.2.2.2.1.later hb, h.2.2.2.2.2.1.later hb, below_next h.2.2.2.2.2.2 hb⟩
theorem Wm.drew (h : Wm p m g X key L A Bl vk va vb w0 w) : Wm p m g X key L A Bl vk va vb w0 ({ w with drawn := w.drawn + 1 } : World) :=
  ⟨h.1, h.2.1, h.2.2.1, h.2.2.2.1, h.2.2.2.2.1, h.2.2.2.2.2.1, h.2.2.2.2.2.2.drew⟩
theorem Wm.ptr (h : Wm p m g X key L A Bl vk va vb w0 w) : w.cell? ⟨m, 0, none⟩ = some (.pointer (some ⟨g, 0, none⟩)) := h.2.2.1.ptr
end
theorem MHas.only {w w' : World} {m g p : Nat} {key l : List Int} (h : MHas w m g key l) (hb : Only p w w') (h1 : m ≠ p) (h2 : g ≠ p) : MHas w' m g key l :=
  ⟨h.1.only hb h1, h.2.1.only hb h2, h.2.2⟩
theorem mhas_len (m g : Nat) (key l : List Int) (w : World) (h : MHas w m g key l) : Calls Tryd.prog 17 #[.pointer (some ⟨g, 0, none⟩)] w fun en w' => en = .returned (.int .u64 ((64 + l.length : Nat) : Int)) ∧ Below w.heap.size w w' := by
  refine (has_len g _ w h.2.1).mono ?_
  rintro e w' ⟨rfl, rfl⟩
  refine ⟨?_, Below.refl _ _⟩
  rw [List.length_append, xorL_len, blkK_len]

set_option maxRecDepth 100000 in
set_option maxHeartbeats 4000000 in
theorem law_writes (v va vb : Value) (key A Bl : List Int) (w : World) (hK : Kt w) (hv : Sl w v key) (hva : Sl w va A) (hvb : Sl w vb Bl)
    (nk : ∀ n c, v = .slice none n c → n = 0 ∧ c = 0) (na : ∀ n c, va = .slice none n c → n = 0 ∧ c = 0) (nb : ∀ n c, vb = .slice none n c → n = 0 ∧ c = 0) :
    Calls Tryd.prog 6 #[v, va, vb] w fun en w' => en = .returned (.bool true) ∧ Below w.heap.size w w' := by
  obtain ⟨k0, nk0, ck, rfl⟩ := sl_form hv
  obtain ⟨a, ca, hvaa, hlA⟩ : ∃ a cap, va = .slice a A.length cap ∧ A.length ≤ 9223372036854775807 := part_len hva
  obtain ⟨b, cb, hvbb, hlB⟩ : ∃ a cap, vb = .slice a Bl.length cap ∧ Bl.length ≤ 9223372036854775807 := part_len hvb
  subst hvaa
  subst hvbb
  obtain ⟨NA, hNA⟩ : ∃ N, N = A.length := ⟨_, rfl⟩
  obtain ⟨NB, hNB⟩ : ∃ N, N = Bl.length := ⟨_, rfl⟩
  rw [← hNA] at hlA hva na ⊢
  rw [← hNB] at hlB hvb nb ⊢
  have HV : Hid (Sl w (.slice k0 nk0 ck) key) := hv
  have HA : Hid (Sl w (.slice a NA ca) A) := hva
  have HB : Hid (Sl w (.slice b NB cb) Bl) := hvb
  have HNA : Hid (NA = A.length) := hNA
  have HNB : Hid (NB = Bl.length) := hNB
  have HnK : Hid (∀ n c, Value.slice k0 nk0 ck = .slice none n c → n = 0 ∧ c = 0) := nk
  have HnA : Hid (∀ n c, Value.slice a NA ca = .slice none n c → n = 0 ∧ c = 0) := na
  have hk0 := hK.pos
  clear hv hva hvb hNA hNB nk na nb
  go_enter Tryd.func6, Tryd.ntmps6
  go_wp2_with fail
  refine (wakes_any _ hK).mono ?_
  rintro e w1 ⟨rfl, hb1⟩
  go_wp2_with fail
  have p2 := psl_three (HV.out.later hb1) (HA.out.later hb1) (HB.out.later hb1) 22
  have hb2 : Below w1.heap.size w1 (w1.alloc (.cells #[.slice k0 nk0 ck, .slice a NA ca, .slice b NB cb] 22)) := (Below.refl _ _).alloc (Nat.le_refl _) _
  generalize w1.alloc (.cells #[.slice k0 nk0 ck, .slice a NA ca, .slice b NB cb] 22) = w2 at p2 hb2 ⊢
  have hB2 := below_next hb1 hb2
  refine (great_any _ [key, A, Bl] w2 p2).mono ?_
  rintro e w3 ⟨bb, rfl, hf, rfl⟩
  cases bb with
  | true =>
    go_wp2
    go_ret
    exact ⟨rfl, hB2⟩
  | false =>
  obtain ⟨hk3, hA3, hB3⟩ := few_three (hf rfl)
  have hNA3 : NA ≤ 300 := by rw [HNA.out]; exact hA3
  have hNB3 : NB ≤ 300 := by rw [HNB.out]; exact hB3
  clear hb1 hb2 p2 hf
  go_wp2_with fail
  refine (mnew_any _ key w3 (hK.below hB2 hk0) (HV.out.later hB2) (by omega)).mono ?_
  rintro e w4 ⟨m, g, rfl, hgm, hgg, H4, hb4⟩
  have hs2 := hB2.size
  have qg : w.heap.size ≤ g := by omega
  have qm : w.heap.size ≤ m := by omega
  have hB4 := below_next hB2 hb4
  have cp := H4.ptr
  have HH4 : Hid (MHas w4 m g key [] ∧ Below w.heap.size w w4) := ⟨H4, hB4⟩
  clear H4 hb4 hB2 hB4 hgm hgg hs2
  go_wp2_with fail
  obtain ⟨H4, hB4⟩ := HH4.out
  refine (mwrite_any m g key [] A _ w4 (hK.below hB4 hk0) H4 (HA.out.later hB4) (sl_apart (B := 0) HA.out qg) (by simp; omega)).mono ?_
  rintro e w5 ⟨rfl, H5, o5⟩
  have hB5 := below_only hB4 o5 qg (Nat.le_refl _)
  have H5' : MHas w5 m g key A := by simpa using H5
  clear H4 hB4 H5 o5 HH4 cp
  obtain ⟨X, hX⟩ : ∃ X, X = sealB key A := ⟨_, rfl⟩
  have h32 : X.length = 32 := by rw [hX]; exact sealB_len _ _
  have h25 : (Tryd.prog.info? 25).map (·.size) = some X.length := by rw [h32]; exact Tryd.size25
  have HX : Hid (sealB key A = X) := hX.symm
  clear hX
  go_wp2_with fail
  refine (seal_any m g key A w5 (hK.below hB5 hk0) H5' (by omega)).mono ?_
  rintro e w6 ⟨rfl, hb6⟩
  rw [HX.out]
  have H6 := H5'.later hb6
  have hB6 := below_next hB5 hb6
  have HH6 : Hid (MHas w6 m g key A ∧ Below w.heap.size w w6) := ⟨H6, hB6⟩
  have lg := H6.2.1.lt
  have lm := H6.1.lt
  clear H5' hb6 hB5 H6 hB6
  go_wp2_with (first
    | ((with_reducible refine wp_allocD 8 25 .u8 32 Tryd.zero25 ?_ ?_); (exact ⟨rfl, rfl, rfl⟩); intro p8 w7 hg7 r7 hb7)
    | ((with_reducible refine wp_storeR 25 (.tmp 8) (.tmp 36) p8 .u8 (List.replicate 32 0) X h25 ?_ ?_ ?_ ?_ r7 ?_); (rw [h32]; rfl); (exact ⟨rfl, rfl⟩); (exact rfl); (exact rfl); intro w8 r8 o8))
  have q8 : g < p8 := by omega
  have q9 : m < p8 := by omega
  have H8 := (HH6.out.1.later hb7).only o8 (show m ≠ p8 by omega) (show g ≠ p8 by omega)
  have hB8 := below_only (below_next HH6.out.2 hb7) o8 (show w.heap.size ≤ p8 by omega) (Nat.le_refl _)
  have HI : Hid (MHas w8 m g key (A ++ Bl.take 0) ∧ Row w8 p8 .u8 X ∧ Below w.heap.size w w8) := ⟨by simpa using H8, r8, hB8⟩
  clear hb7 o8 r7 HH6 hg7 H8 hB8 r8 lg lm
  go_loopw [39] (fun i wr => ∃ k : Nat, k ≤ NB ∧ i = .int .i64 k ∧ Hid (MHas wr m g key (A ++ Bl.take k) ∧ Row wr p8 .u8 X ∧ Below w.heap.size w wr)) (fun i _ => NB - (intOf i).toNat)
  case atStart => exact ⟨0, by omega, rfl, HI.out⟩
  case round =>
    clear HI
    obtain ⟨k, hk, rfl, HI⟩ := hrel
    by_cases hlt : k < NB
    · have hlt' : (k : Int) < (NB : Int) := by omega
      have hkB : k < Bl.length := by rw [← HNB.out]; exact hlt
      obtain ⟨g0, off, rfl, hbs, hcell, hbd⟩ : ∃ g0 off, b = some ⟨g0, off, none⟩ ∧ g0 < w.heap.size ∧ w.cell? ⟨g0, off + k, none⟩ = some (.int .u8 (nth Bl k)) ∧ (0 ≤ nth Bl k ∧ nth Bl k ≤ 255) := by
        obtain ⟨a', c, hv, hx, _, _, hr⟩ := HB.out
        obtain ⟨b', off, rfl, hb, hc⟩ := hr (by omega)
        injection hv with h0 _ _
        exact ⟨b', off, h0, hb, hc k hkB, nth_bd hx k⟩
      obtain ⟨H, r, hb⟩ := HI.out
      have c1 : wr.cell? ⟨g0, off + k, none⟩ = some (.int .u8 (nth Bl k)) := (hb.cell (p := ⟨g0, off + k, none⟩) hbs).trans hcell
      have cp := H.ptr
      have HT : Hid (Bl.take k ++ [nth Bl k] = Bl.take (k + 1)) := take_next Bl k hkB
      clear hcell H r hb
      generalize nth Bl k = x at c1 hbd HT
      go_wp2_with fail
      have s1 := sl_one wr x hbd 5
      have hb1 : Below wr.heap.size wr (wr.alloc (.cells #[.int .u8 x] 5)) := (Below.refl _ _).alloc (Nat.le_refl _) _
      generalize wr.alloc (.cells #[.int .u8 x] 5) = w9 at s1 hb1 ⊢
      obtain ⟨H, r, hb⟩ := HI.out
      have hg1 := H.2.1.lt
      have hb4 := below_next hb hb1
      refine (mwrite_any m g key (A ++ Bl.take k) [x] _ w9 (hK.below hb4 hk0) (H.later hb1) s1 (fun b' off' n' cap' he _ => by injection he with he _ _; injection he with he; injection he with he _ _; omega) (by simp; omega)).mono ?_
      rintro e w10 ⟨rfl, H10, o10⟩
      rw [List.append_assoc, HT.out] at H10
      have HJ : Hid (MHas w10 m g key (A ++ Bl.take (k + 1)) ∧ Row w10 p8 .u8 X ∧ Below w.heap.size w w10) := ⟨H10, (r.later hb1).only o10 (show p8 ≠ g by omega), below_only hb4 o10 qg (Nat.le_refl _)⟩
      clear H hb hb1 hb4 H10 o10 s1 c1 HI hg1 r cp
      go_wp2
      exact ⟨⟨k + 1, by omega, by go_num, HJ.out⟩, by simp [intOf]; omega⟩
    · have hk' : k = NB := by omega
      subst hk'
      have ht : Bl.take k = Bl := by rw [HNB.out, List.take_length]
      rw [ht] at HI
      obtain ⟨H, r, hb⟩ := HI.out
      have HW : Wm p8 m g X key (A ++ Bl) A Bl (.slice k0 nk0 ck) (.slice a NA ca) (.slice b k cb) w wr := ⟨r, hK.below hb hk0, H, HV.out.later hb, HA.out.later hb, HB.out.later hb, hb⟩
      clear HI ht H r hb
      obtain ⟨Y, hY⟩ : ∃ Y, Y = sealB key (A ++ Bl) := ⟨_, rfl⟩
      have y32 : Y.length = 32 := by rw [hY]; exact sealB_len _ _
      have HY : Hid (sealB key (A ++ Bl) = Y) := hY.symm
      have HY2 : Hid (sealB key ([A, Bl] : List (List Int)).flatten = Y) := by show _ = _; rw [hY]; simp
      clear hY
      obtain ⟨P, hP⟩ : ∃ P, P = 64 + NA := ⟨_, rfl⟩
      have eP : (64 : Int) + (NA : Int) = (P : Int) := by omega
      have wP : IntKind.i64.wrap (P : Int) = P := wrap_small _ (by omega) (by omega)
      obtain ⟨M, hM⟩ : ∃ M, M = P + k := ⟨_, rfl⟩
      have eM : (P : Int) + (k : Int) = (M : Int) := by omega
      have wM : IntKind.i64.wrap (M : Int) = M := wrap_small _ (by omega) (by omega)
      have uM : IntKind.u64.wrap (M : Int) = M := by rw [IntKind.wrap_u64]; omega
      have HM : Hid (((64 + (A ++ Bl).length : Nat) : Int) = (M : Int)) := by show _ = _; rw [List.length_append, ← HNA.out, ← HNB.out]; omega
      have hAB : (A ++ Bl).length ≤ 800000 := by rw [List.length_append]; omega
      have hAB2 : ([A, Bl] : List (List Int)).flatten.length ≤ 800000 := by simp; omega
      clear hM hP
      have x1 := fun (x y : Operand) (w : World) => eqg24 X x y w
      have x2 := fun (w : World) => eq24 X h32 w
      have y1 := fun (x y : Operand) (w : World) => eqg24 Y x y w
      have y2 := fun (w : World) => eq24 Y y32 w
      go_wp2_with fail
      refine wp_region_held (S := Wm p8 m g X key (A ++ Bl) A Bl (.slice k0 nk0 ck) (.slice a NA ca) (.slice b k cb) w) Tryd.mixed ?_
      replace HW : Wm p8 m g X key (A ++ Bl) A Bl (.slice k0 nk0 ck) (.slice a NA ca) (.slice b k cb) w ({ wr with drawn := wr.drawn + 1 } : World) := HW.drew
      generalize ({ wr with drawn := wr.drawn + 1 } : World) = wd at HW ⊢
      refine takeH 0 51 (arr .u8 X) rfl rfl (by kernel_rfl) (by kernel_rfl) (by kernel_rfl) (fun c a w h => h) (yieldsIf_load_mid rfl 25 (.tmp 8) rfl p8 0 rfl (cellsK .u8 X) _ (fun w h => h.1.range) Tryd.underlying25 rfl (by rw [cellsK_len]; exact h25)) HW ?_
      simp only [List.setIfInBounds_toArray, List.set_cons_zero, List.set_cons_succ]
      refine takeH 1 52 (.slice k0 nk0 ck) rfl rfl (by kernel_rfl) (by kernel_rfl) (by kernel_rfl) (fun c a w h => h) (.inl ⟨rfl, fun w _ => rfl⟩) HW ?_
      simp only [List.setIfInBounds_toArray, List.set_cons_zero, List.set_cons_succ]
      refine takeH 2 53 (.slice a NA ca) rfl rfl (by kernel_rfl) (by kernel_rfl) (by kernel_rfl) (fun c a w h => h) (.inl ⟨rfl, fun w _ => rfl⟩) HW ?_
      simp only [List.setIfInBounds_toArray, List.set_cons_zero, List.set_cons_succ]
      refine wpAnyH_all (rs := [3]) (by kernel_rfl) (by simp) (fun i hi => ?_)
      obtain rfl : i = 3 := by simpa using hi
      refine wpOp_doG 3 (by rfl) (by rfl) ?_
      go_wp2_with fail
      refine (rmsum_any _ _ key A wd HW.2.2.2.1 HnK.out HW.2.2.2.2.1 HnA.out (by omega) (by omega)).mono ?_
      rintro e y1 ⟨rfl, hb⟩
      rw [HX.out]
      refine ⟨HW.later hb, ?_⟩
      replace HW := HW.later hb
      clear hb
      refine takeH 4 55 (.bool true) rfl rfl (by kernel_rfl) (by kernel_rfl) (by kernel_rfl) (fun c a w h => h) (.inl ⟨rfl, fun w _ => by go_simp⟩) HW ?_
      simp only [List.setIfInBounds_toArray, List.set_cons_zero, List.set_cons_succ]
      refine takeH 5 56 (.bool true) rfl rfl (by kernel_rfl) (by kernel_rfl) (by kernel_rfl) (fun c a w h => h) (.inl ⟨rfl, fun w _ => rfl⟩) HW ?_
      simp only [List.setIfInBounds_toArray, List.set_cons_zero, List.set_cons_succ]
      refine takeH 6 57 (.pointer (some ⟨m, 0, none⟩)) rfl rfl (by kernel_rfl) (by kernel_rfl) (by kernel_rfl) (fun c a w h => h) (.inl ⟨rfl, fun w _ => rfl⟩) HW ?_
      simp only [List.setIfInBounds_toArray, List.set_cons_zero, List.set_cons_succ]
      refine takeH 8 59 (.slice k0 nk0 ck) rfl rfl (by kernel_rfl) (by kernel_rfl) (by kernel_rfl) (fun c a w h => h) (.inl ⟨rfl, fun w _ => rfl⟩) HW ?_
      simp only [List.setIfInBounds_toArray, List.set_cons_zero, List.set_cons_succ]
      refine takeH 9 60 (.slice a NA ca) rfl rfl (by kernel_rfl) (by kernel_rfl) (by kernel_rfl) (fun c a w h => h) (.inl ⟨rfl, fun w _ => rfl⟩) HW ?_
      simp only [List.setIfInBounds_toArray, List.set_cons_zero, List.set_cons_succ]
      refine takeH 10 61 (.slice b k cb) rfl rfl (by kernel_rfl) (by kernel_rfl) (by kernel_rfl) (fun c a w h => h) (.inl ⟨rfl, fun w _ => rfl⟩) HW ?_
      simp only [List.setIfInBounds_toArray, List.set_cons_zero, List.set_cons_succ]
      refine wpAnyH_all (rs := [7, 11]) (by kernel_rfl) (by simp) (fun i hi => ?_)
      simp only [List.mem_cons, List.not_mem_nil, or_false] at hi
      rcases hi with rfl | rfl
      · refine wpOp_doG 7 (by rfl) (by rfl) ?_
        go_wp2_with fail
        refine (seal_any m g key (A ++ Bl) y1 HW.2.1 HW.2.2.1 hAB).mono ?_
        rintro e y2 ⟨rfl, hb⟩
        rw [HY.out]
        refine ⟨HW.later hb, ?_⟩
        replace HW := HW.later hb
        clear hb
        refine wpAnyH_all (rs := [11]) (by kernel_rfl) (by simp) (fun i hi => ?_)
        obtain rfl : i = 11 := by simpa using hi
        refine wpOp_doG 11 (by rfl) (by rfl) ?_
        go_wp2_with fail
        have hp := psl_two HW.2.2.2.2.1 HW.2.2.2.2.2.1 22
        have hb : Below y2.heap.size y2 (y2.alloc (.cells #[.slice a NA ca, .slice b k cb] 22)) := (Below.refl _ _).alloc (Nat.le_refl _) _
        generalize y2.alloc (.cells #[.slice a NA ca, .slice b k cb] 22) = y3 at hp hb ⊢
        refine ⟨HW.later hb, ?_⟩
        replace HW := HW.later hb
        clear hb
        refine wpAnyH_all (rs := [12]) (by kernel_rfl) (by simp) (fun i hi => ?_)
        obtain rfl : i = 12 := by simpa using hi
        refine wpOp_doG 12 (by rfl) (by rfl) ?_
        go_wp2_with fail
        refine (msum_any _ _ key [A, Bl] y3 HW.2.1 HW.2.2.2.1 hp (by omega) hAB2).mono ?_
        rintro e y4 ⟨rfl, hb⟩
        rw [HY2.out]
        refine ⟨HW.later hb, ?_⟩
        replace HW := HW.later hb
        replace hp := hp.later hb
        clear hb
        clear hp
        refine takeH 13 64 (.bool true) rfl rfl (by kernel_rfl) (by kernel_rfl) (by kernel_rfl) (fun c a w h => h) (.inl ⟨rfl, fun w _ => by go_simp⟩) HW ?_
        simp only [List.setIfInBounds_toArray, List.set_cons_zero, List.set_cons_succ]
        refine takeH 14 65 (.bool true) rfl rfl (by kernel_rfl) (by kernel_rfl) (by kernel_rfl) (fun c a w h => h) (.inl ⟨rfl, fun w _ => by go_simp⟩) HW ?_
        simp only [List.setIfInBounds_toArray, List.set_cons_zero, List.set_cons_succ]
        refine takeH 15 66 (.bool true) rfl rfl (by kernel_rfl) (by kernel_rfl) (by kernel_rfl) (fun c a w h => h) (.inl ⟨rfl, fun w _ => rfl⟩) HW ?_
        simp only [List.setIfInBounds_toArray, List.set_cons_zero, List.set_cons_succ]
        refine takeH 16 67 (.pointer (some ⟨m, 0, none⟩)) rfl rfl (by kernel_rfl) (by kernel_rfl) (by kernel_rfl) (fun c a w h => h) (.inl ⟨rfl, fun w _ => rfl⟩) HW ?_
        simp only [List.setIfInBounds_toArray, List.set_cons_zero, List.set_cons_succ]
        refine takeH 18 69 (.pointer (some ⟨m, 0, none⟩)) rfl rfl (by kernel_rfl) (by kernel_rfl) (by kernel_rfl) (fun c a w h => h) (.inl ⟨rfl, fun w _ => rfl⟩) HW ?_
        simp only [List.setIfInBounds_toArray, List.set_cons_zero, List.set_cons_succ]
        refine wpAnyH_all (rs := [17]) (by kernel_rfl) (by simp) (fun i hi => ?_)
        obtain rfl : i = 17 := by simpa using hi
        refine wpOp_doG 17 (by rfl) (by rfl) ?_
        go_wp2_with fail
        refine (seal_any m g key (A ++ Bl) y4 HW.2.1 HW.2.2.1 hAB).mono ?_
        rintro e y5 ⟨rfl, hb⟩
        rw [HY.out]
        refine ⟨HW.later hb, ?_⟩
        replace HW := HW.later hb
        clear hb
        refine wpAnyH_all (rs := [19]) (by kernel_rfl) (by simp) (fun i hi => ?_)
        obtain rfl : i = 19 := by simpa using hi
        refine wpOp_doG 19 (by rfl) (by rfl) ?_
        go_wp2_with fail
        refine (seal_any m g key (A ++ Bl) y5 HW.2.1 HW.2.2.1 hAB).mono ?_
        rintro e y6 ⟨rfl, hb⟩
        rw [HY.out]
        refine ⟨HW.later hb, ?_⟩
        replace HW := HW.later hb
        clear hb
        refine takeH 20 71 (.bool true) rfl rfl (by kernel_rfl) (by kernel_rfl) (by kernel_rfl) (fun c a w h => h) (.inl ⟨rfl, fun w _ => by go_simp⟩) HW ?_
        simp only [List.setIfInBounds_toArray, List.set_cons_zero, List.set_cons_succ]
        refine takeH 21 72 (.bool true) rfl rfl (by kernel_rfl) (by kernel_rfl) (by kernel_rfl) (fun c a w h => h) (.inl ⟨rfl, fun w _ => by go_simp⟩) HW ?_
        simp only [List.setIfInBounds_toArray, List.set_cons_zero, List.set_cons_succ]
        refine takeH 22 73 (.bool true) rfl rfl (by kernel_rfl) (by kernel_rfl) (by kernel_rfl) (fun c a w h => h) (.inl ⟨rfl, fun w _ => rfl⟩) HW ?_
        simp only [List.setIfInBounds_toArray, List.set_cons_zero, List.set_cons_succ]
        refine takeH 23 74 (.pointer (some ⟨m, 0, none⟩)) rfl rfl (by kernel_rfl) (by kernel_rfl) (by kernel_rfl) (fun c a w h => h) (.inl ⟨rfl, fun w _ => rfl⟩) HW ?_
        simp only [List.setIfInBounds_toArray, List.set_cons_zero, List.set_cons_succ]
        refine takeH 24 75 (.pointer (some ⟨m, 0, none⟩)) rfl rfl (by kernel_rfl) (by kernel_rfl) (by kernel_rfl) (fun c a w h => h) (.inl ⟨rfl, fun w _ => by go_simp⟩) HW ?_
        simp only [List.setIfInBounds_toArray, List.set_cons_zero, List.set_cons_succ]
        refine takeH 25 76 (.pointer (some ⟨m, 0, none⟩)) rfl rfl (by kernel_rfl) (by kernel_rfl) (by kernel_rfl) (fun c a w h => h) (.inl ⟨rfl, fun w _ => by go_simp⟩) HW ?_
        simp only [List.setIfInBounds_toArray, List.set_cons_zero, List.set_cons_succ]
        refine takeH 26 77 (.pointer (some ⟨g, 0, none⟩)) rfl rfl (by kernel_rfl) (by kernel_rfl) (by kernel_rfl) (fun c a w h => h) (.inl ⟨rfl, fun w h => by have hc := h.ptr; go_simp⟩) HW ?_
        simp only [List.setIfInBounds_toArray, List.set_cons_zero, List.set_cons_succ]
        refine takeH 28 79 (.slice a NA ca) rfl rfl (by kernel_rfl) (by kernel_rfl) (by kernel_rfl) (fun c a w h => h) (.inl ⟨rfl, fun w _ => rfl⟩) HW ?_
        simp only [List.setIfInBounds_toArray, List.set_cons_zero, List.set_cons_succ]
        refine takeH 29 80 (.int .i64 NA) rfl rfl (by kernel_rfl) (by kernel_rfl) (by kernel_rfl) (fun c a w h => h) (.inl ⟨rfl, fun w _ => by go_simp⟩) HW ?_
        simp only [List.setIfInBounds_toArray, List.set_cons_zero, List.set_cons_succ]
        refine takeH 30 81 (.int .i64 P) rfl rfl (by kernel_rfl) (by kernel_rfl) (by kernel_rfl) (fun c a w h => h) (.inl ⟨rfl, fun w _ => by go_simp⟩) HW ?_
        simp only [List.setIfInBounds_toArray, List.set_cons_zero, List.set_cons_succ]
        refine takeH 31 82 (.slice b k cb) rfl rfl (by kernel_rfl) (by kernel_rfl) (by kernel_rfl) (fun c a w h => h) (.inl ⟨rfl, fun w _ => rfl⟩) HW ?_
        simp only [List.setIfInBounds_toArray, List.set_cons_zero, List.set_cons_succ]
        refine takeH 32 83 (.int .i64 k) rfl rfl (by kernel_rfl) (by kernel_rfl) (by kernel_rfl) (fun c a w h => h) (.inl ⟨rfl, fun w _ => by go_simp⟩) HW ?_
        simp only [List.setIfInBounds_toArray, List.set_cons_zero, List.set_cons_succ]
        refine takeH 33 84 (.int .i64 M) rfl rfl (by kernel_rfl) (by kernel_rfl) (by kernel_rfl) (fun c a w h => h) (.inl ⟨rfl, fun w _ => by go_simp⟩) HW ?_
        simp only [List.setIfInBounds_toArray, List.set_cons_zero, List.set_cons_succ]
        refine takeH 34 85 (.int .u64 M) rfl rfl (by kernel_rfl) (by kernel_rfl) (by kernel_rfl) (fun c a w h => h) (.inl ⟨rfl, fun w _ => by go_simp⟩) HW ?_
        simp only [List.setIfInBounds_toArray, List.set_cons_zero, List.set_cons_succ]
        refine wpAnyH_all (rs := [27]) (by kernel_rfl) (by simp) (fun i hi => ?_)
        obtain rfl : i = 27 := by simpa using hi
        refine wpOp_doG 27 (by rfl) (by rfl) ?_
        go_wp2_with fail
        refine (mhas_len m g key (A ++ Bl) y6 HW.2.2.1).mono ?_
        rintro e y7 ⟨rfl, hb⟩
        rw [HM.out]
        refine ⟨HW.later hb, ?_⟩
        replace HW := HW.later hb
        clear hb
        refine takeH 35 86 (.bool true) rfl rfl (by kernel_rfl) (by kernel_rfl) (by kernel_rfl) (fun c a w h => h) (.inl ⟨rfl, fun w _ => by go_simp⟩) HW ?_
        simp only [List.setIfInBounds_toArray, List.set_cons_zero, List.set_cons_succ]
        refine takeH 36 87 (.bool true) rfl rfl (by kernel_rfl) (by kernel_rfl) (by kernel_rfl) (fun c a w h => h) (.inl ⟨rfl, fun w _ => by go_simp⟩) HW ?_
        simp only [List.setIfInBounds_toArray, List.set_cons_zero, List.set_cons_succ]
        refine takeH 37 6 (.bool true) rfl rfl (by kernel_rfl) (by kernel_rfl) (by kernel_rfl) (fun c a w h => h) (.inl ⟨rfl, fun w _ => rfl⟩) HW ?_
        simp only [List.setIfInBounds_toArray, List.set_cons_zero, List.set_cons_succ]
        refine wpAnyH_done (by kernel_rfl) ?_ _
        go_wp2
        go_ret
        exact ⟨rfl, HW.2.2.2.2.2.2⟩
      · refine wpOp_doG 11 (by rfl) (by rfl) ?_
        go_wp2_with fail
        have hp := psl_two HW.2.2.2.2.1 HW.2.2.2.2.2.1 22
        have hb : Below y1.heap.size y1 (y1.alloc (.cells #[.slice a NA ca, .slice b k cb] 22)) := (Below.refl _ _).alloc (Nat.le_refl _) _
        generalize y1.alloc (.cells #[.slice a NA ca, .slice b k cb] 22) = y8 at hp hb ⊢
        refine ⟨HW.later hb, ?_⟩
        replace HW := HW.later hb
        clear hb
        refine wpAnyH_all (rs := [7]) (by kernel_rfl) (by simp) (fun i hi => ?_)
        obtain rfl : i = 7 := by simpa using hi
        refine wpOp_doG 7 (by rfl) (by rfl) ?_
        go_wp2_with fail
        refine (seal_any m g key (A ++ Bl) y8 HW.2.1 HW.2.2.1 hAB).mono ?_
        rintro e y9 ⟨rfl, hb⟩
        rw [HY.out]
        refine ⟨HW.later hb, ?_⟩
        replace HW := HW.later hb
        replace hp := hp.later hb
        clear hb
        refine wpAnyH_all (rs := [12]) (by kernel_rfl) (by simp) (fun i hi => ?_)
        obtain rfl : i = 12 := by simpa using hi
        refine wpOp_doG 12 (by rfl) (by rfl) ?_
        go_wp2_with fail
        refine (msum_any _ _ key [A, Bl] y9 HW.2.1 HW.2.2.2.1 hp (by omega) hAB2).mono ?_
        rintro e y10 ⟨rfl, hb⟩
        rw [HY2.out]
        refine ⟨HW.later hb, ?_⟩
        replace HW := HW.later hb
        replace hp := hp.later hb
        clear hb
        clear hp
        refine takeH 13 64 (.bool true) rfl rfl (by kernel_rfl) (by kernel_rfl) (by kernel_rfl) (fun c a w h => h) (.inl ⟨rfl, fun w _ => by go_simp⟩) HW ?_
        simp only [List.setIfInBounds_toArray, List.set_cons_zero, List.set_cons_succ]
        refine takeH 14 65 (.bool true) rfl rfl (by kernel_rfl) (by kernel_rfl) (by kernel_rfl) (fun c a w h => h) (.inl ⟨rfl, fun w _ => by go_simp⟩) HW ?_
        simp only [List.setIfInBounds_toArray, List.set_cons_zero, List.set_cons_succ]
        refine takeH 15 66 (.bool true) rfl rfl (by kernel_rfl) (by kernel_rfl) (by kernel_rfl) (fun c a w h => h) (.inl ⟨rfl, fun w _ => rfl⟩) HW ?_
        simp only [List.setIfInBounds_toArray, List.set_cons_zero, List.set_cons_succ]
        refine takeH 16 67 (.pointer (some ⟨m, 0, none⟩)) rfl rfl (by kernel_rfl) (by kernel_rfl) (by kernel_rfl) (fun c a w h => h) (.inl ⟨rfl, fun w _ => rfl⟩) HW ?_
        simp only [List.setIfInBounds_toArray, List.set_cons_zero, List.set_cons_succ]
        refine takeH 18 69 (.pointer (some ⟨m, 0, none⟩)) rfl rfl (by kernel_rfl) (by kernel_rfl) (by kernel_rfl) (fun c a w h => h) (.inl ⟨rfl, fun w _ => rfl⟩) HW ?_
        simp only [List.setIfInBounds_toArray, List.set_cons_zero, List.set_cons_succ]
        refine wpAnyH_all (rs := [17]) (by kernel_rfl) (by simp) (fun i hi => ?_)
        obtain rfl : i = 17 := by simpa using hi
        refine wpOp_doG 17 (by rfl) (by rfl) ?_
        go_wp2_with fail
        refine (seal_any m g key (A ++ Bl) y10 HW.2.1 HW.2.2.1 hAB).mono ?_
        rintro e y11 ⟨rfl, hb⟩
        rw [HY.out]
        refine ⟨HW.later hb, ?_⟩
        replace HW := HW.later hb
        clear hb
        refine wpAnyH_all (rs := [19]) (by kernel_rfl) (by simp) (fun i hi => ?_)
        obtain rfl : i = 19 := by simpa using hi
        refine wpOp_doG 19 (by rfl) (by rfl) ?_
        go_wp2_with fail
        refine (seal_any m g key (A ++ Bl) y11 HW.2.1 HW.2.2.1 hAB).mono ?_
        rintro e y12 ⟨rfl, hb⟩
        rw [HY.out]
        refine ⟨HW.later hb, ?_⟩
        replace HW := HW.later hb
        clear hb
        refine takeH 20 71 (.bool true) rfl rfl (by kernel_rfl) (by kernel_rfl) (by kernel_rfl) (fun c a w h => h) (.inl ⟨rfl, fun w _ => by go_simp⟩) HW ?_
        simp only [List.setIfInBounds_toArray, List.set_cons_zero, List.set_cons_succ]
        refine takeH 21 72 (.bool true) rfl rfl (by kernel_rfl) (by kernel_rfl) (by kernel_rfl) (fun c a w h => h) (.inl ⟨rfl, fun w _ => by go_simp⟩) HW ?_
        simp only [List.setIfInBounds_toArray, List.set_cons_zero, List.set_cons_succ]
        refine takeH 22 73 (.bool true) rfl rfl (by kernel_rfl) (by kernel_rfl) (by kernel_rfl) (fun c a w h => h) (.inl ⟨rfl, fun w _ => rfl⟩) HW ?_
        simp only [List.setIfInBounds_toArray, List.set_cons_zero, List.set_cons_succ]
        refine takeH 23 74 (.pointer (some ⟨m, 0, none⟩)) rfl rfl (by kernel_rfl) (by kernel_rfl) (by kernel_rfl) (fun c a w h => h) (.inl ⟨rfl, fun w _ => rfl⟩) HW ?_
        simp only [List.setIfInBounds_toArray, List.set_cons_zero, List.set_cons_succ]
        refine takeH 24 75 (.pointer (some ⟨m, 0, none⟩)) rfl rfl (by kernel_rfl) (by kernel_rfl) (by kernel_rfl) (fun c a w h => h) (.inl ⟨rfl, fun w _ => by go_simp⟩) HW ?_
        simp only [List.setIfInBounds_toArray, List.set_cons_zero, List.set_cons_succ]
        refine takeH 25 76 (.pointer (some ⟨m, 0, none⟩)) rfl rfl (by kernel_rfl) (by kernel_rfl) (by kernel_rfl) (fun c a w h => h) (.inl ⟨rfl, fun w _ => by go_simp⟩) HW ?_
        simp only [List.setIfInBounds_toArray, List.set_cons_zero, List.set_cons_succ]
        refine takeH 26 77 (.pointer (some ⟨g, 0, none⟩)) rfl rfl (by kernel_rfl) (by kernel_rfl) (by kernel_rfl) (fun c a w h => h) (.inl ⟨rfl, fun w h => by have hc := h.ptr; go_simp⟩) HW ?_
        simp only [List.setIfInBounds_toArray, List.set_cons_zero, List.set_cons_succ]
        refine takeH 28 79 (.slice a NA ca) rfl rfl (by kernel_rfl) (by kernel_rfl) (by kernel_rfl) (fun c a w h => h) (.inl ⟨rfl, fun w _ => rfl⟩) HW ?_
        simp only [List.setIfInBounds_toArray, List.set_cons_zero, List.set_cons_succ]
        refine takeH 29 80 (.int .i64 NA) rfl rfl (by kernel_rfl) (by kernel_rfl) (by kernel_rfl) (fun c a w h => h) (.inl ⟨rfl, fun w _ => by go_simp⟩) HW ?_
        simp only [List.setIfInBounds_toArray, List.set_cons_zero, List.set_cons_succ]
        refine takeH 30 81 (.int .i64 P) rfl rfl (by kernel_rfl) (by kernel_rfl) (by kernel_rfl) (fun c a w h => h) (.inl ⟨rfl, fun w _ => by go_simp⟩) HW ?_
        simp only [List.setIfInBounds_toArray, List.set_cons_zero, List.set_cons_succ]
        refine takeH 31 82 (.slice b k cb) rfl rfl (by kernel_rfl) (by kernel_rfl) (by kernel_rfl) (fun c a w h => h) (.inl ⟨rfl, fun w _ => rfl⟩) HW ?_
        simp only [List.setIfInBounds_toArray, List.set_cons_zero, List.set_cons_succ]
        refine takeH 32 83 (.int .i64 k) rfl rfl (by kernel_rfl) (by kernel_rfl) (by kernel_rfl) (fun c a w h => h) (.inl ⟨rfl, fun w _ => by go_simp⟩) HW ?_
        simp only [List.setIfInBounds_toArray, List.set_cons_zero, List.set_cons_succ]
        refine takeH 33 84 (.int .i64 M) rfl rfl (by kernel_rfl) (by kernel_rfl) (by kernel_rfl) (fun c a w h => h) (.inl ⟨rfl, fun w _ => by go_simp⟩) HW ?_
        simp only [List.setIfInBounds_toArray, List.set_cons_zero, List.set_cons_succ]
        refine takeH 34 85 (.int .u64 M) rfl rfl (by kernel_rfl) (by kernel_rfl) (by kernel_rfl) (fun c a w h => h) (.inl ⟨rfl, fun w _ => by go_simp⟩) HW ?_
        simp only [List.setIfInBounds_toArray, List.set_cons_zero, List.set_cons_succ]
        refine wpAnyH_all (rs := [27]) (by kernel_rfl) (by simp) (fun i hi => ?_)
        obtain rfl : i = 27 := by simpa using hi
        refine wpOp_doG 27 (by rfl) (by rfl) ?_
        go_wp2_with fail
        refine (mhas_len m g key (A ++ Bl) y12 HW.2.2.1).mono ?_
        rintro e y13 ⟨rfl, hb⟩
        rw [HM.out]
        refine ⟨HW.later hb, ?_⟩
        replace HW := HW.later hb
        clear hb
        refine takeH 35 86 (.bool true) rfl rfl (by kernel_rfl) (by kernel_rfl) (by kernel_rfl) (fun c a w h => h) (.inl ⟨rfl, fun w _ => by go_simp⟩) HW ?_
        simp only [List.setIfInBounds_toArray, List.set_cons_zero, List.set_cons_succ]
        refine takeH 36 87 (.bool true) rfl rfl (by kernel_rfl) (by kernel_rfl) (by kernel_rfl) (fun c a w h => h) (.inl ⟨rfl, fun w _ => by go_simp⟩) HW ?_
        simp only [List.setIfInBounds_toArray, List.set_cons_zero, List.set_cons_succ]
        refine takeH 37 6 (.bool true) rfl rfl (by kernel_rfl) (by kernel_rfl) (by kernel_rfl) (fun c a w h => h) (.inl ⟨rfl, fun w _ => rfl⟩) HW ?_
        simp only [List.setIfInBounds_toArray, List.set_cons_zero, List.set_cons_succ]
        refine wpAnyH_done (by kernel_rfl) ?_ _
        go_wp2
        go_ret
        exact ⟨rfl, HW.2.2.2.2.2.2⟩
end Go.Proofs.YtidonnilklplhaaDoor
