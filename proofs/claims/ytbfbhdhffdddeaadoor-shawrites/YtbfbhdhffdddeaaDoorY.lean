/- The walk of ShaWrites. Conditions: the table holds the rounds' numbers. -/
import Derived.Test.YtbfbhdhffdddeaaDoorW
import Derived.Test.YtbfbhdhffdddeaaDoorS
import Derived.OrdersHeld
namespace Go.Proofs.YtbfbhdhffdddeaaDoor
open Go.RowKit Hx
set_option linter.unusedVariables false

theorem sl_one (w : World) (x : Int) (hx : 0 ≤ x ∧ x ≤ 255) (T : TypeId) : Sl (w.alloc (.cells #[.int .u8 x] T)) (.slice (some ⟨w.heap.size, 0, none⟩) 1 1) [x] := by
  refine ⟨_, _, rfl, by simpa using hx, by simp, by simp, fun _ => ⟨w.heap.size, 0, rfl, by simp, fun i hi => ?_⟩⟩
  have hi0 : i = 0 := by simpa using hi
  subst hi0
  have := one_new8 w x T 0 (.int .u8 x) rfl
  rw [Addr.add_mid] at this
  rw [this]
  rfl

theorem Has.later {w w' : World} {g : Nat} {l : List Int} (h : Has w g l) (hb : Below w.heap.size w w') : Has w' g l := by
  obtain ⟨blk, h1, h2⟩ := h; exact ⟨blk, h1.later hb, h2⟩
theorem Has.only {w w' : World} {g g' : Nat} {l : List Int} (h : Has w g l) (hb : Only g' w w') (hg : g ≠ g') : Has w' g l := by
  obtain ⟨blk, h1, h2⟩ := h; exact ⟨blk, h1.only hb hg, h2⟩
theorem Has.lt {w : World} {g : Nat} {l : List Int} (h : Has w g l) : g < w.heap.size := by
  obtain ⟨blk, h1, _⟩ := h; exact h1.lt
theorem has_len (g : Nat) (l : List Int) (w : World) (h : Has w g l) : Calls Tryd.prog 26 #[.pointer (some ⟨g, 0, none⟩)] w fun en w' => en = .returned (.int .u64 l.length) ∧ w' = w := by
  obtain ⟨blk, h1, _⟩ := h; exact len_any g _ blk _ w h1
theorem sl_apart {w : World} {v : Value} {xs : List Int} {B g : Nat} (h : Sl w v xs) (hB : w.heap.size ≤ g) : ∀ b off n cap, v = .slice (some ⟨b, off, none⟩) n cap → 0 < xs.length → b ≠ g := by
  intro b off n cap hv h0
  have := sl_block h b off n cap hv h0
  omega

/-- what stays as it is while the answers are asked for -/
def Wr (p g : Nat) (X L A Bl : List Int) (va vb : Value) (w0 w : World) : Prop :=
  Row w p .u8 X ∧ Kt w ∧ Has w g L ∧ Sl w va A ∧ Sl w vb Bl ∧ Below w0.heap.size w0 w
section
variable {p g : Nat} {X L A Bl : List Int} {va vb : Value} {w0 w w' : World}
theorem Wr.later (h : Wr p g X L A Bl va vb w0 w) (hb : Below w.heap.size w w') : Wr p g X L A Bl va vb w0 w' :=
  ⟨h.1.later hb, h.2.1.below hb h.2.1.pos, h.2.2.1.later hb, h.2.2.2.1.later hb, h.2.2.2.2.1.later hb, below_next h.2.2.2.2.2 hb⟩
end
theorem PSl.later {w w' : World} {v : Value} {ps : List (List Int)} (h : PSl w v ps) (hb : Below w.heap.size w w') : PSl w' v ps := by
  obtain ⟨a, cap, hv, h1, h2, h3⟩ := h
  refine ⟨a, cap, hv, h1, h2, fun h0 => ?_⟩
  obtain ⟨b, off, ha, hbs, hc⟩ := h3 h0
  refine ⟨b, off, ha, Nat.lt_of_lt_of_le hbs hb.size, fun i hi => ?_⟩
  obtain ⟨u, h4, h5⟩ := hc i hi
  exact ⟨u, (hb.cell (p := ⟨b, off + i, none⟩) hbs).trans h4, h5.later hb⟩
theorem psl_two {w : World} {u v : Value} {xs ys : List Int} (h : Sl w u xs) (k : Sl w v ys) (T : TypeId) : PSl (w.alloc (.cells #[u, v] T)) (.slice (some ⟨w.heap.size, 0, none⟩) 2 2) [xs, ys] := by
  refine ⟨some ⟨w.heap.size, 0, none⟩, 2, rfl, by simp, by simp, fun _ => ⟨w.heap.size, 0, rfl, by simp, fun i hi => ?_⟩⟩
  have hb := (Below.refl w.heap.size w).alloc (Nat.le_refl _) (.cells #[u, v] T)
  have hi2 : i < 2 := by simpa using hi
  match i, hi2 with
  | 0, _ => exact ⟨u, by simp, h.later hb⟩
  | 1, _ => exact ⟨v, by simp, k.later hb⟩
theorem takeH {P : Program} {ops : Array Oper} {Q : Exit → Act → World → Prop} {md : Region.Mode} {S : World → Prop} (i d : Nat) (v : Value) {oi : Oper} {fuel : Nat} {listed : Array Bool} {tm : Array Value} {df : List Deferred} {w : World} (hi : ops[i]? = some oi) (hd : oi.dst = some d)
    (hs : Region.noSelect ops = true) (hf : Region.free md ops listed i = true) (hr : (Region.ready md ops listed).contains i = true)
    (hQ : ∀ c a w, Q (.panic c) (a.put (some d) v) w → Q (.panic c) a w) (hy : YieldsIf P ops S oi v ⟨tm, df⟩) (hS : S w)
    (h : wpAnyH P md ops Q S fuel (listed.setIfInBounds i true) ⟨tm.setIfInBounds d v, df⟩ w) : wpAnyH P md ops Q S (fuel + 1) listed ⟨tm, df⟩ w := by
  refine wpAnyH_take hi hs hf hr (by rw [hd]; exact hQ) hy hS ?_
  rw [hd]
  exact h
theorem wpOp_doG {P : Program} {ops : Array Oper} {Q : Exit → Act → World → Prop} {K : Act → World → Prop} {a : Act} {w : World} {o : Oper} (i : Nat) (ho : ops[i]? = some o) (hg : Region.wanted o (yielded ops a.tmps) = true) (h : o.wp P a w K Q) : wpOp P ops Q i K a w := by
  unfold wpOp
  rw [ho]
  show if Region.wanted o (yielded ops a.tmps) then _ else _
  rw [if_pos hg]
  exact .inl h

set_option maxRecDepth 100000 in
set_option maxHeartbeats 4000000 in
theorem law_writes (va vb : Value) (A Bl : List Int) (w : World) (hK : Kt w) (hva : Sl w va A) (hvb : Sl w vb Bl)
    (na : ∀ n c, va = .slice none n c → n = 0 ∧ c = 0) (nb : ∀ n c, vb = .slice none n c → n = 0 ∧ c = 0) :
    Calls Tryd.prog 8 #[va, vb] w fun en w' => en = .returned (.bool true) ∧ Below w.heap.size w w' := by
  obtain ⟨a, ca, hvaa, hlA⟩ : ∃ a cap, va = .slice a A.length cap ∧ A.length ≤ 9223372036854775807 := by obtain ⟨a, c, h, _, h', _⟩ := hva; exact ⟨a, c, h, h'⟩
  obtain ⟨b, cb, hvbb, hlB⟩ : ∃ a cap, vb = .slice a Bl.length cap ∧ Bl.length ≤ 9223372036854775807 := by obtain ⟨a, c, h, _, h', _⟩ := hvb; exact ⟨a, c, h, h'⟩
  subst hvaa
  subst hvbb
  obtain ⟨NA, hNA⟩ : ∃ N, N = A.length := ⟨_, rfl⟩
  obtain ⟨NB, hNB⟩ : ∃ N, N = Bl.length := ⟨_, rfl⟩
  rw [← hNA] at hlA hva na ⊢
  rw [← hNB] at hlB hvb nb ⊢
  have HA : Hid (Sl w (.slice a NA ca) A) := hva
  have HB : Hid (Sl w (.slice b NB cb) Bl) := hvb
  have HNA : Hid (NA = A.length) := hNA
  have HNB : Hid (NB = Bl.length) := hNB
  have HnA : Hid (∀ n c, Value.slice a NA ca = .slice none n c → n = 0 ∧ c = 0) := na
  have hk0 := hK.pos
  clear hva hvb hNA hNB na nb
  go_enter Tryd.func8, Tryd.ntmps8
  go_wp2_with fail
  refine (wakes_any _ hK).mono ?_
  rintro e w1 ⟨rfl, hb1⟩
  by_cases hbA : 300 < NA
  · have hbA' : (300 : Int) < (NA : Int) := by omega
    go_wp2
    go_ret
    exact ⟨rfl, hb1⟩
  have hbA' : ¬ (300 : Int) < (NA : Int) := by omega
  by_cases hbB : 300 < NB
  · have hbB' : (300 : Int) < (NB : Int) := by omega
    go_wp2
    go_ret
    exact ⟨rfl, hb1⟩
  have hbB' : ¬ (300 : Int) < (NB : Int) := by omega
  go_wp2_with fail
  refine (new_any _).mono ?_
  rintro e w3 ⟨g, rfl, hg3, H3, hb3⟩
  have hb3w := below_next hb1 hb3
  have qg : w.heap.size ≤ g := by have := hb1.size; omega
  have HI : Hid (Has w3 g (A.take 0) ∧ Below w.heap.size w w3) := ⟨H3, hb3w⟩
  clear hb1 hb3 hb3w H3
  go_wp2_with fail
  go_loopw [23] (fun i wr => ∃ k : Nat, k ≤ NA ∧ i = .int .i64 k ∧ Hid (Has wr g (A.take k) ∧ Below w.heap.size w wr)) (fun i _ => NA - (intOf i).toNat)
  case atStart => exact ⟨0, by omega, rfl, HI.out⟩
  case round =>
    clear HI
    obtain ⟨k, hk, rfl, HI⟩ := hrel
    by_cases hlt : k < NA
    · have hlt' : (k : Int) < (NA : Int) := by omega
      have hkA : k < A.length := by rw [← HNA.out]; exact hlt
      obtain ⟨g0, off, rfl, hbs, hcell, hbd⟩ : ∃ g0 off, a = some ⟨g0, off, none⟩ ∧ g0 < w.heap.size ∧ w.cell? ⟨g0, off + k, none⟩ = some (.int .u8 (nth A k)) ∧ (0 ≤ nth A k ∧ nth A k ≤ 255) := by
        obtain ⟨a', c, hv, hx, _, _, hr⟩ := HA.out
        obtain ⟨b', off, rfl, hb, hc⟩ := hr (by omega)
        injection hv with h0 _ _
        exact ⟨b', off, h0, hb, hc k hkA, nth_bd hx k⟩
      obtain ⟨H, hb⟩ := HI.out
      have c1 : wr.cell? ⟨g0, off + k, none⟩ = some (.int .u8 (nth A k)) := (hb.cell (p := ⟨g0, off + k, none⟩) hbs).trans hcell
      have HT : Hid (A.take k ++ [nth A k] = A.take (k + 1)) := take_next A k hkA
      clear hcell H hb
      generalize nth A k = x at c1 hbd HT
      go_wp2_with fail
      have s1 := sl_one wr x hbd 5
      have hb1 : Below wr.heap.size wr (wr.alloc (.cells #[.int .u8 x] 5)) := (Below.refl _ _).alloc (Nat.le_refl _) _
      generalize wr.alloc (.cells #[.int .u8 x] 5) = w4 at s1 hb1 ⊢
      obtain ⟨H, hb⟩ := HI.out
      have hg1 := H.lt
      have hb4 := below_next hb hb1
      refine (write_any g (A.take k) [x] _ w4 (hK.below hb4 hk0) (by omega) (H.later hb1) s1 (fun b' off' n' cap' he _ => by injection he with he _ _; injection he with he; injection he with he _ _; omega) (by simp; omega)).mono ?_
      rintro e w5 ⟨rfl, H5, o5⟩
      rw [HT.out] at H5
      have HJ : Hid (Has w5 g (A.take (k + 1)) ∧ Below w.heap.size w w5) := ⟨H5, below_only hb4 o5 qg (Nat.le_refl _)⟩
      clear H hb hb1 hb4 H5 o5 s1 c1 HI hg1
      go_wp2
      exact ⟨⟨k + 1, by omega, by go_num, HJ.out⟩, by simp [intOf]; omega⟩
    · have hk' : k = NA := by omega
      subst hk'
      have ht : A.take k = A := by rw [HNA.out, List.take_length]
      rw [ht] at HI
      obtain ⟨H, hb⟩ := HI.out
      have hlA' : A.length ≤ 300 := by rw [← HNA.out]; omega
      have hlB' : Bl.length ≤ 300 := by rw [← HNB.out]; omega
      clear HI ht
      obtain ⟨X, hX⟩ : ∃ X, X = sumB A := ⟨_, rfl⟩
      have h32 : X.length = 32 := by rw [hX]; unfold sumB; rw [dgs_len]
      have h24 : (Tryd.prog.info? 24).map (·.size) = some X.length := by rw [h32]; exact Tryd.size24
      have HX : Hid (sumB A = X) := hX.symm
      clear hX
      go_wp2_with fail
      refine (hsum_any g A _ (hK.below hb hk0) H (by omega)).mono ?_
      rintro e w6 ⟨rfl, hb6⟩
      rw [HX.out]
      have H6 := H.later hb6
      have hb6w := below_next hb hb6
      have HH6 : Hid (Has w6 g A ∧ Below w.heap.size w w6) := ⟨H6, hb6w⟩
      have hg6 := H6.lt
      clear H hb hb6 H6 hb6w
      go_wp2_with (first
        | ((with_reducible refine wp_allocD 8 24 .u8 32 Tryd.zero24 ?_ ?_); (exact ⟨rfl, rfl, rfl⟩); intro p8 w7 hg7 r7 hb7)
        | ((with_reducible refine wp_storeR 24 (.tmp 8) (.tmp 33) p8 .u8 (List.replicate 32 0) X h24 ?_ ?_ ?_ ?_ r7 ?_); (rw [h32]; rfl); (exact ⟨rfl, rfl⟩); (exact rfl); (exact rfl); intro w8 r8 o8))
      have H8 : Has w8 g A := (HH6.out.1.later hb7).only o8 (by omega)
      have hb8 := below_only (below_next HH6.out.2 hb7) o8 (show w.heap.size ≤ p8 by omega) (Nat.le_refl _)
      have q8 : g < p8 := by omega
      clear hb7 o8 r7 HH6 hg7
      refine (has_len g A _ H8).mono ?_
      rintro e w9 ⟨rfl, rfl⟩
      rw [← HNA.out]
      go_wp2_with fail
      refine (write_any g A Bl _ w9 (hK.below hb8 hk0) (by omega) H8 (HB.out.later hb8) (sl_apart (B := 0) HB.out qg) (by omega)).mono ?_
      rintro e w10 ⟨rfl, H10, o10⟩
      have r10 := r8.only o10 (by omega)
      have hb10 := below_only hb8 o10 qg (Nat.le_refl _)
      have HW : Wr p8 g X (A ++ Bl) A Bl (.slice a k ca) (.slice b NB cb) w { w10 with drawn := w10.drawn + 1 } :=
        ⟨r10, (hK.below hb10 hk0 : Kt w10), H10, (HA.out.later hb10 : Sl w10 _ _), (HB.out.later hb10 : Sl w10 _ _), ⟨hb10.os, hb10.tape, hb10.output, hb10.size, hb10.block⟩⟩
      clear H8 r8 hb8 H10 o10 r10 hb10
      obtain ⟨Y, hY⟩ : ∃ Y, Y = sumB (A ++ Bl) := ⟨_, rfl⟩
      have y32 : Y.length = 32 := by rw [hY]; unfold sumB; rw [dgs_len]
      have HY : Hid (sumB (A ++ Bl) = Y) := hY.symm
      have HY2 : Hid (sumB ([A, Bl] : List (List Int)).flatten = Y) := by show _ = _; rw [hY]; simp
      clear hY
      have uk : IntKind.u64.wrap (k : Int) = k := by rw [IntKind.wrap_u64]; omega
      obtain ⟨M, hM⟩ : ∃ M, M = k + NB := ⟨_, rfl⟩
      have eM : (k : Int) + (NB : Int) = (M : Int) := by omega
      have wM : IntKind.i64.wrap (M : Int) = M := wrap_small _ (by omega) (by omega)
      have uM : IntKind.u64.wrap (M : Int) = M := by rw [IntKind.wrap_u64]; omega
      have HM : Hid (((A ++ Bl).length : Int) = (M : Int)) := by show _ = _; rw [List.length_append, ← HNA.out, ← HNB.out]; omega
      have hAB : (A ++ Bl).length ≤ 900000 := by rw [List.length_append]; omega
      have hAB2 : ([A, Bl] : List (List Int)).flatten.length ≤ 900000 := by simp; omega
      clear hM
      have x1 := fun (x y : Operand) (w : World) => eqg24 X x y w
      have x2 := fun (w : World) => eq24 X h32 w
      have y1 := fun (x y : Operand) (w : World) => eqg24 Y x y w
      have y2 := fun (w : World) => eq24 Y y32 w
      go_wp2_with fail
      refine wp_region_held (S := Wr p8 g X (A ++ Bl) A Bl (.slice a k ca) (.slice b NB cb) w) Tryd.mixed ?_
      generalize ({ w10 with drawn := w10.drawn + 1 } : World) = wd at HW ⊢
      refine takeH 1 40 (.slice a k ca) rfl rfl (by kernel_rfl) (by kernel_rfl) (by kernel_rfl) (fun c a w h => h) (.inl ⟨rfl, fun w _ => rfl⟩) HW ?_
      simp only [List.setIfInBounds_toArray, List.set_cons_zero, List.set_cons_succ]
      refine takeH 0 39 (arr .u8 X) rfl rfl (by kernel_rfl) (by kernel_rfl) (by kernel_rfl) (fun c a w h => h) (yieldsIf_load_mid rfl 24 (.tmp 8) rfl p8 0 rfl (cellsK .u8 X) _ (fun w h => h.1.range) Tryd.underlying24 rfl (by rw [cellsK_len]; exact h24)) HW ?_
      simp only [List.setIfInBounds_toArray, List.set_cons_zero, List.set_cons_succ]
      refine wpAnyH_all (rs := [2]) (by kernel_rfl) (by simp) (fun i hi => ?_)
      obtain rfl : i = 2 := by simpa using hi
      refine wpOp_doG 2 (by rfl) (by rfl) ?_
      go_wp2_with fail
      refine (rsum_any _ A _ HW.2.2.2.1 HnA.out (by omega)).mono ?_
      rintro e w11 ⟨rfl, hb11⟩
      rw [HX.out]
      refine ⟨HW.later hb11, ?_⟩
      replace HW := HW.later hb11
      clear hb11
      refine takeH 3 42 (.bool true) rfl rfl (by kernel_rfl) (by kernel_rfl) (by kernel_rfl) (fun c a w h => h) (.inl ⟨rfl, fun w _ => by go_simp⟩) HW ?_
      simp only [List.setIfInBounds_toArray, List.set_cons_zero, List.set_cons_succ]
      refine takeH 4 43 (.bool true) rfl rfl (by kernel_rfl) (by kernel_rfl) (by kernel_rfl) (fun c a w h => h) (.inl ⟨rfl, fun w _ => rfl⟩) HW ?_
      simp only [List.setIfInBounds_toArray, List.set_cons_zero, List.set_cons_succ]
      refine takeH 5 44 (.int .u64 k) rfl rfl (by kernel_rfl) (by kernel_rfl) (by kernel_rfl) (fun c a w h => h) (.inl ⟨rfl, fun w _ => rfl⟩) HW ?_
      simp only [List.setIfInBounds_toArray, List.set_cons_zero, List.set_cons_succ]
      refine takeH 6 45 (.slice a k ca) rfl rfl (by kernel_rfl) (by kernel_rfl) (by kernel_rfl) (fun c a w h => h) (.inl ⟨rfl, fun w _ => rfl⟩) HW ?_
      simp only [List.setIfInBounds_toArray, List.set_cons_zero, List.set_cons_succ]
      refine takeH 7 46 (.int .i64 k) rfl rfl (by kernel_rfl) (by kernel_rfl) (by kernel_rfl) (fun c a w h => h) (.inl ⟨rfl, fun w _ => by go_simp⟩) HW ?_
      simp only [List.setIfInBounds_toArray, List.set_cons_zero, List.set_cons_succ]
      refine takeH 8 47 (.int .u64 k) rfl rfl (by kernel_rfl) (by kernel_rfl) (by kernel_rfl) (fun c a w h => h) (.inl ⟨rfl, fun w _ => by go_simp⟩) HW ?_
      simp only [List.setIfInBounds_toArray, List.set_cons_zero, List.set_cons_succ]
      refine takeH 9 48 (.bool true) rfl rfl (by kernel_rfl) (by kernel_rfl) (by kernel_rfl) (fun c a w h => h) (.inl ⟨rfl, fun w _ => by go_simp⟩) HW ?_
      simp only [List.setIfInBounds_toArray, List.set_cons_zero, List.set_cons_succ]
      refine takeH 10 49 (.bool true) rfl rfl (by kernel_rfl) (by kernel_rfl) (by kernel_rfl) (fun c a w h => h) (.inl ⟨rfl, fun w _ => by go_simp⟩) HW ?_
      simp only [List.setIfInBounds_toArray, List.set_cons_zero, List.set_cons_succ]
      refine takeH 11 50 (.bool true) rfl rfl (by kernel_rfl) (by kernel_rfl) (by kernel_rfl) (fun c a w h => h) (.inl ⟨rfl, fun w _ => rfl⟩) HW ?_
      simp only [List.setIfInBounds_toArray, List.set_cons_zero, List.set_cons_succ]
      refine takeH 12 51 (.pointer (some ⟨g, 0, none⟩)) rfl rfl (by kernel_rfl) (by kernel_rfl) (by kernel_rfl) (fun c a w h => h) (.inl ⟨rfl, fun w _ => rfl⟩) HW ?_
      simp only [List.setIfInBounds_toArray, List.set_cons_zero, List.set_cons_succ]
      refine takeH 14 53 (.slice a k ca) rfl rfl (by kernel_rfl) (by kernel_rfl) (by kernel_rfl) (fun c a w h => h) (.inl ⟨rfl, fun w _ => rfl⟩) HW ?_
      simp only [List.setIfInBounds_toArray, List.set_cons_zero, List.set_cons_succ]
      refine takeH 15 54 (.slice b NB cb) rfl rfl (by kernel_rfl) (by kernel_rfl) (by kernel_rfl) (fun c a w h => h) (.inl ⟨rfl, fun w _ => rfl⟩) HW ?_
      simp only [List.setIfInBounds_toArray, List.set_cons_zero, List.set_cons_succ]
      refine wpAnyH_all (rs := [13, 16]) (by kernel_rfl) (by simp) (fun i hi => ?_)
      simp only [List.mem_cons, List.not_mem_nil, or_false] at hi
      rcases hi with rfl | rfl
      · refine wpOp_doG 13 (by rfl) (by rfl) ?_
        go_wp2_with fail
        refine (hsum_any g (A ++ Bl) _ HW.2.1 HW.2.2.1 hAB).mono ?_
        rintro e w12 ⟨rfl, hb⟩
        rw [HY.out]
        refine ⟨HW.later hb, ?_⟩
        replace HW := HW.later hb
        clear hb
        refine wpAnyH_all (rs := [16]) (by kernel_rfl) (by simp) (fun i hi => ?_)
        obtain rfl : i = 16 := by simpa using hi
        refine wpOp_doG 16 (by rfl) (by rfl) ?_
        go_wp2_with fail
        have hp := psl_two HW.2.2.2.1 HW.2.2.2.2.1 22
        have hb : Below w12.heap.size w12 (w12.alloc (.cells #[.slice a k ca, .slice b NB cb] 22)) := (Below.refl _ _).alloc (Nat.le_refl _) _
        generalize w12.alloc (.cells #[.slice a k ca, .slice b NB cb] 22) = w13 at hp hb ⊢
        refine ⟨HW.later hb, ?_⟩
        replace HW := HW.later hb
        clear hb
        refine wpAnyH_all (rs := [17]) (by kernel_rfl) (by simp) (fun i hi => ?_)
        obtain rfl : i = 17 := by simpa using hi
        refine wpOp_doG 17 (by rfl) (by rfl) ?_
        go_wp2_with fail
        refine (sum_any _ [A, Bl] _ HW.2.1 hp hAB2).mono ?_
        rintro e w14 ⟨rfl, hb⟩
        rw [HY2.out]
        refine ⟨HW.later hb, ?_⟩
        replace HW := HW.later hb
        clear hb hp
        refine takeH 18 57 (.bool true) rfl rfl (by kernel_rfl) (by kernel_rfl) (by kernel_rfl) (fun c a w h => h) (.inl ⟨rfl, fun w _ => by go_simp⟩) HW ?_
        simp only [List.setIfInBounds_toArray, List.set_cons_zero, List.set_cons_succ]
        refine takeH 19 58 (.bool true) rfl rfl (by kernel_rfl) (by kernel_rfl) (by kernel_rfl) (fun c a w h => h) (.inl ⟨rfl, fun w _ => by go_simp⟩) HW ?_
        simp only [List.setIfInBounds_toArray, List.set_cons_zero, List.set_cons_succ]
        refine takeH 20 59 (.bool true) rfl rfl (by kernel_rfl) (by kernel_rfl) (by kernel_rfl) (fun c a w h => h) (.inl ⟨rfl, fun w _ => rfl⟩) HW ?_
        simp only [List.setIfInBounds_toArray, List.set_cons_zero, List.set_cons_succ]
        refine takeH 21 60 (.pointer (some ⟨g, 0, none⟩)) rfl rfl (by kernel_rfl) (by kernel_rfl) (by kernel_rfl) (fun c a w h => h) (.inl ⟨rfl, fun w _ => rfl⟩) HW ?_
        simp only [List.setIfInBounds_toArray, List.set_cons_zero, List.set_cons_succ]
        refine takeH 23 62 (.pointer (some ⟨g, 0, none⟩)) rfl rfl (by kernel_rfl) (by kernel_rfl) (by kernel_rfl) (fun c a w h => h) (.inl ⟨rfl, fun w _ => rfl⟩) HW ?_
        simp only [List.setIfInBounds_toArray, List.set_cons_zero, List.set_cons_succ]
        refine wpAnyH_all (rs := [22]) (by kernel_rfl) (by simp) (fun i hi => ?_)
        obtain rfl : i = 22 := by simpa using hi
        refine wpOp_doG 22 (by rfl) (by rfl) ?_
        go_wp2_with fail
        refine (hsum_any g (A ++ Bl) _ HW.2.1 HW.2.2.1 hAB).mono ?_
        rintro e w15 ⟨rfl, hb⟩
        rw [HY.out]
        refine ⟨HW.later hb, ?_⟩
        replace HW := HW.later hb
        clear hb
        refine wpAnyH_all (rs := [24]) (by kernel_rfl) (by simp) (fun i hi => ?_)
        obtain rfl : i = 24 := by simpa using hi
        refine wpOp_doG 24 (by rfl) (by rfl) ?_
        go_wp2_with fail
        refine (hsum_any g (A ++ Bl) _ HW.2.1 HW.2.2.1 hAB).mono ?_
        rintro e w16 ⟨rfl, hb⟩
        rw [HY.out]
        refine ⟨HW.later hb, ?_⟩
        replace HW := HW.later hb
        clear hb
        refine takeH 25 64 (.bool true) rfl rfl (by kernel_rfl) (by kernel_rfl) (by kernel_rfl) (fun c a w h => h) (.inl ⟨rfl, fun w _ => by go_simp⟩) HW ?_
        simp only [List.setIfInBounds_toArray, List.set_cons_zero, List.set_cons_succ]
        refine takeH 26 65 (.bool true) rfl rfl (by kernel_rfl) (by kernel_rfl) (by kernel_rfl) (fun c a w h => h) (.inl ⟨rfl, fun w _ => by go_simp⟩) HW ?_
        simp only [List.setIfInBounds_toArray, List.set_cons_zero, List.set_cons_succ]
        refine takeH 27 66 (.bool true) rfl rfl (by kernel_rfl) (by kernel_rfl) (by kernel_rfl) (fun c a w h => h) (.inl ⟨rfl, fun w _ => rfl⟩) HW ?_
        simp only [List.setIfInBounds_toArray, List.set_cons_zero, List.set_cons_succ]
        refine takeH 28 67 (.pointer (some ⟨g, 0, none⟩)) rfl rfl (by kernel_rfl) (by kernel_rfl) (by kernel_rfl) (fun c a w h => h) (.inl ⟨rfl, fun w _ => rfl⟩) HW ?_
        simp only [List.setIfInBounds_toArray, List.set_cons_zero, List.set_cons_succ]
        refine takeH 30 69 (.slice a k ca) rfl rfl (by kernel_rfl) (by kernel_rfl) (by kernel_rfl) (fun c a w h => h) (.inl ⟨rfl, fun w _ => rfl⟩) HW ?_
        simp only [List.setIfInBounds_toArray, List.set_cons_zero, List.set_cons_succ]
        refine takeH 31 70 (.int .i64 k) rfl rfl (by kernel_rfl) (by kernel_rfl) (by kernel_rfl) (fun c a w h => h) (.inl ⟨rfl, fun w _ => by go_simp⟩) HW ?_
        simp only [List.setIfInBounds_toArray, List.set_cons_zero, List.set_cons_succ]
        refine takeH 32 71 (.slice b NB cb) rfl rfl (by kernel_rfl) (by kernel_rfl) (by kernel_rfl) (fun c a w h => h) (.inl ⟨rfl, fun w _ => rfl⟩) HW ?_
        simp only [List.setIfInBounds_toArray, List.set_cons_zero, List.set_cons_succ]
        refine takeH 33 72 (.int .i64 NB) rfl rfl (by kernel_rfl) (by kernel_rfl) (by kernel_rfl) (fun c a w h => h) (.inl ⟨rfl, fun w _ => by go_simp⟩) HW ?_
        simp only [List.setIfInBounds_toArray, List.set_cons_zero, List.set_cons_succ]
        refine takeH 34 73 (.int .i64 M) rfl rfl (by kernel_rfl) (by kernel_rfl) (by kernel_rfl) (fun c a w h => h) (.inl ⟨rfl, fun w _ => by go_simp⟩) HW ?_
        simp only [List.setIfInBounds_toArray, List.set_cons_zero, List.set_cons_succ]
        refine takeH 35 74 (.int .u64 M) rfl rfl (by kernel_rfl) (by kernel_rfl) (by kernel_rfl) (fun c a w h => h) (.inl ⟨rfl, fun w _ => by go_simp⟩) HW ?_
        simp only [List.setIfInBounds_toArray, List.set_cons_zero, List.set_cons_succ]
        refine wpAnyH_all (rs := [29]) (by kernel_rfl) (by simp) (fun i hi => ?_)
        obtain rfl : i = 29 := by simpa using hi
        refine wpOp_doG 29 (by rfl) (by rfl) ?_
        go_wp2_with fail
        refine (has_len g (A ++ Bl) _ HW.2.2.1).mono ?_
        rintro e w17 ⟨rfl, hw⟩
        rw [hw, HM.out]
        refine ⟨HW, ?_⟩
        clear hw
        refine takeH 36 75 (.bool true) rfl rfl (by kernel_rfl) (by kernel_rfl) (by kernel_rfl) (fun c a w h => h) (.inl ⟨rfl, fun w _ => by go_simp⟩) HW ?_
        simp only [List.setIfInBounds_toArray, List.set_cons_zero, List.set_cons_succ]
        refine takeH 37 76 (.bool true) rfl rfl (by kernel_rfl) (by kernel_rfl) (by kernel_rfl) (fun c a w h => h) (.inl ⟨rfl, fun w _ => by go_simp⟩) HW ?_
        simp only [List.setIfInBounds_toArray, List.set_cons_zero, List.set_cons_succ]
        refine takeH 38 4 (.bool true) rfl rfl (by kernel_rfl) (by kernel_rfl) (by kernel_rfl) (fun c a w h => h) (.inl ⟨rfl, fun w _ => rfl⟩) HW ?_
        simp only [List.setIfInBounds_toArray, List.set_cons_zero, List.set_cons_succ]
        refine wpAnyH_done (by kernel_rfl) ?_ _
        go_wp2
        go_ret
        exact ⟨rfl, HW.2.2.2.2.2⟩
      · refine wpOp_doG 16 (by rfl) (by rfl) ?_
        go_wp2_with fail
        have hp := psl_two HW.2.2.2.1 HW.2.2.2.2.1 22
        have hb : Below w11.heap.size w11 (w11.alloc (.cells #[.slice a k ca, .slice b NB cb] 22)) := (Below.refl _ _).alloc (Nat.le_refl _) _
        generalize w11.alloc (.cells #[.slice a k ca, .slice b NB cb] 22) = w12 at hp hb ⊢
        refine ⟨HW.later hb, ?_⟩
        replace HW := HW.later hb
        clear hb
        refine wpAnyH_all (rs := [13]) (by kernel_rfl) (by simp) (fun i hi => ?_)
        obtain rfl : i = 13 := by simpa using hi
        refine wpOp_doG 13 (by rfl) (by rfl) ?_
        go_wp2_with fail
        refine (hsum_any g (A ++ Bl) _ HW.2.1 HW.2.2.1 hAB).mono ?_
        rintro e w13 ⟨rfl, hb⟩
        rw [HY.out]
        refine ⟨HW.later hb, ?_⟩
        replace hp := hp.later hb
        replace HW := HW.later hb
        clear hb
        refine wpAnyH_all (rs := [17]) (by kernel_rfl) (by simp) (fun i hi => ?_)
        obtain rfl : i = 17 := by simpa using hi
        refine wpOp_doG 17 (by rfl) (by rfl) ?_
        go_wp2_with fail
        refine (sum_any _ [A, Bl] _ HW.2.1 hp hAB2).mono ?_
        rintro e w14 ⟨rfl, hb⟩
        rw [HY2.out]
        refine ⟨HW.later hb, ?_⟩
        replace HW := HW.later hb
        clear hb hp
        refine takeH 18 57 (.bool true) rfl rfl (by kernel_rfl) (by kernel_rfl) (by kernel_rfl) (fun c a w h => h) (.inl ⟨rfl, fun w _ => by go_simp⟩) HW ?_
        simp only [List.setIfInBounds_toArray, List.set_cons_zero, List.set_cons_succ]
        refine takeH 19 58 (.bool true) rfl rfl (by kernel_rfl) (by kernel_rfl) (by kernel_rfl) (fun c a w h => h) (.inl ⟨rfl, fun w _ => by go_simp⟩) HW ?_
        simp only [List.setIfInBounds_toArray, List.set_cons_zero, List.set_cons_succ]
        refine takeH 20 59 (.bool true) rfl rfl (by kernel_rfl) (by kernel_rfl) (by kernel_rfl) (fun c a w h => h) (.inl ⟨rfl, fun w _ => rfl⟩) HW ?_
        simp only [List.setIfInBounds_toArray, List.set_cons_zero, List.set_cons_succ]
        refine takeH 21 60 (.pointer (some ⟨g, 0, none⟩)) rfl rfl (by kernel_rfl) (by kernel_rfl) (by kernel_rfl) (fun c a w h => h) (.inl ⟨rfl, fun w _ => rfl⟩) HW ?_
        simp only [List.setIfInBounds_toArray, List.set_cons_zero, List.set_cons_succ]
        refine takeH 23 62 (.pointer (some ⟨g, 0, none⟩)) rfl rfl (by kernel_rfl) (by kernel_rfl) (by kernel_rfl) (fun c a w h => h) (.inl ⟨rfl, fun w _ => rfl⟩) HW ?_
        simp only [List.setIfInBounds_toArray, List.set_cons_zero, List.set_cons_succ]
        refine wpAnyH_all (rs := [22]) (by kernel_rfl) (by simp) (fun i hi => ?_)
        obtain rfl : i = 22 := by simpa using hi
        refine wpOp_doG 22 (by rfl) (by rfl) ?_
        go_wp2_with fail
        refine (hsum_any g (A ++ Bl) _ HW.2.1 HW.2.2.1 hAB).mono ?_
        rintro e w15 ⟨rfl, hb⟩
        rw [HY.out]
        refine ⟨HW.later hb, ?_⟩
        replace HW := HW.later hb
        clear hb
        refine wpAnyH_all (rs := [24]) (by kernel_rfl) (by simp) (fun i hi => ?_)
        obtain rfl : i = 24 := by simpa using hi
        refine wpOp_doG 24 (by rfl) (by rfl) ?_
        go_wp2_with fail
        refine (hsum_any g (A ++ Bl) _ HW.2.1 HW.2.2.1 hAB).mono ?_
        rintro e w16 ⟨rfl, hb⟩
        rw [HY.out]
        refine ⟨HW.later hb, ?_⟩
        replace HW := HW.later hb
        clear hb
        refine takeH 25 64 (.bool true) rfl rfl (by kernel_rfl) (by kernel_rfl) (by kernel_rfl) (fun c a w h => h) (.inl ⟨rfl, fun w _ => by go_simp⟩) HW ?_
        simp only [List.setIfInBounds_toArray, List.set_cons_zero, List.set_cons_succ]
        refine takeH 26 65 (.bool true) rfl rfl (by kernel_rfl) (by kernel_rfl) (by kernel_rfl) (fun c a w h => h) (.inl ⟨rfl, fun w _ => by go_simp⟩) HW ?_
        simp only [List.setIfInBounds_toArray, List.set_cons_zero, List.set_cons_succ]
        refine takeH 27 66 (.bool true) rfl rfl (by kernel_rfl) (by kernel_rfl) (by kernel_rfl) (fun c a w h => h) (.inl ⟨rfl, fun w _ => rfl⟩) HW ?_
        simp only [List.setIfInBounds_toArray, List.set_cons_zero, List.set_cons_succ]
        refine takeH 28 67 (.pointer (some ⟨g, 0, none⟩)) rfl rfl (by kernel_rfl) (by kernel_rfl) (by kernel_rfl) (fun c a w h => h) (.inl ⟨rfl, fun w _ => rfl⟩) HW ?_
        simp only [List.setIfInBounds_toArray, List.set_cons_zero, List.set_cons_succ]
        refine takeH 30 69 (.slice a k ca) rfl rfl (by kernel_rfl) (by kernel_rfl) (by kernel_rfl) (fun c a w h => h) (.inl ⟨rfl, fun w _ => rfl⟩) HW ?_
        simp only [List.setIfInBounds_toArray, List.set_cons_zero, List.set_cons_succ]
        refine takeH 31 70 (.int .i64 k) rfl rfl (by kernel_rfl) (by kernel_rfl) (by kernel_rfl) (fun c a w h => h) (.inl ⟨rfl, fun w _ => by go_simp⟩) HW ?_
        simp only [List.setIfInBounds_toArray, List.set_cons_zero, List.set_cons_succ]
        refine takeH 32 71 (.slice b NB cb) rfl rfl (by kernel_rfl) (by kernel_rfl) (by kernel_rfl) (fun c a w h => h) (.inl ⟨rfl, fun w _ => rfl⟩) HW ?_
        simp only [List.setIfInBounds_toArray, List.set_cons_zero, List.set_cons_succ]
        refine takeH 33 72 (.int .i64 NB) rfl rfl (by kernel_rfl) (by kernel_rfl) (by kernel_rfl) (fun c a w h => h) (.inl ⟨rfl, fun w _ => by go_simp⟩) HW ?_
        simp only [List.setIfInBounds_toArray, List.set_cons_zero, List.set_cons_succ]
        refine takeH 34 73 (.int .i64 M) rfl rfl (by kernel_rfl) (by kernel_rfl) (by kernel_rfl) (fun c a w h => h) (.inl ⟨rfl, fun w _ => by go_simp⟩) HW ?_
        simp only [List.setIfInBounds_toArray, List.set_cons_zero, List.set_cons_succ]
        refine takeH 35 74 (.int .u64 M) rfl rfl (by kernel_rfl) (by kernel_rfl) (by kernel_rfl) (fun c a w h => h) (.inl ⟨rfl, fun w _ => by go_simp⟩) HW ?_
        simp only [List.setIfInBounds_toArray, List.set_cons_zero, List.set_cons_succ]
        refine wpAnyH_all (rs := [29]) (by kernel_rfl) (by simp) (fun i hi => ?_)
        obtain rfl : i = 29 := by simpa using hi
        refine wpOp_doG 29 (by rfl) (by rfl) ?_
        go_wp2_with fail
        refine (has_len g (A ++ Bl) _ HW.2.2.1).mono ?_
        rintro e w17 ⟨rfl, hw⟩
        rw [hw, HM.out]
        refine ⟨HW, ?_⟩
        clear hw
        refine takeH 36 75 (.bool true) rfl rfl (by kernel_rfl) (by kernel_rfl) (by kernel_rfl) (fun c a w h => h) (.inl ⟨rfl, fun w _ => by go_simp⟩) HW ?_
        simp only [List.setIfInBounds_toArray, List.set_cons_zero, List.set_cons_succ]
        refine takeH 37 76 (.bool true) rfl rfl (by kernel_rfl) (by kernel_rfl) (by kernel_rfl) (fun c a w h => h) (.inl ⟨rfl, fun w _ => by go_simp⟩) HW ?_
        simp only [List.setIfInBounds_toArray, List.set_cons_zero, List.set_cons_succ]
        refine takeH 38 4 (.bool true) rfl rfl (by kernel_rfl) (by kernel_rfl) (by kernel_rfl) (fun c a w h => h) (.inl ⟨rfl, fun w _ => rfl⟩) HW ?_
        simp only [List.setIfInBounds_toArray, List.set_cons_zero, List.set_cons_succ]
        refine wpAnyH_done (by kernel_rfl) ?_ _
        go_wp2
        go_ret
        exact ⟨rfl, HW.2.2.2.2.2⟩
end Go.Proofs.YtbfbhdhffdddeaaDoor
