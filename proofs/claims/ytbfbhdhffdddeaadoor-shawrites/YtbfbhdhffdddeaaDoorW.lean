/- The walk of ShaParts. Conditions: the table holds the rounds' numbers. -/
import Derived.Test.YtbfbhdhffdddeaaDoorT
import Derived.Test.YtbfbhdhffdddeaaDoorU
namespace Go.Proofs.YtbfbhdhffdddeaaDoor
open Go.RowKit Hx
set_option linter.unusedVariables false

/-- in the world w the slice v has the parts ps, and a part that is nil has no bytes -/
def PSn (w : World) (v : Value) (ps : List (List Int)) : Prop :=
  ∃ (a : Option Addr) (cap : Nat), v = .slice a ps.length cap ∧ ps.length ≤ 9223372036854775807 ∧ ps.length ≤ cap ∧
    (0 < ps.length → ∃ b off, a = some ⟨b, off, none⟩ ∧ b < w.heap.size ∧ ∀ i, i < ps.length → ∃ u, w.cell? ⟨b, off + i, none⟩ = some u ∧ Sl w u (part ps i) ∧ ∀ n c, u = .slice none n c → n = 0 ∧ c = 0)
theorem PSn.psl {w : World} {v : Value} {ps : List (List Int)} (h : PSn w v ps) : PSl w v ps := by
  obtain ⟨a, cap, hv, h1, h2, h3⟩ := h
  refine ⟨a, cap, hv, h1, h2, fun h0 => ?_⟩
  obtain ⟨b, off, ha, hb, hc⟩ := h3 h0
  exact ⟨b, off, ha, hb, fun i hi => by obtain ⟨u, h4, h5, _⟩ := hc i hi; exact ⟨u, h4, h5⟩⟩
theorem PSn.later {w w' : World} {v : Value} {ps : List (List Int)} (h : PSn w v ps) (hb : Below w.heap.size w w') : PSn w' v ps := by
  obtain ⟨a, cap, hv, h1, h2, h3⟩ := h
  refine ⟨a, cap, hv, h1, h2, fun h0 => ?_⟩
  obtain ⟨b, off, ha, hbs, hc⟩ := h3 h0
  refine ⟨b, off, ha, Nat.lt_of_lt_of_le hbs hb.size, fun i hi => ?_⟩
  obtain ⟨u, h4, h5, h6⟩ := hc i hi
  exact ⟨u, (hb.cell (p := ⟨b, off + i, none⟩) hbs).trans h4, h5.later hb, h6⟩

theorem own_nil_form {w : World} {base : Nat} {v : Value} {xs : List Int} (h : Hx.Own w base v xs) : ∀ n c, v = .slice none n c → n = 0 ∧ c = 0 := by
  intro n c hv
  rcases h.2 with ⟨h, _⟩ | ⟨g, cap, cur, h, _⟩
  · rw [hv] at h; injection h with _ h1 h2; exact ⟨h1, h2⟩
  · rw [hv] at h; injection h with h0 _ _; cases h0

/-- a part as a list of cells, empty or not -/
theorem sl_cells' {w : World} {a : Option Addr} {n c : Nat} {xs : List Int} (h : Sl w (.slice a n c) xs) (ad : Addr) (ha : a = some ad) :
    ∀ j u, (cells8 xs)[j]? = some u → w.cell? (ad.add j) = some u := by
  intro j u hj
  have hj' : j < xs.length := by have := (List.getElem?_eq_some_iff.1 hj).1; rw [cells8_len] at this; exact this
  obtain ⟨b, off, cap, hv, _, hc⟩ := sl_cells h (by omega)
  cases ha
  cases hv
  exact hc j u hj

set_option maxRecDepth 100000 in
set_option maxHeartbeats 4000000 in
theorem law_parts (v : Value) (ps : List (List Int)) (w : World) (hK : Kt w) (hv : PSn w v ps) :
    Calls Tryd.prog 7 #[v] w fun en w' => en = .returned (.bool true) ∧ Below w.heap.size w w' := by
  obtain ⟨i0, hi, hz0, hz1, hz2⟩ := info_parts Tryd.info5
  obtain ⟨ad, cap, hvv, hlen⟩ : ∃ a cap, v = .slice a ps.length cap ∧ ps.length ≤ 9223372036854775807 := by obtain ⟨a, c, h, h', _⟩ := hv; exact ⟨a, c, h, h'⟩
  subst hvv
  obtain ⟨L, hL⟩ : ∃ L, L = ps.length := ⟨_, rfl⟩
  rw [← hL] at hlen hv ⊢
  have HV : Hid (PSn w (.slice ad L cap) ps) := hv
  have HL : Hid (L = ps.length) := hL
  clear hv hL
  go_enter Tryd.func7, Tryd.ntmps7
  go_wp2_with fail
  refine (wakes_any _ hK).mono ?_
  rintro e w1 ⟨rfl, hb1⟩
  by_cases hbig : 20 < L
  · have hbig' : (20 : Int) < (L : Int) := by omega
    go_wp2
    go_ret
    exact ⟨rfl, hb1⟩
  · have hbig' : ¬ (20 : Int) < (L : Int) := by omega
    go_wp2_with fail
    go_loopw [3, 13] (fun al i wr => ∃ k : Nat, k ≤ L ∧ i = .int .i64 k ∧ Hid (Hx.Own wr w.heap.size al ((ps.take k).flatten) ∧ ((ps.take k).flatten).length ≤ 200 * k ∧ Below w.heap.size w wr)) (fun _ i _ => L - (intOf i).toNat)
    case atStart => exact ⟨0, by omega, rfl, World.ownsRow_nil _ _ _ _, by simp, hb1⟩
    case round =>
      clear hb1
      obtain ⟨k, hk, rfl, HI⟩ := hrel
      by_cases hlt : k < L
      · have hlp : k < ps.length := by rw [← HL.out]; exact hlt
        obtain ⟨b, off, rfl, hbs, u, hu, hsu, hnu⟩ : ∃ b off, ad = some ⟨b, off, none⟩ ∧ b < w.heap.size ∧ ∃ u, w.cell? ⟨b, off + k, none⟩ = some u ∧ Sl w u (part ps k) ∧ ∀ n c, u = .slice none n c → n = 0 ∧ c = 0 := by
          obtain ⟨a, c, hv, _, _, hr⟩ := HV.out
          obtain ⟨b, off, rfl, hb, hc⟩ := hr (by omega)
          obtain ⟨u, h1, h2, h3⟩ := hc k hlp
          injection hv with h0 _ _
          exact ⟨b, off, h0, hb, u, h1, h2, h3⟩
        obtain ⟨M, hM⟩ : ∃ M, M = (part ps k).length := ⟨_, rfl⟩
        obtain ⟨au, cu, rfl⟩ : ∃ a c, u = .slice a M c := by obtain ⟨a, c, h, _⟩ := hsu; rw [← hM] at h; exact ⟨a, c, h⟩
        have hcell : wr.cell? ⟨b, off + k, none⟩ = some (.slice au M cu) := (HI.out.2.2.cell (p := ⟨b, off + k, none⟩) hbs).trans hu
        have hlt' : (k : Int) < (L : Int) := by omega
        have HM : Hid (M = (part ps k).length) := hM
        have HS : Hid (Sl wr (.slice au M cu) (part ps k)) := hsu.later HI.out.2.2
        have hMl : M ≤ 9223372036854775807 := by obtain ⟨_, _, _, _, h, _⟩ := hsu; omega
        clear hu hsu hM
        by_cases hm : 200 < M
        · have hm' : (200 : Int) < (M : Int) := by omega
          go_wp2
          go_ret
          exact ⟨rfl, HI.out.2.2⟩
        · have hm' : ¬ (200 : Int) < (M : Int) := by omega
          obtain ⟨N, hN⟩ : ∃ N, N = ((ps.take k).flatten).length := ⟨_, rfl⟩
          have HN : Hid (N = ((ps.take k).flatten).length) := hN
          have hNb : N ≤ 200 * k := by rw [hN]; exact HI.out.2.1
          have hN2 : N ≤ 4000 := by omega
          have HO : Hid (wr.ownsRow w.heap.size 5 1 u3 N (cells8 ((ps.take k).flatten))) := by
            have := HI.out.1; unfold Hx.Own at this; rw [← hN] at this; exact this
          have hbase : w.heap.size ≤ wr.heap.size := HI.out.2.2.size
          have HC : Hid (∀ ad, au = some ad → ∀ j u, (cells8 (part ps k))[j]? = some u → wr.cell? (ad.add j) = some u) := fun ad ha => sl_cells' HS.out ad ha
          clear hN
          cases au with
          | none =>
            obtain ⟨hM0, hcu⟩ := hnu _ _ rfl
            subst hM0
            subst hcu
            have hp0 : part ps k = [] := List.eq_nil_of_length_eq_zero HM.out.symm
            have HF : Hid ((ps.take (k + 1)).flatten = (ps.take k).flatten) := by
              have := flat_next ps k hlp; rw [hp0, List.append_nil] at this; exact this
            clear hnu
            go_wp2_with (at_builtin; refine wpList_append_own_none rfl (.tmp 20) (.tmp 21) 22 rfl w.heap.size 5 i0 1 Tryd.underlying22 hi u3 N (cells8 ((ps.take k).flatten)) rfl HO.out rfl ?_)
            refine ⟨⟨k + 1, by omega, by go_num, ?_⟩, by simp [intOf]; omega⟩
            refine ⟨by rw [HF.out]; exact HI.out.1, by rw [HF.out]; have := HI.out.2.1; omega, HI.out.2.2⟩
          | some ad =>
            have HF : Hid ((ps.take (k + 1)).flatten = (ps.take k).flatten ++ part ps k) := flat_next ps k hlp
            clear hnu
            have h1 : (cells8 (part ps k)).length = M * 1 := by rw [cells8_len, HM.out, Nat.mul_one]
            go_wp2_with (at_builtin; refine wpList_append_own _ rfl (.tmp 20) (.tmp 21) 22 rfl w.heap.size 5 i0 (.int .u8 0) 1 1 Tryd.underlying22 hi hz0 hz1 hz2 rfl (by decide) u3 N (cells8 ((ps.take k).flatten)) rfl HO.out ad M cu (cells8 (part ps k)) rfl h1 (HC.out ad rfl) (cells8_one _) (by unfold maxLen; omega) (by omega) hbase ?_; intro v' w' hown' hgrow _)
            have hb' : Below w.heap.size w w' := HI.out.2.2.grown hgrow hbase (fun q h => (World.ownsRow.lt HO.out q h).1)
            have HO' : Hx.Own w' w.heap.size v' ((ps.take (k + 1)).flatten) := by
              unfold Hx.Own
              rw [HF.out, ← cells8_app, List.length_append, ← HN.out, ← HM.out]
              exact hown'
            have hl' : ((ps.take (k + 1)).flatten).length ≤ 200 * (k + 1) := by
              rw [HF.out, List.length_append, ← HN.out, ← HM.out]; omega
            clear hown' hgrow
            go_wp2
            exact ⟨⟨k + 1, by omega, by go_num, HO', hl', hb'⟩, by simp [intOf]; omega⟩
      · have hk' : k = L := by omega
        subst hk'
        obtain ⟨S, hS⟩ : ∃ S, sumB ps.flatten = S := ⟨_, rfl⟩
        have h32 : S.length = 32 := by rw [← hS]; unfold sumB; rw [dgs_len]
        have HS : Hid (sumB ps.flatten = S) := hS
        have ht : ps.take k = ps := by rw [HL.out, List.take_length]
        rw [ht] at HI
        obtain ⟨own, hle, hb⟩ := HI.out
        have hby : By ps.flatten := by
          intro x hx
          obtain ⟨p, hp, hxp⟩ := List.mem_flatten.1 hx
          obtain ⟨i, hi', rfl⟩ := List.getElem_of_mem hp
          obtain ⟨a, c, hv, _, _, hr⟩ := HV.out
          obtain ⟨b, off, rfl, hb, hc⟩ := hr (by omega)
          obtain ⟨u, _, ⟨_, _, _, h2, _⟩, _⟩ := hc i hi'
          rw [part_eq ps i hi'] at h2
          exact h2 x hxp
        clear hS HI ht
        go_wp2_with fail
        refine (sum_any _ ps wr (hK.below hb hK.pos) (HV.out.later hb).psl (by omega)).mono ?_
        rintro e w5 ⟨rfl, hb5⟩
        rw [HS.out]
        have s5 : Sl w5 u3 ps.flatten := (Sl.of_own own hby (by omega)).later hb5
        have n5 := own_nil_form own
        have hb6 := below_next hb hb5
        clear own hb hb5
        go_wp2_with fail
        refine (rsum_any _ ps.flatten w5 s5 n5 (by omega)).mono ?_
        rintro e w7 ⟨rfl, hb7⟩
        rw [HS.out]
        have hb8 := below_next hb6 hb7
        clear hb6 hb7 s5 n5
        have e1 := fun (w : World) => eqg24 S (.tmp 25) (.tmp 27) w
        have e2 := fun (w : World) => eq24 S h32 w
        go_wp2
        go_ret
        exact ⟨rfl, hb8⟩
end Go.Proofs.YtbfbhdhffdddeaaDoor
