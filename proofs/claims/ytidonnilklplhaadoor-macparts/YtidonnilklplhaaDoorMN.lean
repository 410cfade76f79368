/- The walk of MacParts. Conditions: the table holds the rounds' numbers. -/
import Derived.Test.YtidonnilklplhaaDoorML
namespace Go.Proofs.YtidonnilklplhaaDoor
open Go.RowKit Hx
set_option linter.unusedVariables false

theorem few_flat {ps : List (List Int)} (h : Few ps) : ∀ k, k ≤ ps.length → ((ps.take k).flatten).length ≤ 300 * k := by
  intro k
  induction k with
  | zero => intro _; simp
  | succ k ih =>
    intro hk
    rw [flat_next ps k (by omega), List.length_append]
    have := ih (by omega)
    have := h.2 k (by omega)
    omega
theorem few_all {ps : List (List Int)} (h : Few ps) : ps.flatten.length ≤ 6000 := by
  have := few_flat h ps.length (Nat.le_refl _)
  rw [List.take_length] at this
  have := h.1
  omega
theorem psn_by {w : World} {v : Value} {ps : List (List Int)} (h : PSn w v ps) : By ps.flatten := by
  intro x hx
  obtain ⟨p, hp, hxp⟩ := List.mem_flatten.1 hx
  obtain ⟨i, hi', rfl⟩ := List.getElem_of_mem hp
  obtain ⟨a, c, hv, _, _, hr⟩ := h
  obtain ⟨b, off, rfl, hb, hc⟩ := hr (by omega)
  obtain ⟨u, _, ⟨_, _, _, h2, _⟩, _⟩ := hc i hi'
  rw [part_eq ps i hi'] at h2
  exact h2 x hxp

set_option maxRecDepth 100000 in
set_option maxHeartbeats 4000000 in
theorem law_parts (v u : Value) (key : List Int) (ps : List (List Int)) (w : World) (hK : Kt w) (hv : Sl w v key) (hnv : ∀ n c, v = .slice none n c → n = 0 ∧ c = 0) (hu : PSn w u ps) :
    Calls Tryd.prog 5 #[v, u] w fun en w' => en = .returned (.bool true) ∧ Below w.heap.size w w' := by
  have hk0 := hK.pos
  obtain ⟨a, na, ca, rfl⟩ := sl_form hv
  obtain ⟨ad, cap, hvv, hlen⟩ : ∃ a cap, u = .slice a ps.length cap ∧ ps.length ≤ 9223372036854775807 := by obtain ⟨a, c, h, h', _⟩ := hu; exact ⟨a, c, h, h'⟩
  subst hvv
  obtain ⟨L, hL⟩ : ∃ L, L = ps.length := ⟨_, rfl⟩
  rw [← hL] at hlen hu ⊢
  have HU : Hid (PSn w (.slice ad L cap) ps) := hu
  have HV : Hid (Sl w (.slice a na ca) key) := hv
  have HN : Hid (∀ n c, Value.slice a na ca = .slice none n c → n = 0 ∧ c = 0) := hnv
  have HL : Hid (L = ps.length) := hL
  clear hu hv hnv hL
  go_enter Tryd.func5, Tryd.ntmps5
  go_wp2_with fail
  refine (wakes_any _ hK).mono ?_
  rintro e w1 ⟨rfl, hb1⟩
  go_wp2_with fail
  have p2 := psl_one (HV.out.later hb1) (.cells #[.slice a na ca] 22) ⟨_, rfl⟩
  have hb2 : Below w1.heap.size w1 (w1.alloc (.cells #[.slice a na ca] 22)) := (Below.refl _ _).alloc (Nat.le_refl _) _
  generalize w1.alloc (.cells #[.slice a na ca] 22) = w2 at p2 hb2 ⊢
  have hB2 := below_next hb1 hb2
  refine (great_any _ [key] w2 p2).mono ?_
  rintro e w3 ⟨bb, rfl, hf, rfl⟩
  cases bb with
  | true =>
    go_wp2
    go_ret
    exact ⟨rfl, hB2⟩
  | false =>
    have hkey : key.length ≤ 300 := (hf rfl).2 0 (by simp)
    clear hb1 hb2 p2 hf
    go_wp2_with fail
    refine (great_any _ ps w3 (HU.out.later hB2).psl).mono ?_
    rintro e w4 ⟨bb, rfl, hf, rfl⟩
    cases bb with
    | true =>
      go_wp2
      go_ret
      exact ⟨rfl, hB2⟩
    | false =>
      have hfew := hf rfl
      have HF : Hid (Few ps) := hfew
      have h20 : L ≤ 20 := by rw [HL.out]; exact hfew.1
      clear hf hfew
      have HI : Hid (Hx.Own w4 w.heap.size (.slice none 0 0) ((ps.take 0).flatten) ∧ Below w.heap.size w w4) := ⟨World.ownsRow_nil _ _ _ _, hB2⟩
      clear hB2
      go_wp2_with fail
      go_loopw [5, 19] (fun al i wr => ∃ k : Nat, k ≤ L ∧ i = .int .i64 k ∧ Hid (Hx.Own wr w.heap.size al ((ps.take k).flatten) ∧ Below w.heap.size w wr)) (fun _ i _ => L - (intOf i).toNat)
      case atStart => exact ⟨0, by omega, rfl, HI.out⟩
      case round =>
        clear HI
        obtain ⟨k, hk, rfl, HI⟩ := hrel
        by_cases hlt : k < L
        · have hlp : k < ps.length := by rw [← HL.out]; exact hlt
          obtain ⟨b, off, rfl, hbs, x, hx, hsx, hnx⟩ : ∃ b off, ad = some ⟨b, off, none⟩ ∧ b < w.heap.size ∧ ∃ u, w.cell? ⟨b, off + k, none⟩ = some u ∧ Sl w u (part ps k) ∧ ∀ n c, u = .slice none n c → n = 0 ∧ c = 0 := by
            obtain ⟨a, c, hv, _, _, hr⟩ := HU.out
            obtain ⟨b, off, rfl, hb, hc⟩ := hr (by omega)
            obtain ⟨u, h1, h2, h3⟩ := hc k hlp
            injection hv with h0 _ _
            exact ⟨b, off, h0, hb, u, h1, h2, h3⟩
          have hcell : wr.cell? ⟨b, off + k, none⟩ = some x := (HI.out.2.cell (p := ⟨b, off + k, none⟩) hbs).trans hx
          have hlt' : (k : Int) < (L : Int) := by omega
          have HS : Hid (Sl wr x (part ps k)) := hsx.later HI.out.2
          have HNX : Hid (∀ n c, x = .slice none n c → n = 0 ∧ c = 0) := hnx
          have hp300 : (part ps k).length ≤ 300 := HF.out.2 k hlp
          have hfl := few_flat HF.out k (by omega)
          have hbase : w.heap.size ≤ wr.heap.size := HI.out.2.size
          have HFN : Hid ((ps.take (k + 1)).flatten = (ps.take k).flatten ++ part ps k) := flat_next ps k hlp
          have HO : Hid (Hx.Own wr w.heap.size u5 ((ps.take k).flatten)) := HI.out.1
          clear hx hsx hnx
          go_wp2_with (at_builtin; refine wpList_appendS rfl (.tmp 23) (.tmp 24) rfl w.heap.size u5 ((ps.take k).flatten) rfl HO.out x (part ps k) rfl HS.out HNX.out (by omega) hbase ?_; intro v' w' hown' hgrow)
          have hb' : Below w.heap.size w w' := HI.out.2.grown hgrow hbase (fun q h => (World.ownsRow.lt HO.out q h).1)
          have HO' : Hx.Own w' w.heap.size v' ((ps.take (k + 1)).flatten) := by rw [HFN.out]; exact hown'
          clear hown' hgrow
          refine ⟨⟨k + 1, by omega, by go_num, HO', hb'⟩, by simp [intOf]; omega⟩
        · have hk' : k = L := by omega
          subst hk'
          obtain ⟨S, hS⟩ : ∃ S, sealB key ps.flatten = S := ⟨_, rfl⟩
          have h32 : S.length = 32 := by rw [← hS]; exact sealB_len _ _
          have HS : Hid (sealB key ps.flatten = S) := hS
          have ht : ps.take k = ps := by rw [HL.out, List.take_length]
          rw [ht] at HI
          obtain ⟨own, hb⟩ := HI.out
          have hall := few_all HF.out
          clear hS HI ht
          go_wp2_with fail
          refine (msum_any _ _ key ps wr (hK.below hb hk0) (HV.out.later hb) (HU.out.later hb).psl (by omega) (by omega)).mono ?_
          rintro e w5 ⟨rfl, hb5⟩
          rw [HS.out]
          have s5 : Sl w5 u5 ps.flatten := (Sl.of_own own (psn_by HU.out) (by omega)).later hb5
          have n5 := own_nil_form own
          have hb6 := below_next hb hb5
          clear own hb hb5
          go_wp2_with fail
          refine (rmsum_any _ _ key ps.flatten w5 (HV.out.later hb6) HN.out s5 n5 (by omega) (by omega)).mono ?_
          rintro e w7 ⟨rfl, hb7⟩
          rw [HS.out]
          have hb8 := below_next hb6 hb7
          clear hb6 hb7 s5 n5
          have e1 := fun (w : World) => eqg24 S (.tmp 29) (.tmp 32) w
          have e2 := fun (w : World) => eq24 S h32 w
          go_wp2
          go_ret
          exact ⟨rfl, hb8⟩
end Go.Proofs.YtidonnilklplhaaDoor
