/- The walk of ShaChains. Conditions: the table holds the rounds' numbers. -/
import Derived.Test.YtbfbhdhffdddeaaDoorW
import Derived.Test.YtbfbhdhffdddeaaDoorS
import Derived.BigQuiet
namespace Go.Proofs.YtbfbhdhffdddeaaDoor
open Go.RowKit Hx
set_option linter.unusedVariables false

/-- in the world w the slice v has the blocks bs -/
def BSl (w : World) (v : Value) (bs : List (List Int)) : Prop :=
  ∃ (a : Option Addr) (cap : Nat), v = .slice a bs.length cap ∧ bs.length ≤ 9223372036854775807 ∧ bs.length ≤ cap ∧ (∀ b ∈ bs, Blk b) ∧
    (0 < bs.length → ∃ b off, a = some ⟨b, off, none⟩ ∧ b < w.heap.size ∧ ∀ i, i < bs.length → w.rangeAt b (off + i * 64) (cellsK .u8 (part bs i)))

theorem flat_blocks : ∀ (bs : List (List Int)), (∀ b ∈ bs, b.length = 64) → bs.flatten.length = 64 * bs.length
  | [], _ => rfl
  | b :: r, h => by
    have := flat_blocks r (fun c hc => h c (by simp [hc]))
    have := h b (by simp)
    simp only [List.flatten_cons, List.length_append, List.length_cons]
    omega
theorem flat_block : ∀ (bs : List (List Int)), (∀ b ∈ bs, b.length = 64) → ∀ k, k < bs.length → (bs.flatten.drop (64 * k)).take 64 = part bs k
  | b :: r, h, 0, _ => by
    have := h b (by simp)
    simp [part, List.flatten_cons]
    rw [List.take_append_of_le_length (by omega), List.take_of_length_le (by omega)]
  | b :: r, h, k + 1, hk => by
    have hb := h b (by simp)
    have := flat_block r (fun c hc => h c (by simp [hc])) k (by simpa using hk)
    rw [List.flatten_cons, show 64 * (k + 1) = b.length + 64 * k by omega, ← List.drop_drop, List.drop_left, this]
    rfl

theorem tn_succ (l : List Int) (k : Nat) : tn l (k + 1) = turn (tn l k) ((l.drop (64 * k)).take 64) := rfl
theorem noughts_full (m : Nat) (n : Int) (h : n = 64 * m) : noughts n = 55 := by
  unfold noughts; omega
/-- the digest of whole blocks -/
theorem sum_blocks (X : List Int) (L : Nat) (h : X.length = 64 * L) (n : Int) (hn : n = X.length) : sumB X = dgs (turn (tn X L) (padB n)) 8 := by
  have hp : (padB n).length = 64 := by rw [padB_len, noughts_full L n (by omega)]
  have hP : padded X = X ++ padB n := by rw [hn]; rfl
  have hl : (padded X).length / 64 = L + 1 := by rw [hP, List.length_append, hp]; omega
  have e1 : tn (padded X) L = tn X L := by rw [hP]; exact tn_app X _ L (by omega)
  have e2 : ((padded X).drop (64 * L)).take 64 = padB n := by rw [hP, ← h, List.drop_left, List.take_of_length_le (by omega)]
  unfold sumB
  rw [hl, tn_succ, e1, e2]

theorem own_only {w w' : World} {base g : Nat} {v : Value} {xs : List Int} (h : Hx.Own w base v xs) (ho : Only g w w') (hg : g < base) : Hx.Own w' base v xs := by
  obtain ⟨h1, h2⟩ := h
  refine ⟨h1, ?_⟩
  rcases h2 with h | ⟨q, cap, cur, hv, hq, hh, hr⟩
  · exact .inl h
  · have hl := (Array.getElem?_eq_some_iff.1 hh).1
    exact .inr ⟨q, cap, cur, hv, hq, (ho.block q hl (by omega)).trans hh, hr⟩
theorem own_n {w : World} {base N : Nat} {v : Value} {xs : List Int} (h : Hx.Own w base v xs) (hN : N = xs.length) : w.ownsRow base 5 1 v N (cells8 xs) := by subst hN; exact h
theorem row_cells8 {w : World} {g : Nat} {xs : List Int} (h : Row w g .u8 xs) : ∀ j u, (cells8 xs)[j]? = some u → w.cell? ((⟨g, 0, none⟩ : Addr).add j) = some u := by
  intro j u hj
  have hj' : j < xs.length := by have := (List.getElem?_eq_some_iff.1 hj).1; rw [cells8_len] at this; exact this
  rw [Addr.add_mid, Nat.zero_add, h.cell j hj', ← hj, cells8_at xs j hj']
theorem Tryd.zero30 : (Tryd.prog.info? 30).bind (·.zero) = some (arr .u8 (List.replicate 64 0)) := by kernel_rfl

set_option maxRecDepth 100000 in
set_option maxHeartbeats 4000000 in
theorem law_chains (v : Value) (bs : List (List Int)) (w : World) (hK : Kt w) (hv : BSl w v bs) :
    Calls Tryd.prog 9 #[v] w fun en w' => en = .returned (.bool true) ∧ Below w.heap.size w w' := by
  obtain ⟨i0, hi, hz0, hz1, hz2⟩ := info_parts Tryd.info5
  obtain ⟨ad, cap, hvv, hlen, hcap, hblk, hr⟩ := hv
  subst hvv
  obtain ⟨L, hL⟩ : ∃ L, L = bs.length := ⟨_, rfl⟩
  rw [← hL] at hlen hcap hr ⊢
  have HR : Hid (0 < L → ∃ b off, ad = some ⟨b, off, none⟩ ∧ b < w.heap.size ∧ ∀ i, i < L → w.rangeAt b (off + i * 64) (cellsK .u8 (part bs i))) := hr
  have HL : Hid (L = bs.length) := hL
  have HB : Hid (∀ b ∈ bs, Blk b) := hblk
  have h64 : ∀ b ∈ bs, b.length = 64 := fun b hb => (hblk b hb).1
  have HX : Hid (bs.flatten.length = 64 * L) := by have := flat_blocks bs h64; rw [← hL] at this; exact this
  have HP : Hid (∀ k, k < L → (bs.flatten.drop (64 * k)).take 64 = part bs k) := fun k hk => flat_block bs h64 k (by omega)
  have h8 : (Tryd.prog.info? 29).map (·.size) = some startP.length := Tryd.size29
  have hk0 := hK.pos
  clear hr hL hblk h64
  go_enter Tryd.func9, Tryd.ntmps9
  go_wp2_with fail
  refine (wakes_any _ hK).mono ?_
  rintro e w1 ⟨rfl, hb1⟩
  by_cases hbig : 8 < L
  · have hbig' : (8 : Int) < (L : Int) := by omega
    go_wp2
    go_ret
    exact ⟨rfl, hb1⟩
  · have hbig' : ¬ (8 : Int) < (L : Int) := by omega
    go_wp2_with fail
    refine (start_any _).mono ?_
    rintro e w2 ⟨rfl, hb2⟩
    have hb3 := below_next hb1 hb2
    clear hb1 hb2
    go_wp2_with (first
      | ((with_reducible refine wp_allocD 3 29 .u32 8 Tryd.zero29 ?_ ?_); (exact ⟨rfl, rfl, rfl⟩); intro p3 w4 hg4 r4 hb4)
      | ((with_reducible refine wp_storeR 29 (.tmp 3) (.tmp 16) p3 .u32 (List.replicate 8 0) startP h8 ?_ ?_ ?_ ?_ r4 ?_); (exact rfl); (exact ⟨rfl, rfl⟩); (exact rfl); (exact rfl); intro w5 r5 o5))
    have q3 : w.heap.size ≤ p3 := by have := hb3.size; omega
    have hb6 := below_only (below_next hb3 hb4) o5 q3 (Nat.le_refl _)
    have HI : Hid (Row w5 p3 .u32 (tn bs.flatten 0) ∧ Below w.heap.size w w5) := ⟨r5, hb6⟩
    have q5 : p3 < w5.heap.size := r5.lt
    obtain ⟨B, hB⟩ : ∃ B, B = w5.heap.size := ⟨_, rfl⟩
    have hsz0 : w.heap.size ≤ B := by rw [hB]; exact hb6.size
    rw [← hB] at q5
    have HBB : Hid (B ≤ w5.heap.size) := Nat.le_of_eq hB
    clear hB
    clear hb3 hb4 o5 r5 r4 hg4 hb6
    go_loopw [4, 19] (fun al i wr => ∃ k : Nat, k ≤ L ∧ i = .int .i64 k ∧ Hid (Hx.Own wr B al ((bs.take k).flatten) ∧ ((bs.take k).flatten).length = 64 * k ∧ Row wr p3 .u32 (tn bs.flatten k) ∧ B ≤ wr.heap.size ∧ Below w.heap.size w wr)) (fun _ i _ => L - (intOf i).toNat)
    case atStart => exact ⟨0, by omega, rfl, World.ownsRow_nil _ _ _ _, by simp, HI.out.1, HBB.out, HI.out.2⟩
    case round =>
      clear HI HBB
      obtain ⟨k, hk, rfl, HI⟩ := hrel
      by_cases hlt : k < L
      · have hlp : k < bs.length := by rw [← HL.out]; exact hlt
        obtain ⟨b, off, rfl, hbs, hc⟩ := HR.out (by omega)
        have hlt' : (k : Int) < (L : Int) := by omega
        have hBk : Blk (part bs k) := by rw [part_eq bs k hlp]; exact HB.out _ (List.getElem_mem hlp)
        have hst := tn_st bs.flatten k
        have s30 : (Tryd.prog.info? 30).map (·.size) = some (part bs k).length := by rw [hBk.1]; exact Tryd.size30
        have s29 : (Tryd.prog.info? 29).map (·.size) = some (tn bs.flatten k).length := by rw [hst.1]; exact Tryd.size29
        have lB := hBk.1
        obtain ⟨own, hln, r3, hBr, hb⟩ := HI.out
        have hrk : wr.rangeAt b (off + k * 64) (cellsK .u8 (part bs k)) := fun j v hj => (hb.cell (p := ⟨b, off + k * 64 + j, none⟩) hbs).trans (hc k hlt j v hj)
        have l3 := r3.lt
        have HO : Hid (Hx.Own wr B u4 ((bs.take k).flatten) ∧ ((bs.take k).flatten).length = 64 * k) := ⟨own, hln⟩
        have HBw : Hid (Below w.heap.size w wr) := hb
        clear hc own hln hb HI
        go_wp2_with (first
          | ((with_reducible refine wp_loadM 30 (.tmp 21) b (off + k * 64) .u8 (part bs k) _ Tryd.underlying30 rfl s30 ?_ ?_ hrk ?_); (exact ⟨rfl, rfl⟩); (exact rfl))
          | ((with_reducible refine wp_allocD 6 30 .u8 64 Tryd.zero30 ?_ ?_); (exact ⟨rfl, rfl, rfl⟩); intro p6 w6 hg6 r6 hb6)
          | ((with_reducible refine wp_storeR 30 (.tmp 6) (.tmp 22) p6 .u8 (List.replicate 64 0) (part bs k) s30 ?_ ?_ ?_ ?_ r6 ?_); (rw [lB]; rfl); (exact ⟨rfl, rfl⟩); (exact rfl); (exact rfl); intro w7 r7 o7; have r3' := (r3.later hb6).only o7 (show p3 ≠ p6 by omega))
          | ((with_reducible refine wp_loadR 29 (.tmp 3) p3 .u32 (tn bs.flatten k) _ Tryd.underlying29 rfl s29 ?_ ?_ r3' ?_); (exact ⟨rfl, rfl⟩); (exact rfl))
          | ((with_reducible refine wp_loadR 30 (.tmp 6) p6 .u8 (part bs k) _ Tryd.underlying30 rfl s30 ?_ ?_ r7 ?_); (exact ⟨rfl, rfl⟩); (exact rfl)))
        have hb7 := below_only hb6 o7 (show wr.heap.size ≤ p6 from hg6) (Nat.le_refl _)
        have hb7w := below_next HBw.out hb7
        have hK7 := hK.below hb7w hk0
        refine (turn_any (tn bs.flatten k) (part bs k) hst hBk _ hK7).mono ?_
        rintro e w8 ⟨rfl, hb8⟩
        have hT : tn bs.flatten (k + 1) = turn (tn bs.flatten k) (part bs k) := by rw [tn_succ, HP.out k hlt]
        rw [← hT]
        have hst' := tn_st bs.flatten (k + 1)
        have s29' : (Tryd.prog.info? 29).map (·.size) = some (tn bs.flatten (k + 1)).length := by rw [hst'.1]; exact Tryd.size29
        have l29 : (tn bs.flatten k).length = (tn bs.flatten (k + 1)).length := by rw [hst.1, hst'.1]
        have r8 := r3'.later hb8
        have r78 := r7.later hb8
        have own8 := own_later (own_later HO.out.1 hb7) hb8
        have hb8w := below_next hb7w hb8
        have hB8 : B ≤ w8.heap.size := by have := hb7.size; have := hb8.size; omega
        have HOW : Hid (Hx.Own w8 B u4 ((bs.take k).flatten)) := own8
        have hln := HO.out.2
        obtain ⟨N, hN⟩ : ∃ N, N = ((bs.take k).flatten).length := ⟨_, rfl⟩
        have HN : Hid (N = ((bs.take k).flatten).length) := hN
        have HF : Hid ((bs.take (k + 1)).flatten = (bs.take k).flatten ++ part bs k) := flat_next bs k hlp
        have hN6 : N ≤ 600 := by omega
        have HNK : Hid (N = 64 * k) := hN.trans hln
        have l8 : (cells8 (part bs k)).length = 64 * 1 := by rw [cells8_len, lB]
        have HBk : Hid (Blk (part bs k)) := hBk
        have hsl := fun w => slice30a w p6
        clear own8 hb7w hb8 hb7 hb6 o7 r6 r7 r3 r3' hK7 hrk hN hln hst hst' HBw HO hT hBk
        go_wp2_with (first
          | ((with_reducible refine wp_storeR 29 (.tmp 3) (.tmp 25) p3 .u32 (tn bs.flatten k) (tn bs.flatten (k + 1)) s29' l29 ?_ ?_ ?_ r8 ?_); (exact ⟨rfl, rfl⟩); (exact rfl); (exact rfl); intro w9 r9 o9; have own9 := own_n (own_only HOW.out o9 q5) HN.out; have hc9 := row_cells8 (r78.only o9 (show p6 ≠ p3 by omega)); have hB9 : B ≤ w9.heap.size := Nat.le_trans hB8 o9.size)
          | (at_builtin; refine wpList_append_own _ rfl (.tmp 26) (.tmp 27) 22 rfl B 5 i0 (.int .u8 0) 1 1 Tryd.underlying22 hi hz0 hz1 hz2 rfl (by decide) u4 N (cells8 ((bs.take k).flatten)) rfl own9 ⟨p6, 0, none⟩ 64 64 (cells8 (part bs k)) rfl l8 hc9 (cells8_one _) (by unfold maxLen; omega) (by omega) hB9 ?_; intro v' w' hown' hgrow _))
        have hb9 := below_only hb8w o9 q3 (Nat.le_refl _)
        have hb' : Below w.heap.size w w' := hb9.grown hgrow (by omega) (fun q h => by have := (World.ownsRow.lt own9 q h).1; omega)
        have hbB : Below B w9 w' := (Below.refl B w9).grown hgrow hB9 (fun q h => (World.ownsRow.lt own9 q h).1)
        have r9' := r9.below hbB q5
        have HO' : Hx.Own w' B v' ((bs.take (k + 1)).flatten) := by
          unfold Hx.Own
          rw [HF.out, ← cells8_app, List.length_append, ← HN.out, HBk.out.1]
          exact hown'
        have hl' : ((bs.take (k + 1)).flatten).length = 64 * (k + 1) := by
          rw [HF.out, List.length_append, ← HN.out, HBk.out.1, HNK.out]; omega
        have hB' : B ≤ w'.heap.size := Nat.le_trans hB9 hbB.size
        have HJ : Hid (Hx.Own w' B v' ((bs.take (k + 1)).flatten) ∧ ((bs.take (k + 1)).flatten).length = 64 * (k + 1) ∧ Row w' p3 .u32 (tn bs.flatten (k + 1)) ∧ B ≤ w'.heap.size ∧ Below w.heap.size w w') := ⟨HO', hl', r9', hB', hb'⟩
        clear hown' hgrow hb9 hb' hbB r9' HO' hl' hB' own9 hc9 o9 r9 r8 r78 hb8w HOW
        go_wp2
        exact ⟨⟨k + 1, by omega, by go_num, HJ.out⟩, by simp [intOf]; omega⟩
      · have hk' : k = L := by omega
        subst hk'
        obtain ⟨X, hX⟩ : ∃ X, X = bs.flatten := ⟨_, rfl⟩
        have ht : (bs.take k).flatten = X := by rw [hX, HL.out, List.take_length]
        have hBX : By X := by
          intro x hx
          rw [hX] at hx
          obtain ⟨p, hp, hxp⟩ := List.mem_flatten.1 hx
          exact (HB.out p hp).2 x hxp
        rw [ht, ← hX] at HI
        obtain ⟨own, hln, r3, hBr, hb⟩ := HI.out
        clear HI HP HX ht HB HR
        obtain ⟨N, hN⟩ : ∃ N, N = X.length := ⟨_, rfl⟩
        have hN6 : N ≤ 600 := by omega
        obtain ⟨a4, c4, rfl⟩ : ∃ a c, u4 = .slice a N c := by
          rcases own.2 with ⟨h, h0⟩ | ⟨g, cp, cur, h, _⟩
          · exact ⟨none, 0, by rw [h, hN, h0]⟩
          · exact ⟨_, _, by rw [hN]; exact h⟩
        have hN0 : (0 : Int) ≤ (N : Int) := by omega
        have hN1 : (N : Int) ≤ 600 := by omega
        have uN : IntKind.u64.wrap (N : Int) = N := by rw [IntKind.wrap_u64]; omega
        have HSB : Hid (sumB X = dgs (turn (tn X k) (padB (N : Int))) 8) := sum_blocks X k hln _ (by rw [hN])
        have hpl : (padB (N : Int)).length = 64 := by rw [padB_len, noughts_full k _ (by omega)]
        have hst := tn_st X k
        have HX : Hid (N = X.length) := hN
        have HL2 : Hid (X.length ≤ 600) := by rw [← hN]; exact hN6
        clear hln hN hX
        generalize tn X k = S at *
        have hBP : Blk (padB (N : Int)) := ⟨hpl, padB_bd _⟩
        go_wp2_with fail
        refine (pad_any (N : Int) hN0 (by omega) _).mono ?_
        rintro e w6 ⟨v6, rfl, s6, hb6⟩
        generalize padB (N : Int) = Pd at *
        obtain ⟨b6, off6, cap6, hv6, hbs6, hcl6⟩ := sl_cells s6 (by omega)
        rw [hpl] at hv6
        subst hv6
        clear hcl6 hbs6
        have r36 := r3.later hb6
        have own6 := own_later own hb6
        have hb6w := below_next hb hb6
        have l36 := r36.lt
        have hB6 : B ≤ w6.heap.size := Nat.le_trans hBr hb6.size
        have hinf : (Tryd.prog.info? 5).map (·.size) = some 1 := by kernel_rfl
        have s30 : (Tryd.prog.info? 30).map (·.size) = some Pd.length := by rw [hpl]; exact Tryd.size30
        have s29 : (Tryd.prog.info? 29).map (·.size) = some S.length := by rw [hst.1]; exact Tryd.size29
        have hfit : 0 + 64 ≤ (List.replicate 64 (0 : Int)).length := by simp
        have hcp : (List.replicate 64 (0 : Int)).take 0 ++ Pd ++ (List.replicate 64 (0 : Int)).drop (0 + 64) = Pd := by simp
        have HO6 : Hid (Hx.Own w6 B (.slice a4 N c4) X ∧ Below w.heap.size w w6) := ⟨own6, hb6w⟩
        have HCP : Hid ((List.replicate 64 (0 : Int)).take 0 ++ Pd ++ (List.replicate 64 (0 : Int)).drop (0 + 64) = Pd) := hcp
        have hsl := fun (p : Nat) (w : World) => slice30a w p
        clear own own6 hb hb6 hb6w r3 hcp
        go_wp2_with (first
          | ((with_reducible refine wp_allocD 8 30 .u8 64 Tryd.zero30 ?_ ?_); (exact ⟨rfl, rfl, rfl⟩); intro p8 w7 hg7 r7 hb7; have hc7 := sl_cells' (s6.later hb7) ⟨b6, off6, none⟩ rfl; have r37 := r36.later hb7)
          | ((with_reducible refine wp_copyR (.tmp 37) (.tmp 38) 22 22 5 p8 0 64 64 ⟨b6, off6, none⟩ 64 cap6 (List.replicate 64 0) Pd ?_ ?_ ?_ Tryd.underlying22 hinf r7 hpl ?_ hfit hc7 ?_); (exact ⟨rfl, rfl⟩); (exact rfl); (exact rfl); (exact Nat.le_refl _); intro w8 r8 o8; rw [HCP.out] at r8; have r38 := r37.only o8 (show p3 ≠ p8 by omega))
          | ((with_reducible refine wp_loadR 29 (.tmp 3) p3 .u32 S _ Tryd.underlying29 rfl s29 ?_ ?_ r38 ?_); (exact ⟨rfl, rfl⟩); (exact rfl))
          | ((with_reducible refine wp_loadR 30 (.tmp 8) p8 .u8 Pd _ Tryd.underlying30 rfl s30 ?_ ?_ r8 ?_); (exact ⟨rfl, rfl⟩); (exact rfl)))
        have hb8 := below_only hb7 o8 (show w6.heap.size ≤ p8 from hg7) (Nat.le_refl _)
        have hb8w := below_next HO6.out.2 hb8
        refine (turn_any S Pd hst hBP _ (hK.below hb8w hk0)).mono ?_
        rintro e w9 ⟨rfl, hb9⟩
        have own9 := own_later (own_later HO6.out.1 hb8) hb9
        have hb9w := below_next hb8w hb9
        have r39 := r38.later hb9
        have hst9 := turn_st (blk := Pd) hst
        have HO9 : Hid (Hx.Own w9 B (.slice a4 N c4) X ∧ Below w.heap.size w w9) := ⟨own9, hb9w⟩
        generalize turn S Pd = S' at *
        have s29' : (Tryd.prog.info? 29).map (·.size) = some S'.length := by rw [hst9.1]; exact Tryd.size29
        have l29 : S.length = S'.length := by rw [hst.1, hst9.1]
        have hB9 : B ≤ w9.heap.size := by have := hb8.size; have := hb9.size; omega
        clear hb7 o8 hb8 hb8w hb9 own9 hb9w r8 r7 r38 hc7 HCP hst s6 r36 r37 hBP HO6 hsl s30 hpl
        go_wp2_with ((with_reducible refine wp_storeR 29 (.tmp 3) (.tmp 42) p3 .u32 S S' s29' l29 ?_ ?_ ?_ r39 ?_); (exact ⟨rfl, rfl⟩); (exact rfl); (exact rfl); intro w10 r10 o10)
        have own10 := own_only HO9.out.1 o10 q5
        have hb10 := below_only HO9.out.2 o10 q3 (Nat.le_refl _)
        have s10 : Sl w10 (.slice a4 N c4) X := Sl.of_own own10 hBX (by have := HL2.out; omega)
        have p11 := psl_one s10 (.cells #[.slice a4 N c4] 22) ⟨_, rfl⟩
        have hb11 : Below w10.heap.size w10 (w10.alloc (.cells #[.slice a4 N c4] 22)) := (Below.refl _ _).alloc (Nat.le_refl _) _
        have hsz10 := hb10.size
        generalize w10.alloc (.cells #[.slice a4 N c4] 22) = w11 at p11 hb11 ⊢
        have hb11w := below_next hb10 hb11
        refine (sum_any _ [X] w11 (hK.below hb11w hk0) p11 (by have := HL2.out; simp; omega)).mono ?_
        rintro e w12 ⟨rfl, hb12⟩
        have r12 := (r10.later hb11).later hb12
        have hb12w := below_next hb11w hb12
        have l12 := r12.lt
        rw [show sumB ([X] : List (List Int)).flatten = dgs S' 8 from by rw [← HSB.out]; simp]
        have hD := dgs_len S' 8
        obtain ⟨D, hDD⟩ : ∃ D, D = dgs S' 8 := ⟨_, rfl⟩
        have HD : Hid (D = dgs S' 8) := hDD
        rw [← hDD] at hD ⊢
        have h24 : (Tryd.prog.info? 24).map (·.size) = some D.length := by rw [hD]; exact Tryd.size24
        have HR12 : Hid (Row w12 p3 .u32 S' ∧ Below w.heap.size w w12) := ⟨r12, hb12w⟩
        clear hDD hb12 hb12w hb11 hb11w p11 s10 own10 hb10 o10 r10 r39 r12 HO9 HSB
        go_wp2_with (first
          | ((with_reducible refine wp_allocD 9 24 .u8 32 Tryd.zero24 ?_ ?_); (exact ⟨rfl, rfl, rfl⟩); intro p9 w13 hg13 r13 hb13)
          | ((with_reducible refine wp_storeR 24 (.tmp 9) (.tmp 45) p9 .u8 (List.replicate 32 0) D h24 ?_ ?_ ?_ ?_ r13 ?_); (rw [hD]; rfl); (exact ⟨rfl, rfl⟩); (exact rfl); (exact rfl); intro w14 r14 o14))
        have hb14 := below_only hb13 o14 (show w12.heap.size ≤ p9 from hg13) (Nat.le_refl _)
        have HI : Hid (Row w14 p3 .u32 S' ∧ Row w14 p9 .u8 D ∧ Below w.heap.size w w14) := ⟨HR12.out.1.later hb14, r14, below_next HR12.out.2 hb14⟩
        clear hb14 o14 r14 r13 hb13 hg13 HR12
        go_loopw [46] (fun i wr => ∃ m : Nat, m ≤ 32 ∧ i = .int .i64 m ∧ Hid (Row wr p3 .u32 S' ∧ Row wr p9 .u8 D ∧ Below w.heap.size w wr)) (fun i _ => 32 - (intOf i).toNat)
        case atStart => exact ⟨0, by omega, rfl, HI.out⟩
        case round =>
          clear HI
          obtain ⟨m, hm, rfl, HI⟩ := hrel
          by_cases hlt2 : m < 32
          · have hm' : (m : Int) < 32 := by omega
            have hm0 : (0 : Int) ≤ (m : Int) := by omega
            obtain ⟨r3, r9, hb⟩ := HI.out
            obtain ⟨q, hq⟩ : ∃ q, q = m / 4 := ⟨_, rfl⟩
            obtain ⟨r, hr'⟩ : ∃ r, r = m % 4 := ⟨_, rfl⟩
            obtain ⟨s, hs⟩ : ∃ s, s = 24 - 8 * r := ⟨_, rfl⟩
            have eq : (m : Int).tdiv 4 = (q : Int) := by rw [Int.tdiv_eq_ediv_of_nonneg hm0]; omega
            have er : (m : Int).tmod 4 = (r : Int) := by rw [Int.tmod_eq_emod_of_nonneg hm0]; omega
            have hq8 : (q : Int) < 8 := by omega
            have hq0 : (0 : Int) ≤ (q : Int) := by omega
            have wq : IntKind.i64.wrap (q : Int) = q := wrap_small _ (by omega) (by omega)
            have wr' : IntKind.i64.wrap (r : Int) = r := wrap_small _ (by omega) (by omega)
            have w8r : IntKind.i64.wrap (8 * (r : Int)) = 8 * (r : Int) := wrap_small _ (by omega) (by omega)
            have es : (24 : Int) - 8 * (r : Int) = (s : Int) := by omega
            have ws' : IntKind.i64.wrap (s : Int) = s := wrap_small _ (by omega) (by omega)
            have us : IntKind.u64.wrap (s : Int) = s := by rw [IntKind.wrap_u64]; omega
            have s0 : (0 : Int) ≤ (s : Int) := by omega
            have c3 : wr.drew.cell? ⟨p3, q, none⟩ = some (.int .u32 (nth S' q)) := r3.cell q (by rw [hst9.1]; omega)
            have c9 : wr.drew.cell? ⟨p9, m, none⟩ = some (.int .u8 (nth D m)) := r9.cell m (by omega)
            obtain ⟨x0, x1⟩ := nth_wd hst9.2 q
            have HX : Hid (nth S' q / 2 ^ s % 256 = nth D m) := by
              show _ = _; rw [hq, HD.out]; exact dgs_byte S' m s hlt2 (by omega)
            have hsh : Op.shift .shr .u32 (nth S' q) .u64 (s : Int) = pure (.int .u32 (nth S' q / 2 ^ s)) := by
              rw [shift_shr .u32 .u64 _ s (by omega) (by show (s : Int) ≤ 32; omega), Int.toNat_natCast]
            clear r3 r9 hb hq hr' hs
            generalize nth S' q = Y at c3 x0 x1 HX hsh
            generalize nth D m = Z at c9 HX
            have hwZ : IntKind.u8.wrap (Y / 2 ^ s) = Z := by rw [IntKind.wrap_u8]; exact HX.out
            go_wp2
            refine wp_region_still_lit Tryd.mixed (by kernel_rfl) ?_
            repeat still_step
            refine wpStill_nil ?_
            go_wp2
            obtain ⟨r3, r9, hb⟩ := HI.out
            exact ⟨⟨m + 1, by omega, by go_num, r3, r9, ⟨hb.os, hb.tape, hb.output, hb.size, hb.block⟩⟩, by simp [intOf]; omega⟩
          · obtain ⟨r3, r9, hb⟩ := HI.out
            go_wp2
            go_ret
            exact ⟨rfl, hb⟩
end Go.Proofs.YtbfbhdhffdddeaaDoor
