/- First faults are two; the walk of EventOne. Conditions: the tables lie in memory. -/
import Derived.Test.YtdboamfdipeapaaGreatDoorRE
import Derived.Test.YtdboamfdipeapaaGreatDoorEK
namespace Go.Proofs.YtdboamfdipeapaaGreatDoor
open Go.RowKit Go.PlainAid Ln
set_option linter.unusedVariables false
set_option linter.unusedSimpArgs false

def ok3 (e : Int) : Prop := e = 0 ∨ e = 2 ∨ e = 3
theorem kp3 {f e : Int} (h1 : ok3 f) (h2 : ok3 e) : ok3 (kp f e) := by
  unfold kp; split
  · exact h2
  · exact h1
theorem mf3 (b : Bool) : ok3 (mf b) := by
  cases b
  · exact .inr (.inl rfl)
  · exact .inl rfl
theorem cnt3 (s : ByteArray) (m : Int) : ok3 (cntR s m).2 := by
  unfold cntR
  split
  · split
    · exact .inl rfl
    · exact .inr (.inr rfl)
  · exact .inr (.inl rfl)
theorem sgn3 (s : ByteArray) : ok3 (sgnR s).2 := by
  by_cases hm : bt s 0 = 45
  · by_cases h : okD (tl s)
    · by_cases h0 : valN (tl s) (tl s).size = 0
      · rw [sgnR_nought hm h h0]; exact .inr (.inl rfl)
      · by_cases h1 : (valN (tl s) (tl s).size : Int) ≤ 9223372036854775808
        · rw [sgnR_neg hm h h1 h0]; exact .inl rfl
        · rw [sgnR_great hm h h1]; exact .inr (.inr rfl)
    · rw [sgnR_bad hm h]; exact .inr (.inl rfl)
  · rw [sgnR_plain hm]; exact cnt3 _ _
theorem par3 (s : ByteArray) : ok3 (parR s).2.2.2 := by
  by_cases h1 : s.toList = [126]
  · rw [parR_none h1]; exact .inl rfl
  by_cases h2 : s.toList = [84]
  · rw [parR_yes h2]; exact .inl rfl
  by_cases h3 : s.toList = [70]
  · rw [parR_no h3]; exact .inl rfl
  by_cases h4 : wordP s
  · rw [parR_word h1 h2 h3 h4]; exact .inl rfl
  by_cases h5 : (sgnR s).2 = 0
  · rw [parR_num h1 h2 h3 h4 h5]; exact .inl rfl
  · rw [parR_bad h1 h2 h3 h4 h5]; exact sgn3 s
theorem tk3 {d f : Int} {L : List (List UInt8)} (h : ok3 f) : ok3 (tkF d f L) := kp3 (kp3 h (par3 _)) (mf3 _)
theorem aF3 {ds : List Int} {f : Int} {L : List (List UInt8)} (h : ok3 f) : ∀ k, ok3 (aF ds f L k)
  | 0 => h
  | k + 1 => tk3 (aF3 h k)
theorem rF3 {f : Int} {L : List (List UInt8)} (h : ok3 f) : ∀ k, ok3 (rF f L k)
  | 0 => h
  | k + 1 => kp3 (rF3 h k) (par3 _)
theorem cF3 {f : Int} {L : List (List UInt8)} (h : ok3 f) : ok3 (cF f L) := kp3 (tk3 (kp3 h (mf3 _))) (mf3 _)
theorem e33 {f : Int} {L : List (List UInt8)} (h : ok3 f) : ok3 (e3 f L) := kp3 (tk3 (kp3 h (cnt3 _ _))) (mf3 _)
theorem eF3 (L : List (List UInt8)) : ok3 (eF 0 L) := by
  have h0 : ok3 0 := .inl rfl
  unfold eF
  split
  · exact kp3 (aF3 (cF3 (e33 h0)) _) (mf3 _)
  · split
    · exact rF3 (e33 h0) _
    · exact kp3 (e33 h0) (mf3 _)
theorem pE_fault {l : List UInt8} (h : (pE l).2 ≠ 0) : (pE l).1 = noEv ∧ ((pE l).2 = 2 ∨ (pE l).2 = 3) := by
  unfold pE at h ⊢
  split
  · rename_i c
    rw [if_pos c] at h
    exact absurd rfl h
  · rename_i c
    rw [if_neg c] at h
    split
    · rename_i d
      rw [if_pos d] at h
      exact ⟨rfl, (eF3 _).resolve_left h⟩
    · exact ⟨rfl, .inl rfl⟩
theorem pE_r (l : List UInt8) (h : l.length ≤ 800000) : (pE l).1.r.length ≤ 900000 := by
  have h1 := pcs_len 32 (noteR l).1
  have h2 := note_le l
  unfold pE
  split
  · show (eEv _).r.length ≤ _
    unfold eEv
    split
    · exact Nat.zero_le _
    · split
      · show (aV _ _).length ≤ _
        rw [aV_len, l3_eq, List.length_drop]; omega
      · exact Nat.zero_le _
  · split <;> exact Nat.zero_le _
theorem right_aO {x : Ev} (h : rightE x = true) : ∀ i, i < x.a.length → rV (nv x.a i) = true := by
  intro i hi
  simp only [rightE, Bool.and_eq_true] at h
  have h4 := h.2
  unfold typB at h4
  split at h4
  · simp only [Bool.and_eq_true] at h4
    exact takes_rV ((fitsL_t h4.1.2.2).2 i hi)
  · split at h4
    · simp only [Bool.and_eq_true, nonB, decide_eq_true_eq] at h4
      have := h4.1.2.2.2.2.2; omega
    · split at h4
      · simp only [Bool.and_eq_true, nonB, decide_eq_true_eq] at h4
        have := h4.1.2.2.2.2.2; omega
      · cases h4
theorem right_rO {x : Ev} (h : rightE x = true) : ∀ i, i < x.r.length → rV (nv x.r i) = true := by
  intro i hi
  simp only [rightE, Bool.and_eq_true] at h
  have h4 := h.2
  unfold typB at h4
  split at h4
  · simp only [Bool.and_eq_true, decide_eq_true_eq] at h4
    have := h4.2; omega
  · split at h4
    · simp only [Bool.and_eq_true] at h4
      exact all_rV h4.2 i hi
    · split at h4
      · simp only [Bool.and_eq_true, decide_eq_true_eq] at h4
        have := h4.2; omega
      · cases h4
theorem right_sz {x : Ev} (h : rightE x = true) (hr : x.r.length ≤ 900000) : SzE x := by
  have hc : rV x.c = true := by
    simp only [rightE, Bool.and_eq_true] at h
    exact name_rV h.1.1.2
  have hk : x.k.2.2.size ≤ 40 := by
    simp only [rightE, Bool.and_eq_true] at h
    have h4 := h.2
    unfold typB at h4
    split at h4
    · simp only [Bool.and_eq_true] at h4
      exact right_size (name_rV h4.1.1)
    · split at h4
      · simp only [Bool.and_eq_true, nonB, decide_eq_true_eq] at h4
        have := h4.1.2.2.2.2.1; omega
      · split at h4
        · simp only [Bool.and_eq_true, nonB, decide_eq_true_eq] at h4
          have := h4.1.2.2.2.2.1; omega
        · cases h4
  have h1 := right_size hc
  have h2 := a_len h
  exact ⟨by omega, by omega, fun i hi => by have := right_size (right_aO h i hi); omega, fun i hi => by have := right_size (right_rO h i hi); omega, by omega, by omega⟩
set_option maxRecDepth 100000 in
set_option maxHeartbeats 8000000 in
theorem law_one_ev (s : ByteArray) (w : World) (ht : Tbs w) (hp : Pt w) : Calls Tryz.prog 5 #[.string s] w fun e w' => e = .returned (.bool true) ∧ Below w.heap.size w w' := by
  have HT : Hid (Tbs w) := ht
  have HP : Hid (Pt w) := hp
  clear ht hp
  by_cases hz : 1000 < s.size
  · have hz' : (1000 : Int) < (s.size : Int) := by omega
    go_enter Tryz.func5, Tryz.ntmps5
    go_wp2_with fail
    refine (wakes_ev _ HT.out).mono ?_
    rintro e w1 ⟨rfl, b1⟩
    go_wp2
    go_ret
    exact ⟨rfl, b1⟩
  have hz' : ¬ (1000 : Int) < (s.size : Int) := by omega
  have hPa := fun w' (h : Tbs w') => eparse_any s w' h (by omega)
  unfold RParse at hPa
  have hl := pE_len (tx s) (by rw [tx_len]; omega)
  have hlr := pE_r (tx s) (by rw [tx_len]; omega)
  by_cases hF : (pE (tx s)).2 = 0
  · have hrd : pE (tx s) = ((pE (tx s)).1, 0) := Prod.ext rfl hF
    obtain ⟨r1, r2, r3⟩ := line_read hrd
    rw [hF] at hPa
    have r4 := right_sz r1 hlr
    have hPr := fun w' (hb : Below w.heap.size w w') va vr h1 h2 => eprint_any (pE (tx s)).1 va vr w' (HT.out.later hb) (HP.out.later hb) h1 h2 r4 r3 hlr
    have hRi := fun w' (hb : Below w.heap.size w w') va vr h1 h2 => eright_any (pE (tx s)).1 va vr w' (HT.out.later hb).1 h1 h2 r4
    rw [r1, if_pos rfl, r2, bs_tx] at hPr
    rw [r1] at hRi
    clear hrd r1 r2 r3 r4 hF hl hlr
    generalize (pE (tx s)).1 = X at *
    have HPa : Hid (∀ w', Tbs w' → _) := hPa
    have HPr : Hid (∀ w', Below w.heap.size w w' → _) := hPr
    have HRi : Hid (∀ w', Below w.heap.size w w' → _) := hRi
    clear hPa hPr hRi
    have hss : (s.toList == s.toList) = true := by simp
    go_enter Tryz.func5, Tryz.ntmps5
    go_wp2_with fail
    refine (wakes_ev _ HT.out).mono ?_
    rintro e w5 ⟨rfl, b5⟩
    have Hb5 : Hid (Below w.heap.size w w5) := b5
    clear b5
    go_wp2_with fail
    refine (HPa.out _ (HT.out.later Hb5.out)).mono ?_
    rintro e w6 ⟨ua, ur, rfl, uax, urx, b6⟩
    have C1 : Blk (w6.alloc (.cells #[.int .i64 0, .int .i64 0, .int .i64 0, .string ⟨#[]⟩, .int .i64 0, .int .i64 0, .int .i64 0, .int .i64 0, .string ⟨#[]⟩, .int .i64 0, .slice none 0 0, .slice none 0 0, .bool false, .string ⟨#[]⟩] 26)) w6.heap.size (evC noEv nilS nilS) 26 := Blk.new w6 (evC noEv nilS nilS) 26
    have Hb6 : Hid (Below w.heap.size w (w6.alloc (.cells #[.int .i64 0, .int .i64 0, .int .i64 0, .string ⟨#[]⟩, .int .i64 0, .int .i64 0, .int .i64 0, .int .i64 0, .string ⟨#[]⟩, .int .i64 0, .slice none 0 0, .slice none 0 0, .bool false, .string ⟨#[]⟩] 26))) := below_more (below_next Hb5.out b6) _
    have lw6 : Hid (w.heap.size ≤ w6.heap.size) := (below_next Hb5.out b6).size
    have Ua1 : OwnV (w6.alloc (.cells #[.int .i64 0, .int .i64 0, .int .i64 0, .string ⟨#[]⟩, .int .i64 0, .int .i64 0, .int .i64 0, .int .i64 0, .string ⟨#[]⟩, .int .i64 0, .slice none 0 0, .slice none 0 0, .bool false, .string ⟨#[]⟩] 26)) w5.heap.size ua (X).a := uax.later (below_more (Below.refl _ _) _)
    have Ur1 : OwnV (w6.alloc (.cells #[.int .i64 0, .int .i64 0, .int .i64 0, .string ⟨#[]⟩, .int .i64 0, .int .i64 0, .int .i64 0, .int .i64 0, .string ⟨#[]⟩, .int .i64 0, .slice none 0 0, .slice none 0 0, .bool false, .string ⟨#[]⟩] 26)) w5.heap.size ur (X).r := urx.later (below_more (Below.refl _ _) _)
    clear b6
    go_wp2_with ((with_reducible refine wp_storeB 26 (.tmp 3) (.tmp 13) w6.heap.size 0 (evC X ua ur) (evC noEv nilS nilS) 26 ?_ ?_ (evC_one _ (OwnV.one uax) (OwnV.one urx)) ?_ ?_ ?_ C1 ?_); (exact sizeE); (exact (show 0 + 14 ≤ 14 by decide)); (exact ⟨rfl, rfl⟩); (exact rfl); (exact rfl); (intro z1 D1 o1); (replace D1 : Blk z1 w6.heap.size (evC X ua ur) 26 := D1); (have Hz1 : Hid (Below w.heap.size w z1) := below_oth Hb6.out o1 lw6.out lw6.out Hb6.out.size); (have Ua2 := OwnV.oth Ua1 o1 C1 (by decide)); (have Ur2 := OwnV.oth Ur1 o1 C1 (by decide)); (have HD : Hid (Blk z1 w6.heap.size (evC X ua ur) 26) := D1); clear C1 o1 Ua1 Ur1 uax urx; (obtain ⟨a0, a1, a2, a3, a4, a5, a6, a7, a8, a9, a10, a11, a12, a13⟩ := ev_cells D1))
    refine (HRi.out _ Hz1.out ua ur (OwnV.vsl Ua2) (OwnV.vsl Ur2)).mono ?_
    rintro e w7 ⟨rfl, b7⟩
    have Hb7 : Hid (Below w.heap.size w w7) := below_next Hz1.out b7
    have Ua3 := Ua2.later b7
    have Ur3 := Ur2.later b7
    have HD7 : Hid (Blk w7 w6.heap.size (evC X ua ur) 26) := HD.out.later b7
    clear b7 a0 a1 a2 a3 a4 a5 a6 a7 a8 a9 a10 a11 a12 a13 Ua2 Ur2
    obtain ⟨a0, a1, a2, a3, a4, a5, a6, a7, a8, a9, a10, a11, a12, a13⟩ := ev_cells HD7.out
    go_wp2_with fail
    refine (HPr.out _ Hb7.out ua ur (OwnV.vsl Ua3) (OwnV.vsl Ur3)).mono ?_
    rintro e w8 ⟨rfl, b8⟩
    go_wp2_with fail
    go_ret
    exact ⟨rfl, below_next Hb7.out b8⟩
  · obtain ⟨f1, f2⟩ := pE_fault hF
    rw [f1] at hPa
    clear hl hlr hF f1
    generalize (pE (tx s)).2 = F at *
    have HPa : Hid (∀ w', Tbs w' → _) := hPa
    clear hPa
    rcases f2 with rfl | rfl
    all_goals
      go_enter Tryz.func5, Tryz.ntmps5
      go_wp2_with fail
      refine (wakes_ev _ HT.out).mono ?_
      rintro e w5 ⟨rfl, b5⟩
      have Hb5 : Hid (Below w.heap.size w w5) := b5
      clear b5
      go_wp2_with fail
      refine (HPa.out _ (HT.out.later Hb5.out)).mono ?_
      rintro e w6 ⟨ua, ur, rfl, uax, urx, b6⟩
      have C1 : Blk (w6.alloc (.cells #[.int .i64 0, .int .i64 0, .int .i64 0, .string ⟨#[]⟩, .int .i64 0, .int .i64 0, .int .i64 0, .int .i64 0, .string ⟨#[]⟩, .int .i64 0, .slice none 0 0, .slice none 0 0, .bool false, .string ⟨#[]⟩] 26)) w6.heap.size (evC noEv nilS nilS) 26 := Blk.new w6 (evC noEv nilS nilS) 26
      have Hb6 : Hid (Below w.heap.size w (w6.alloc (.cells #[.int .i64 0, .int .i64 0, .int .i64 0, .string ⟨#[]⟩, .int .i64 0, .int .i64 0, .int .i64 0, .int .i64 0, .string ⟨#[]⟩, .int .i64 0, .slice none 0 0, .slice none 0 0, .bool false, .string ⟨#[]⟩] 26))) := below_more (below_next Hb5.out b6) _
      have lw6 : Hid (w.heap.size ≤ w6.heap.size) := (below_next Hb5.out b6).size
      have Ua1 : OwnV (w6.alloc (.cells #[.int .i64 0, .int .i64 0, .int .i64 0, .string ⟨#[]⟩, .int .i64 0, .int .i64 0, .int .i64 0, .int .i64 0, .string ⟨#[]⟩, .int .i64 0, .slice none 0 0, .slice none 0 0, .bool false, .string ⟨#[]⟩] 26)) w5.heap.size ua (noEv).a := uax.later (below_more (Below.refl _ _) _)
      have Ur1 : OwnV (w6.alloc (.cells #[.int .i64 0, .int .i64 0, .int .i64 0, .string ⟨#[]⟩, .int .i64 0, .int .i64 0, .int .i64 0, .int .i64 0, .string ⟨#[]⟩, .int .i64 0, .slice none 0 0, .slice none 0 0, .bool false, .string ⟨#[]⟩] 26)) w5.heap.size ur (noEv).r := urx.later (below_more (Below.refl _ _) _)
      clear b6
      go_wp2_with ((with_reducible refine wp_storeB 26 (.tmp 3) (.tmp 13) w6.heap.size 0 (evC noEv ua ur) (evC noEv nilS nilS) 26 ?_ ?_ (evC_one _ (OwnV.one uax) (OwnV.one urx)) ?_ ?_ ?_ C1 ?_); (exact sizeE); (exact (show 0 + 14 ≤ 14 by decide)); (exact ⟨rfl, rfl⟩); (exact rfl); (exact rfl); (intro z1 D1 o1); (replace D1 : Blk z1 w6.heap.size (evC noEv ua ur) 26 := D1); (have Hz1 : Hid (Below w.heap.size w z1) := below_oth Hb6.out o1 lw6.out lw6.out Hb6.out.size); (have Ua2 := OwnV.oth Ua1 o1 C1 (by decide)); (have Ur2 := OwnV.oth Ur1 o1 C1 (by decide)); (have HD : Hid (Blk z1 w6.heap.size (evC noEv ua ur) 26) := D1); clear C1 o1 Ua1 Ur1 uax urx; (obtain ⟨a0, a1, a2, a3, a4, a5, a6, a7, a8, a9, a10, a11, a12, a13⟩ := ev_cells D1))
      refine (same_ev noEv ua ur nilS nilS _ (OwnV.vsl Ua2) (OwnV.vsl Ur2) (OwnV.vsl (OwnV.nil _ 0)) (OwnV.vsl (OwnV.nil _ 0)) (by decide) (by decide)).mono ?_
      rintro e w7 ⟨rfl, b7⟩
      go_wp2_with fail
      go_ret
      exact ⟨rfl, below_next Hz1.out b7⟩
end Go.Proofs.YtdboamfdipeapaaGreatDoor
