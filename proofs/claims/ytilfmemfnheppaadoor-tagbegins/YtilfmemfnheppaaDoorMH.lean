/- The seal of bytes, as the document has it. Conditions: a key has no more than 900,000 bytes, the bytes no more than 800,000. -/
import Derived.Test.YtilfmemfnheppaaDoorMG
import Derived.Test.YtilfmemfnheppaaDoorME
import Derived.Test.YtilfmemfnheppaaDoorTB
import Derived.Deep.AppendLies
namespace Go.Proofs.YtilfmemfnheppaaDoor
open Go.RowKit Hx
set_option linter.unusedVariables false

set_option maxRecDepth 100000 in
set_option maxHeartbeats 2000000 in
theorem rmsum_any (v u : Value) (key bs : List Int) (w : World) (hv : Sl w v key) (hnv : ∀ n c, v = .slice none n c → n = 0 ∧ c = 0) (hu : Sl w u bs) (hnu : ∀ n c, u = .slice none n c → n = 0 ∧ c = 0) (hks : key.length ≤ 900000) (hsz : bs.length ≤ 800000) :
    Calls Tryd.prog 24 #[v, u] w fun en w' => en = .returned (arr .u8 (sealB key bs)) ∧ Below w.heap.size w w' := by
  obtain ⟨i0, hi, hz0, hz1, hz2⟩ := info_parts Tryd.info5
  have h64 : (Tryd.prog.info? 59).map (·.size) = some (blkK key).length := by rw [blkK_len]; exact Tryd.size59
  have hbl := blkK_len key
  have HU : Hid (Sl w u bs) := hu
  have HNU : Hid (∀ n c, u = .slice none n c → n = 0 ∧ c = 0) := hnu
  go_enter Tryd.func24, Tryd.ntmps24
  go_wp2_with ((with_reducible refine wp_allocD 4 49 .u8 32 Tryd.zero49 ?_ ?_); (exact ⟨rfl, rfl, rfl⟩); intro p4 w2 hg2 hr2 hb2)
  refine (rblock_any v key w2 (hv.later hb2) hnv hks).mono ?_
  rintro e w3 ⟨rfl, hb3⟩
  have r4 := hr2.later hb3
  have hB3 := below_next hb2 hb3
  have l4 := r4.lt
  have q4 : w.heap.size ≤ p4 := hg2
  clear hr2 hb2 hb3 hv hnv hu hnu hg2
  go_wp2_with (first
    | ((with_reducible refine wp_allocD 5 59 .u8 64 Tryd.zero59 ?_ ?_); (exact ⟨rfl, rfl, rfl⟩); intro p5 w4 hg5 hr5 hb5)
    | ((with_reducible refine wp_storeR 59 (.tmp 5) (.tmp 11) p5 .u8 (List.replicate 64 0) (blkK key) h64 ?_ ?_ ?_ ?_ hr5 ?_); (rw [hbl]; rfl); (exact ⟨rfl, rfl⟩); (exact rfl); (exact rfl); intro w5 r5 o5))
  have q5 : p4 < p5 := Nat.lt_of_lt_of_le l4 hg5
  have R4 := (r4.later hb5).only o5 (show p4 ≠ p5 by omega)
  have hB5 := below_only (below_next hB3 hb5) o5 (by omega) (Nat.le_refl _)
  have l5 := r5.lt
  obtain ⟨B, hB⟩ : ∃ B, B = w5.heap.size := ⟨_, rfl⟩
  have qB : p5 < B := by omega
  have qw : w.heap.size ≤ B := by omega
  have xl1 := xorL_len (blkK key) 54
  have xl2 := xorL_len (blkK key) 92
  rw [hbl] at xl1 xl2
  have HI : Hid (Hx.Own w5 B (.slice none 0 0) ((xorL (blkK key) 54).take 0) ∧ Hx.Own w5 B (.slice none 0 0) ((xorL (blkK key) 92).take 0) ∧ Dj (.slice none 0 0) (.slice none 0 0) ∧ Row w5 p4 .u8 (List.replicate 32 0) ∧ Row w5 p5 .u8 (blkK key) ∧ Below w.heap.size w w5 ∧ B ≤ w5.heap.size) :=
    ⟨World.ownsRow_nil _ _ _ _, World.ownsRow_nil _ _ _ _, (fun g h => by cases h), R4, r5, hB5, by omega⟩
  clear r4 hB3 hr5 hb5 o5 R4 hB5 r5 hg5 l4 l5 hB
  go_loopw [6, 7, 8] (fun vi vo i wr => ∃ k : Nat, k ≤ 64 ∧ i = .int .i64 k ∧ Hid (Hx.Own wr B vi ((xorL (blkK key) 54).take k) ∧ Hx.Own wr B vo ((xorL (blkK key) 92).take k) ∧ Dj vi vo ∧ Row wr p4 .u8 (List.replicate 32 0) ∧ Row wr p5 .u8 (blkK key) ∧ Below w.heap.size w wr ∧ B ≤ wr.heap.size)) (fun _ _ i _ => 64 - (intOf i).toNat)
  case atStart => exact ⟨0, by omega, rfl, HI.out⟩
  case round =>
    clear HI
    obtain ⟨k, hk, rfl, HI⟩ := hrel
    by_cases hlt : k < 64
    · obtain ⟨oi, oo, hd, r4, r5, hb, hBr⟩ := HI.out
      have hlt' : (k : Int) < 64 := by omega
      have hk0 : (0 : Int) ≤ (k : Int) := by omega
      have c5 := r5.cell k (by omega)
      have HT1 : Hid ((xorL (blkK key) 54).take k ++ [bits .xor .u8 (nth (blkK key) k) 54] = (xorL (blkK key) 54).take (k + 1)) := by
        show _ = _; rw [← xorL_at _ _ k (by omega)]; exact take_next _ k (by omega)
      have HT2 : Hid ((xorL (blkK key) 92).take k ++ [bits .xor .u8 (nth (blkK key) k) 92] = (xorL (blkK key) 92).take (k + 1)) := by
        show _ = _; rw [← xorL_at _ _ k (by omega)]; exact take_next _ k (by omega)
      have hl1 : ((xorL (blkK key) 54).take k).length = k := by rw [List.length_take, xl1]; omega
      have hl2 : ((xorL (blkK key) 92).take k).length = k := by rw [List.length_take, xl2]; omega
      generalize nth (blkK key) k = Y at *
      generalize (xorL (blkK key) 54).take k = L1 at *
      generalize (xorL (blkK key) 92).take k = L2 at *
      have HW1 : Hid (wr.ownsRow B 5 1 u6 k (cells8 L1)) := by have := oi; unfold Hx.Own at this; rw [hl1] at this; exact this
      have HW2 : Hid (wr.ownsRow B 5 1 u7 k (cells8 L2)) := by have := oo; unfold Hx.Own at this; rw [hl2] at this; exact this
      have HD : Hid (Dj u6 u7) := hd
      have HR : Hid (Row wr p4 .u8 (List.replicate 32 0) ∧ Row wr p5 .u8 (blkK key) ∧ Below w.heap.size w wr) := ⟨r4, r5, hb⟩
      have HL : Hid (L1.length = k ∧ L2.length = k) := ⟨hl1, hl2⟩
      clear oi oo hd r4 r5 hb HI hl1 hl2
      obtain ⟨X1, hX1⟩ : ∃ X, X = bits .xor .u8 Y 54 := ⟨_, rfl⟩
      obtain ⟨X2, hX2⟩ : ∃ X, X = bits .xor .u8 Y 92 := ⟨_, rfl⟩
      rw [← hX1] at HT1
      rw [← hX2] at HT2
      have e1 := hX1.symm
      have e2 := hX2.symm
      clear hX1 hX2
      go_wp2_with (first
        | (at_builtin; refine wpList_append_lies _ rfl (.tmp 16) (.tmp 21) 25 rfl B 5 i0 (.int .u8 0) 1 1 Tryd.underlying25 hi hz0 hz1 hz2 rfl (by decide) u6 k (cells8 L1) rfl (by exact HW1.out.alloc _) ⟨wr.heap.size, 0, none⟩ 1 1 [.int .u8 X1] rfl rfl (one_new8 wr X1 5) (by simp [Value.oneCell']) (by decide) (by unfold maxLen; omega) (by omega) (by simp; omega) _ rfl ?_; intro g1 c1 w1 hown1 hgrow1 hat1 hlt1; have hb1B : Below B wr w1 := ((Below.refl B wr).alloc hBr _).grown hgrow1 (by simp; omega) (fun q h => (World.ownsRow.lt HW1.out q h).1); have c6 : w1.cell? ⟨p5, k, none⟩ = some (.int .u8 Y) := (hb1B.cell (p := ⟨p5, k, none⟩) qB).trans c5; have HW3 : Hid (w1.ownsRow B 5 1 u7 k (cells8 L2)) := (HW2.out.alloc _).kept hgrow1 HD.out.ne; have hBr1 : B ≤ w1.heap.size := Nat.le_trans hBr hb1B.size)
        | (at_builtin; refine wpList_append_lies _ rfl (.tmp 23) (.tmp 28) 25 rfl B 5 i0 (.int .u8 0) 1 1 Tryd.underlying25 hi hz0 hz1 hz2 rfl (by decide) u7 k (cells8 L2) rfl (by exact HW3.out.alloc _) ⟨w1.heap.size, 0, none⟩ 1 1 [.int .u8 X2] rfl rfl (one_new8 w1 X2 5) (by simp [Value.oneCell']) (by decide) (by unfold maxLen; omega) (by omega) (by simp; omega) _ rfl ?_; intro g2 c2 w2' hown2 hgrow2 hat2 hlt2))
      have hb1 : Below w.heap.size w w1 := (HR.out.2.2.alloc (Nat.le_trans qw hBr) _).grown hgrow1 (by simp; omega) (fun q h => Nat.le_trans qw (World.ownsRow.lt HW1.out q h).1)
      have R4 := HR.out.1.below hb1B (by omega)
      have R5 := HR.out.2.1.below hb1B qB
      have HD2 : Hid (Dj (.slice (some ⟨g1, 0, none⟩) (k + 1) c1) u7) := HD.out.next HW2.out rfl hat1 (by simp)
      have HO1 : Hid (w1.ownsRow B 5 1 (.slice (some ⟨g1, 0, none⟩) (k + 1) c1) (k + 1) (cells8 L1 ++ [.int .u8 X1])) := hown1
      have HR1 : Hid (Row w1 p4 .u8 (List.replicate 32 0) ∧ Row w1 p5 .u8 (blkK key) ∧ Below w.heap.size w w1) := ⟨R4, R5, hb1⟩
      clear hb1B hb1 R4 R5 HW2 HD hown1 hgrow1 hat1 HR HW1 c5 hlt1
      have hb2B : Below B w1 w2' := ((Below.refl B w1).alloc hBr1 _).grown hgrow2 (by simp; omega) (fun q h => (World.ownsRow.lt HW3.out q h).1)
      have hb2 : Below w.heap.size w w2' := (HR1.out.2.2.alloc (Nat.le_trans qw hBr1) _).grown hgrow2 (by simp; omega) (fun q h => Nat.le_trans qw (World.ownsRow.lt HW3.out q h).1)
      have R4 := HR1.out.1.below hb2B (by omega)
      have R5 := HR1.out.2.1.below hb2B qB
      have HO2 := (HO1.out.alloc (.cells #[.int .u8 X2] 5)).kept hgrow2 HD2.out.symm.ne
      have HD3 := (HD2.out.symm.next HO1.out (x' := .slice (some ⟨g2, 0, none⟩) (k + 1) c2) rfl hat2 (by simp)).symm
      obtain ⟨hl1, hl2⟩ := HL.out
      have F1 : Hx.Own w2' B (.slice (some ⟨g1, 0, none⟩) (k + 1) c1) ((xorL (blkK key) 54).take (k + 1)) := by
        rw [← HT1.out]; rw [← hl1] at HO2 ⊢; exact own_more HO2
      have F2 : Hx.Own w2' B (.slice (some ⟨g2, 0, none⟩) (k + 1) c2) ((xorL (blkK key) 92).take (k + 1)) := by
        rw [← HT2.out]; rw [← hl2] at hown2 ⊢; exact own_more hown2
      have hBr2 : B ≤ w2'.heap.size := Nat.le_trans hBr1 hb2B.size
      have HJ : Hid (Hx.Own w2' B (.slice (some ⟨g1, 0, none⟩) (k + 1) c1) ((xorL (blkK key) 54).take (k + 1)) ∧ Hx.Own w2' B (.slice (some ⟨g2, 0, none⟩) (k + 1) c2) ((xorL (blkK key) 92).take (k + 1)) ∧ Dj (.slice (some ⟨g1, 0, none⟩) (k + 1) c1) (.slice (some ⟨g2, 0, none⟩) (k + 1) c2) ∧ Row w2' p4 .u8 (List.replicate 32 0) ∧ Row w2' p5 .u8 (blkK key) ∧ Below w.heap.size w w2' ∧ B ≤ w2'.heap.size) := ⟨F1, F2, HD3, R4, R5, hb2, hBr2⟩
      clear hb2B hb2 R4 R5 HO2 HD3 HD2 hown2 hgrow2 hat2 HR1 HW3 hlt2 F1 F2 hl1 hl2 HO1 c6
      refine ⟨⟨k + 1, by omega, by go_num, HJ.out⟩, by simp [intOf]; omega⟩
    · have hk' : k = 64 := by omega
      subst hk'
      obtain ⟨oi, oo, hd, r4, r5, hb, hBr⟩ := HI.out
      rw [List.take_of_length_le (by omega)] at oi oo
      have hib : By (xorL (blkK key) 54) := xorL_bd _ _
      have hob : By (xorL (blkK key) 92) := xorL_bd _ _
      have hbb : By bs := by obtain ⟨_, _, _, h, _⟩ := HU.out; exact h
      obtain ⟨D, hD⟩ : ∃ D, sumB (xorL (blkK key) 54 ++ bs) = D := ⟨_, rfl⟩
      obtain ⟨E, hE⟩ : ∃ E, sealB key bs = E := ⟨_, rfl⟩
      have hDl : D.length = 32 := by rw [← hD]; exact sumB_len _
      have hEl : E.length = 32 := by rw [← hE]; exact sealB_len _ _
      have hDb : By D := by rw [← hD]; exact sumB_by _
      have HE : Hid (sumB (xorL (blkK key) 92 ++ D) = E) := by show _ = _; rw [← hE, ← hD]; rfl
      have HD : Hid (sumB (xorL (blkK key) 54 ++ bs) = D) := hD
      have hgoal : sealB key bs = E := hE
      have h32 : (Tryd.prog.info? 49).map (·.size) = some D.length := by rw [hDl]; exact Tryd.size49
      have h32E : (Tryd.prog.info? 49).map (·.size) = some E.length := by rw [hEl]; exact Tryd.size49
      clear hD hE
      generalize xorL (blkK key) 54 = I at *
      generalize xorL (blkK key) 92 = O at *
      have HOI : Hid (Hx.Own wr B u6 I) := oi
      have HOO : Hid (Hx.Own wr B u7 O) := oo
      have HDj : Hid (Dj u6 u7) := hd
      have hsl2 := slice25a
      have HR4 : Hid (Row wr p4 .u8 (List.replicate 32 0)) := r4
      have HB : Hid (Below w.heap.size w wr) := hb
      have us : Sl wr u bs := HU.out.later hb
      have HUS : Hid (Sl wr u bs) := us
      clear oi oo hd r4 r5 hb HI us
      go_wp2_with (at_builtin; refine wpList_appendS rfl (.tmp 30) (.tmp 31) rfl B u6 I rfl HOI.out u bs rfl HUS.out HNU.out (by omega) hBr ?_; intro v1 w1 hown1 hgrow1)
      have hb1 : Below w.heap.size w w1 := HB.out.grown hgrow1 (by omega) (fun q h => Nat.le_trans qw (World.ownsRow.lt HOI.out q h).1)
      have hb1B : Below B wr w1 := (Below.refl B wr).grown hgrow1 hBr (fun q h => (World.ownsRow.lt HOI.out q h).1)
      have oo1 : Hx.Own w1 B u7 O := World.ownsRow.kept HOO.out hgrow1 HDj.out.ne
      have r41 := HR4.out.below hb1B (by omega)
      have hBr1 : B ≤ w1.heap.size := Nat.le_trans hBr hb1B.size
      have hibb : By (I ++ bs) := by
        intro x hx
        rcases List.mem_append.1 hx with hx | hx
        · exact hib x hx
        · exact hbb x hx
      refine (rsum_any v1 (I ++ bs) w1 (Sl.of_own hown1 hibb (by rw [List.length_append]; omega)) (own_nil_form hown1) (by rw [List.length_append]; omega)).mono ?_
      rintro e w3 ⟨rfl, hb3⟩
      rw [HD.out]
      have oo3 := own_later2 oo1 hb3
      have r43 := r41.later hb3
      have hb4 := below_next hb1 hb3
      have hBr3 : B ≤ w3.heap.size := Nat.le_trans hBr1 hb3.size
      clear hown1 hgrow1 hb1 hb1B oo1 r41 hb3 HOI HOO HDj HR4 HB HUS hibb hib
      go_wp2_with (first
        | ((with_reducible refine wp_allocD 9 49 .u8 32 Tryd.zero49 ?_ ?_); (exact ⟨rfl, rfl, rfl⟩); intro p9 w5 hg9 hr9 hb9)
        | ((with_reducible refine wp_storeR 49 (.tmp 9) (.tmp 33) p9 .u8 (List.replicate 32 0) D h32 ?_ ?_ ?_ ?_ hr9 ?_); (rw [hDl]; rfl); (exact ⟨rfl, rfl⟩); (exact rfl); (exact rfl); intro w6 r9 o9; have q9 : B ≤ p9 := (by omega); have oo6 : Hid (Hx.Own w6 B u7 O) := own_only (own_later2 oo3 hb9) o9 (fun e => by have := (World.ownsRow.lt oo3 _ e).2; omega); have s6 := row_sl r9 hDb hDl (by omega); have hBr6 : B ≤ w6.heap.size := (by have := r9.lt; omega))
        | (at_builtin; refine wpList_appendS rfl (.tmp 34) (.tmp 35) rfl B u7 O rfl oo6.out _ D rfl s6 (fun n c h => by cases h) (by omega) hBr6 ?_; intro v7 w7 hown7 hgrow7))
      have r46 := (r43.later hb9).only o9 (show p4 ≠ p9 by omega)
      have hb6 := below_only (below_next hb4 hb9) o9 (by omega) (Nat.le_refl _)
      have hb7 : Below w.heap.size w w7 := hb6.grown hgrow7 (by omega) (fun q h => Nat.le_trans qw (World.ownsRow.lt oo6.out q h).1)
      have hb7B : Below B w6 w7 := (Below.refl B w6).grown hgrow7 hBr6 (fun q h => (World.ownsRow.lt oo6.out q h).1)
      have r47 := r46.below hb7B (by omega)
      have hoD : By (O ++ D) := by
        intro x hx
        rcases List.mem_append.1 hx with hx | hx
        · exact hob x hx
        · exact hDb x hx
      refine (rsum_any v7 (O ++ D) w7 (Sl.of_own hown7 hoD (by rw [List.length_append]; omega)) (own_nil_form hown7) (by rw [List.length_append]; omega)).mono ?_
      rintro e w8 ⟨rfl, hb8⟩
      rw [HE.out]
      have r48 := r47.later hb8
      have hb10 := below_next hb7 hb8
      clear r47 hb7 hb8 hb7B hb6 r46 hown7 hgrow7 oo3 oo6 s6 hb9 o9 r9 hr9 r43 hb4
      go_wp2_with ((with_reducible refine wp_storeR 49 (.tmp 4) (.tmp 37) p4 .u8 (List.replicate 32 0) E h32E ?_ ?_ ?_ ?_ r48 ?_); (rw [hEl]; rfl); (exact ⟨rfl, rfl⟩); (exact rfl); (exact rfl); intro w9 r49 o49)
      refine ret_row rfl p4 .u8 E _ Tryd.underlying49 rfl h32E rfl r49 rfl ⟨by rw [hgoal], ?_⟩
      exact below_only hb10 o49 q4 (Nat.le_refl _)
end Go.Proofs.YtilfmemfnheppaaDoor
