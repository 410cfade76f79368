/- The frame of parts, as the program makes it, and as the document does. Conditions: a part that is nil has no bytes; the frame has no more than 700,000 bytes. -/
import Derived.Test.YtilfmemfnheppaaDoorTG
import Derived.Test.YtilfmemfnheppaaDoorTB
import Derived.Test.YtilfmemfnheppaaDoorTD
namespace Go.Proofs.YtilfmemfnheppaaDoor
open Go.RowKit Hx
set_option linter.unusedVariables false

theorem frame_take (ps : List (List Int)) (k : Nat) (h : k < ps.length) : frameB (ps.take (k + 1)) = (frameB (ps.take k) ++ bigB (part ps k).length 8) ++ part ps k := by
  rw [List.take_succ_eq_append_getElem h, frameB_snoc, part_eq ps k h]
theorem frame_le (ps : List (List Int)) (k : Nat) : (frameB (ps.take k)).length ≤ (frameB ps).length := by
  have e : frameB ps = frameB (ps.take k) ++ frameB (ps.drop k) := by rw [← frameB_app, List.take_append_drop]
  have h := congrArg List.length e
  rw [List.length_append] at h
  omega
theorem sl_some {w : World} {v : Value} {xs : List Int} (h : Sl w v xs) (h0 : 0 < xs.length) : ∀ n c, v = .slice none n c → n = 0 ∧ c = 0 := by
  obtain ⟨a, c, rfl, _, _, _, hr⟩ := h
  obtain ⟨b, off, rfl, _⟩ := hr h0
  intro n c h
  cases h
theorem frame_by {ps : List (List Int)} (h : ∀ k, k < ps.length → By (part ps k)) : By (frameB ps) := by
  induction ps with
  | nil => intro x hx; simp [frameB] at hx
  | cons p ps ih =>
    intro x hx
    simp only [frameB, List.mem_append] at hx
    rcases hx with hx | hx | hx
    · exact bigB_bd _ _ x hx
    · exact h 0 (by simp) x (by simpa [part] using hx)
    · exact ih (fun k hk => by have := h (k + 1) (by simp; omega); simpa [part] using this) x hx

set_option maxRecDepth 100000 in
set_option maxHeartbeats 1000000 in
theorem frame_any (v : Value) (ps : List (List Int)) (w : World) (hv : PSn w v ps) (hsz : (frameB ps).length ≤ 700000) :
    Calls Tryd.prog 10 #[v] w fun en w' => ∃ v', en = .returned v' ∧ Hx.Own w' w.heap.size v' (frameB ps) ∧ Below w.heap.size w w' := by
  obtain ⟨ad, cap, rfl, hl, hcap, hr⟩ := hv
  obtain ⟨L, hL⟩ : ∃ L, L = ps.length := ⟨_, rfl⟩
  rw [← hL] at hl hcap hr ⊢
  have HL : Hid (L = ps.length) := hL
  clear hL
  obtain ⟨B, hB⟩ : ∃ B, B = w.heap.size := ⟨_, rfl⟩
  rw [← hB]
  have HB : Hid (B = w.heap.size) := hB
  clear hB
  go_enter Tryd.func10, Tryd.ntmps10
  go_wp2_with fail
  go_loopw [3, 8] (fun v i wr => ∃ k : Nat, k ≤ L ∧ i = .int .i64 k ∧ Hid (Hx.Own wr B v (frameB (ps.take k)) ∧ Below B w wr)) (fun _ i _ => L - (intOf i).toNat)
  case atStart => exact ⟨0, by omega, rfl, by rw [HB.out]; exact ⟨World.ownsRow_nil _ _ _ _, Below.refl _ _⟩⟩
  case round =>
    obtain ⟨k, hk, rfl, HI⟩ := hrel
    by_cases hlt : k < L
    · obtain ⟨b, off, rfl, hbs, hcell⟩ := hr (by omega)
      obtain ⟨u, hu, hsu, hnu⟩ := hcell k hlt
      obtain ⟨hown, hb⟩ := HI.out
      have hlt' : (k : Int) < (L : Int) := by omega
      have cu : wr.cell? ⟨b, off + k, none⟩ = some u := (hb.cell (p := ⟨b, off + k, none⟩) (by rw [HB.out]; exact hbs)).trans hu
      obtain ⟨au, cu', rfl, hul⟩ : ∃ a c, u = .slice a (part ps k).length c ∧ (part ps k).length ≤ 9223372036854775807 := by obtain ⟨a, c, h, _, h2, _⟩ := hsu; exact ⟨a, c, h, h2⟩
      have HT : Hid (frameB (ps.take (k + 1)) = (frameB (ps.take k) ++ bigB (part ps k).length 8) ++ part ps k) := frame_take ps k (by rw [← HL.out]; exact hlt)
      have f1 := frame_le ps (k + 1)
      rw [HT.out, List.length_append, List.length_append, bigB_len] at f1
      obtain ⟨X, hX⟩ : ∃ X, X = part ps k := ⟨_, rfl⟩
      rw [← hX] at cu hul HT f1 hsu hnu
      obtain ⟨F, hF⟩ : ∃ F, F = frameB (ps.take k) := ⟨_, rfl⟩
      rw [← hF] at HT f1 hown
      obtain ⟨M, hM⟩ : ∃ M, M = X.length := ⟨_, rfl⟩
      rw [← hM] at cu hul HT f1 hnu hsu
      have HS : Hid (Sl w (.slice au M cu') X ∧ (∀ n c, (.slice au M cu' : Value) = .slice none n c → n = 0 ∧ c = 0) ∧ M = X.length) := ⟨hsu, hnu, hM⟩
      have HJ : Hid (Hx.Own wr B u3 F ∧ Below B w wr) := ⟨hown, hb⟩
      have hM2 : M ≤ 700000 := by omega
      have hF2 : F.length + 8 + M ≤ 700000 := by omega
      clear hcell hr hu hsu hnu hown hb HI hF hM hX f1
      go_wp2_with fail
      refine (big_any (M : Int) 8 wr (by omega) (by omega)).mono ?_
      rintro e w3 ⟨v3, rfl, s3, hb3⟩
      have e8 : szB 8 = 8 := by decide
      rw [e8] at s3
      obtain ⟨hown, hb⟩ := HJ.out
      have hBw : B ≤ wr.heap.size := Nat.le_trans (by rw [HB.out]; exact Nat.le_refl _) hb.size
      have own3 := own_later2 hown hb3
      have hBw3 : B ≤ w3.heap.size := Nat.le_trans hBw hb3.size
      have hb3' := hb.trans (hb3.mono hBw)
      have n3 := sl_some s3 (by rw [bigB_len]; omega)
      have HQ : Hid (∀ {w4 : World}, Hx.Own w3 B u3 F → w3.grownBy w4 u3.ownBlock → Sl w4 (.slice au M cu') X) := by
        intro w4 ho hg
        have hb4 : Below w.heap.size w w4 := by rw [← HB.out]; exact hb3'.grown hg hBw3 (fun q h => (World.ownsRow.lt ho q h).1)
        exact HS.out.1.later hb4
      have s0 := HS.out.1.later (hb.mono (Nat.le_of_eq HB.out.symm))
      have s3u := s0.later hb3
      have HP : Hid (Below B w w3) := hb3'
      have HM : Hid (M = X.length) := HS.out.2.2
      have nu := HS.out.2.1
      clear hown hb hb3 HJ s0 hb3' HS
      go_wp2_with (first
        | (at_builtin; refine wpList_appendS rfl (.tmp 12) (.tmp 16) rfl B u3 F rfl own3 _ (bigB M 8) rfl s3 n3 (by rw [bigB_len]; omega) hBw3 ?_; intro v4 w4 own4 grow4; have hBw4 : B ≤ w4.heap.size := Nat.le_trans hBw3 grow4.size; have hb4 : Hid (Below B w w4) := HP.out.grown grow4 hBw3 (fun q h => (World.ownsRow.lt own3 q h).1); have s4u := (HQ.out own3 grow4); have lF : (F ++ bigB (M : Int) 8).length = F.length + 8 := (by rw [List.length_append, bigB_len]))
        | (at_builtin; refine wpList_appendS rfl (.tmp 18) (.tmp 19) rfl B v4 (F ++ bigB M 8) rfl own4 _ X rfl s4u nu (by rw [lF, ← HM.out]; omega) hBw4 ?_; intro v5 w5 own5 grow5))
      have hb5 := hb4.out.grown grow5 hBw4 (fun q h => (World.ownsRow.lt own4 q h).1)
      rw [← HT.out] at own5
      exact ⟨⟨k + 1, by omega, by go_num, own5, hb5⟩, by simp [intOf]; omega⟩
    · have hk' : k = L := by omega
      subst hk'
      go_wp2
      go_ret
      obtain ⟨hown, hb⟩ := HI.out
      rw [HL.out, List.take_length] at hown
      exact ⟨_, rfl, hown, hb⟩

set_option maxRecDepth 100000 in
set_option maxHeartbeats 1000000 in
theorem rframe_any (v : Value) (ps : List (List Int)) (w : World) (hv : PSn w v ps) (hsz : (frameB ps).length ≤ 700000) :
    Calls Tryd.prog 13 #[v] w fun en w' => ∃ v', en = .returned v' ∧ Hx.Own w' w.heap.size v' (frameB ps) ∧ Below w.heap.size w w' := by
  obtain ⟨ad, cap, rfl, hl, hcap, hr⟩ := hv
  obtain ⟨L, hL⟩ : ∃ L, L = ps.length := ⟨_, rfl⟩
  rw [← hL] at hl hcap hr ⊢
  have HL : Hid (L = ps.length) := hL
  clear hL
  obtain ⟨B, hB⟩ : ∃ B, B = w.heap.size := ⟨_, rfl⟩
  rw [← hB]
  have HB : Hid (B = w.heap.size) := hB
  clear hB
  go_enter Tryd.func13, Tryd.ntmps13
  go_wp2_with fail
  go_loopw [3, 4] (fun v i wr => ∃ k : Nat, k ≤ L ∧ i = .int .i64 k ∧ Hid (Hx.Own wr B v (frameB (ps.take k)) ∧ Below B w wr)) (fun _ i _ => L - (intOf i).toNat)
  case atStart => exact ⟨0, by omega, rfl, by rw [HB.out]; exact ⟨World.ownsRow_nil _ _ _ _, Below.refl _ _⟩⟩
  case round =>
    obtain ⟨k, hk, rfl, HI⟩ := hrel
    by_cases hlt : k < L
    · obtain ⟨b, off, rfl, hbs, hcell⟩ := hr (by omega)
      obtain ⟨u, hu, hsu, hnu⟩ := hcell k hlt
      obtain ⟨hown, hb⟩ := HI.out
      have hlt' : (k : Int) < (L : Int) := by omega
      have hu0 := hu
      have cu : wr.cell? ⟨b, off + k, none⟩ = some u := (hb.cell (p := ⟨b, off + k, none⟩) (by rw [HB.out]; exact hbs)).trans hu
      obtain ⟨au, cu', rfl, hul⟩ : ∃ a c, u = .slice a (part ps k).length c ∧ (part ps k).length ≤ 9223372036854775807 := by obtain ⟨a, c, h, _, h2, _⟩ := hsu; exact ⟨a, c, h, h2⟩
      have HT : Hid (frameB (ps.take (k + 1)) = (frameB (ps.take k) ++ bigB (part ps k).length 8) ++ part ps k) := frame_take ps k (by rw [← HL.out]; exact hlt)
      have f1 := frame_le ps (k + 1)
      rw [HT.out, List.length_append, List.length_append, bigB_len] at f1
      obtain ⟨X, hX⟩ : ∃ X, X = part ps k := ⟨_, rfl⟩
      rw [← hX] at cu hul HT f1 hsu hnu hu0
      obtain ⟨F, hF⟩ : ∃ F, F = frameB (ps.take k) := ⟨_, rfl⟩
      rw [← hF] at HT f1 hown
      obtain ⟨M, hM⟩ : ∃ M, M = X.length := ⟨_, rfl⟩
      rw [← hM] at cu hul HT f1 hnu hsu hu0
      have HU : Hid (w.cell? ⟨b, off + k, none⟩ = some (.slice au M cu')) := hu0
      clear hu0
      have HS : Hid (Sl w (.slice au M cu') X ∧ (∀ n c, (.slice au M cu' : Value) = .slice none n c → n = 0 ∧ c = 0) ∧ M = X.length) := ⟨hsu, hnu, hM⟩
      have HJ : Hid (Hx.Own wr B u3 F ∧ Below B w wr) := ⟨hown, hb⟩
      have hM2 : M ≤ 700000 := by omega
      have hF2 : F.length + 8 + M ≤ 700000 := by omega
      clear hcell hr hu hsu hnu hown hb HI hF hM hX f1
      go_wp2_with fail
      refine (rbig_any (M : Int) 8 wr (by omega) (by omega)).mono ?_
      rintro e w3 ⟨v3, rfl, s3, hb3⟩
      have e8 : szB 8 = 8 := by decide
      rw [e8] at s3
      obtain ⟨hown, hb⟩ := HJ.out
      have hBw : B ≤ wr.heap.size := Nat.le_trans (by rw [HB.out]; exact Nat.le_refl _) hb.size
      have own3 := own_later2 hown hb3
      have hBw3 : B ≤ w3.heap.size := Nat.le_trans hBw hb3.size
      have hb3' := hb.trans (hb3.mono hBw)
      have n3 := sl_some s3 (by rw [bigB_len]; omega)
      have HQ : Hid (∀ {w4 : World}, Hx.Own w3 B u3 F → w3.grownBy w4 u3.ownBlock → Sl w4 (.slice au M cu') X) := by
        intro w4 ho hg
        have hb4 : Below w.heap.size w w4 := by rw [← HB.out]; exact hb3'.grown hg hBw3 (fun q h => (World.ownsRow.lt ho q h).1)
        exact HS.out.1.later hb4
      have HC : Hid (∀ {w4 : World}, Hx.Own w3 B u3 F → w3.grownBy w4 u3.ownBlock → w4.cell? ⟨b, off + k, none⟩ = some (.slice au M cu')) := by
        intro w4 ho hg
        have hb4 : Below B w w4 := hb3'.grown hg hBw3 (fun q h => (World.ownsRow.lt ho q h).1)
        exact (hb4.cell (p := ⟨b, off + k, none⟩) (by rw [HB.out]; exact hbs)).trans HU.out
      have s0 := HS.out.1.later (hb.mono (Nat.le_of_eq HB.out.symm))
      have s3u := s0.later hb3
      have HP : Hid (Below B w w3) := hb3'
      have HM : Hid (M = X.length) := HS.out.2.2
      have nu := HS.out.2.1
      clear hown hb hb3 HJ s0 hb3' HS
      go_wp2_with (first
        | (at_builtin; refine wpList_appendS rfl (.tmp 11) (.tmp 18) rfl B u3 F rfl own3 _ (bigB M 8) rfl s3 n3 (by rw [bigB_len]; omega) hBw3 ?_; intro v4 w4 own4 grow4; have hBw4 : B ≤ w4.heap.size := Nat.le_trans hBw3 grow4.size; have hb4 : Hid (Below B w w4) := HP.out.grown grow4 hBw3 (fun q h => (World.ownsRow.lt own3 q h).1); have s4u := (HQ.out own3 grow4); have c4 := (HC.out own3 grow4); have lF : (F ++ bigB (M : Int) 8).length = F.length + 8 := (by rw [List.length_append, bigB_len]))
        | (at_builtin; refine wpList_appendS rfl (.tmp 20) (.tmp 24) rfl B v4 (F ++ bigB M 8) rfl own4 _ X rfl s4u nu (by rw [lF, ← HM.out]; omega) hBw4 ?_; intro v5 w5 own5 grow5))
      have hb5 := hb4.out.grown grow5 hBw4 (fun q h => (World.ownsRow.lt own4 q h).1)
      rw [← HT.out] at own5
      exact ⟨⟨k + 1, by omega, by go_num, own5, hb5⟩, by simp [intOf]; omega⟩
    · have hk' : k = L := by omega
      subst hk'
      go_wp2
      go_ret
      obtain ⟨hown, hb⟩ := HI.out
      rw [HL.out, List.take_length] at hown
      exact ⟨_, rfl, hown, hb⟩
end Go.Proofs.YtilfmemfnheppaaDoor
