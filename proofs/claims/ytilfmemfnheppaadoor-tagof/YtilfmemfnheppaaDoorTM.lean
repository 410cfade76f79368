/- The parts of a frame, as the document tells them. Conditions: nil has no bytes; no more than 700,000 bytes. -/
import Derived.Test.YtilfmemfnheppaaDoorTL
namespace Go.Proofs.YtilfmemfnheppaaDoor
open Go.RowKit Hx
set_option linter.unusedVariables false

theorem numOf_mono {Y : List Int} (h : By Y) (j : Nat) : ∀ i, j + i ≤ Y.length → numOf (Y.take j) ≤ numOf (Y.take (j + i)) := by
  intro i
  induction i with
  | zero => intro _; exact Int.le_refl _
  | succ i ih =>
    intro hi
    have h1 := ih (by omega)
    have h2 := numOf_bd h (j + i) (by omega)
    have h3 := nth_bd h (j + i)
    rw [← Nat.add_assoc, numOf_take Y (j + i) (by omega)]
    omega
theorem numOf_le {Y : List Int} (h : By Y) (j : Nat) (hj : j ≤ Y.length) : numOf (Y.take j) ≤ numOf Y := by
  have := numOf_mono h j (Y.length - j) (by omega)
  rwa [show j + (Y.length - j) = Y.length by omega, List.take_length] at this

set_option maxRecDepth 100000 in
set_option maxHeartbeats 2000000 in
theorem rparts_any (v : Value) (xs : List Int) (w : World) (hv : Sl w v xs) (hn : Nf v) (hsz : xs.length ≤ 700000) :
    Calls Tryd.prog 15 #[v] w fun en w' => Told xs (.bool true) (.bool false) w en w' := by
  obtain ⟨a, cap, rfl⟩ : ∃ a c, v = .slice a xs.length c := by obtain ⟨a, c, h, _⟩ := hv; exact ⟨a, c, h⟩
  obtain ⟨n, hnx⟩ : ∃ n, n = xs.length := ⟨_, rfl⟩
  have hr : 0 < n → ∃ b off, a = some ⟨b, off, none⟩ ∧ b < w.heap.size ∧ ∀ i, i < n → w.cell? ⟨b, off + i, none⟩ = some (.int .u8 (nth xs i)) := by
    obtain ⟨a', c', he, _, _, _, h⟩ := hv
    injection he with e1 e2 e3
    subst e1
    rw [hnx]; exact h
  have hnc : n ≤ cap := by obtain ⟨_, _, he, _, _, h, _⟩ := hv; injection he with _ _ e3; omega
  rw [← hnx] at hv hn hsz ⊢
  have HN : Hid (n = xs.length) := hnx
  have HV : Hid (Sl w (.slice a n cap) xs ∧ Nf (.slice a n cap)) := ⟨hv, hn⟩
  have hx : By xs := by obtain ⟨_, _, _, h, _⟩ := hv; exact h
  have HX : Hid (By xs) := hx
  have HR : Hid (0 < n → ∃ b off, a = some ⟨b, off, none⟩ ∧ b < w.heap.size ∧ ∀ i, i < n → w.cell? ⟨b, off + i, none⟩ = some (.int .u8 (nth xs i))) := hr
  clear hnx hv hn hx hr
  go_enter Tryd.func15, Tryd.ntmps15
  go_wp2_with fail
  go_loopw [4, 5] (fun pv i wr => ∃ (k : Nat) (ps : List (List Int)), k ≤ n ∧ i = .int .i64 k ∧ Hid (frameB ps = xs.take k ∧ PO wr w.heap.size pv ps ∧ Below w.heap.size w wr)) (fun _ i _ => n - (intOf i).toNat)
  case atStart => exact ⟨0, [], by omega, rfl, rfl, PO.nil _ _, Below.refl _ _⟩
  case round =>
    obtain ⟨k, ps, hk, rfl, HI⟩ := hrel
    by_cases hlt : k < n
    · have hlt' : (k : Int) < (n : Int) := by omega
      obtain ⟨d, hd⟩ : ∃ d, d = n - k := ⟨_, rfl⟩
      have hd' : (n : Int) - (k : Int) = (d : Int) := by omega
      by_cases h8 : d < 8
      · have h8' : (d : Int) < 8 := by omega
        go_wp2
        go_ret2
        obtain ⟨h1, h2, h5⟩ := HI.out
        exact .inr ⟨rfl, frame_rest h1 (by rw [← HN.out]; omega) (by rw [← HN.out]; omega) (.inl (by rw [← HN.out]; omega)), h5⟩
      · have h8' : ¬ (d : Int) < 8 := by omega
        obtain ⟨Y, hY⟩ : ∃ y, y = (xs.drop k).take 8 := ⟨_, rfl⟩
        have hYl : Y.length = 8 := by rw [hY, List.length_take, List.length_drop, ← HN.out]; omega
        have hYb : By Y := by rw [hY]; exact fun x hx' => HX.out x (List.mem_of_mem_drop (List.mem_of_mem_take hx'))
        have hYn : ∀ j, j < 8 → nth Y j = nth xs (k + j) := by
          intro j hj; rw [hY]; unfold nth; simp [List.getD, hj]
        have HY : Hid (Y = (xs.drop k).take 8 ∧ Y.length = 8 ∧ By Y ∧ ∀ j, j < 8 → nth Y j = nth xs (k + j)) := ⟨hY, hYl, hYb, hYn⟩
        replace hd : d + k = n := by omega
        clear hY hYl hYb hYn
        go_wp2
        go_loopw [6, 7] (fun nv i wr => ∃ (j : Nat) (M : Int), j ≤ 8 ∧ i = .int .i64 j ∧ nv = .int .i64 M ∧ 0 ≤ M ∧ M ≤ 180000000 ∧ Hid (M = numOf (Y.take j) ∧ PO wr w.heap.size u4 ps ∧ Below w.heap.size w wr)) (fun _ i _ => 8 - (intOf i).toNat)
        case atStart => exact ⟨0, 0, by omega, rfl, rfl, by omega, by omega, by simp [numOf], HI.out.2.1, HI.out.2.2⟩
        case round =>
          obtain ⟨j, M, hj, rfl, rfl, hM0, hM1, HJ⟩ := hrel
          by_cases hlj : j < 8
          · have hlj' : (j : Int) < 8 := by omega
            by_cases hgt : (n : Int) < M
            · go_wp2
              go_ret2
              obtain ⟨h1, h2, h5⟩ := HJ.out
              obtain ⟨y1, y2, y3, y4⟩ := HY.out
              have := numOf_le y3 j (by omega)
              exact .inr ⟨rfl, frame_rest HI.out.1 (by rw [← HN.out]; omega) (by rw [← HN.out]; omega) (.inr (by rw [← HN.out, ← y1]; omega)), h5⟩
            · obtain ⟨q, hq⟩ : ∃ q, q = k + j := ⟨_, rfl⟩
              have hq' : (k : Int) + (j : Int) = (q : Int) := by omega
              have hqn : (q : Int) < (n : Int) := by omega
              obtain ⟨b, off, rfl, hbs, hcell⟩ := HR.out (by omega)
              have c1 : wr.cell? ⟨b, off + q, none⟩ = some (.int .u8 (nth xs q)) := (HJ.out.2.2.cell (p := ⟨b, off + q, none⟩) hbs).trans (hcell q (by omega))
              obtain ⟨z0, z1⟩ := nth_bd HX.out q
              have HT : Hid (M * 256 + nth xs q = numOf (Y.take (j + 1))) := by
                obtain ⟨y1, y2, y3, y4⟩ := HY.out
                show _ = _
                rw [numOf_take Y j (by omega), ← HJ.out.1, y4 j hlj, hq]
              generalize nth xs q = z at *
              clear hcell hq
              go_wp2
              refine ⟨⟨j + 1, M * 256 + z, by omega, by go_num, by go_num, by omega, by omega, HT.out, HJ.out.2.1, HJ.out.2.2⟩, by simp [intOf]; omega⟩
          · have hj8 : j = 8 := by omega
            subst hj8
            obtain ⟨k8, hk8⟩ : ∃ q, q = k + 8 := ⟨_, rfl⟩
            have hk8' : (k : Int) + 8 = (k8 : Int) := by omega
            obtain ⟨r, hr⟩ : ∃ q, q = n - k8 := ⟨_, rfl⟩
            have hr' : (n : Int) - (k8 : Int) = (r : Int) := by omega
            have HMY : Hid (M = numOf Y) := by
              have := HJ.out.1
              rwa [List.take_of_length_le (by rw [HY.out.2.1]; omega)] at this
            obtain ⟨m, hm⟩ : ∃ m : Nat, M = (m : Int) := ⟨M.toNat, by omega⟩
            subst hm
            replace hr : r + k8 = n := by omega
            have HK8 : Hid (k8 = k + 8) := hk8
            by_cases hgt : r < m
            · have hgt' : (r : Int) < (m : Int) := by omega
              clear hk8
              go_wp2
              go_ret2
              have := HK8.out
              exact .inr ⟨rfl, frame_rest HI.out.1 (by rw [← HN.out]; omega) (by rw [← HN.out]; omega) (.inr (by rw [← HN.out, ← HY.out.1, ← HMY.out]; omega)), HJ.out.2.2⟩
            · have hgt' : ¬ (r : Int) < (m : Int) := by omega
              obtain ⟨k9, hk9⟩ : ∃ q, q = k8 + m := ⟨_, rfl⟩
              have hk9' : (k8 : Int) + (m : Int) = (k9 : Int) := by omega
              obtain ⟨s3, n3, o3⟩ := slice_cut HV.out.1 HV.out.2 k8 k9 (by omega) (by rw [← HN.out]; omega)
              have e3 := fun w => run_cut_lh .i64 a n cap k8 k9 (by omega) (by omega) w
              obtain ⟨A3, f3⟩ := sliced_form a k8 k9 cap
              rw [f3] at s3 n3 e3
              obtain ⟨X, hX⟩ : ∃ y, y = (xs.drop (k + 8)).take m := ⟨_, rfl⟩
              have eX : (xs.drop k8).take (k9 - k8) = X := by rw [hX, show k9 - k8 = m by omega, hk8]
              rw [eX] at s3
              obtain ⟨l3, hl3⟩ : ∃ q, q = k9 - k8 := ⟨_, rfl⟩
              obtain ⟨c3, hc3⟩ : ∃ q, q = cap - k8 := ⟨_, rfl⟩
              rw [← hl3, ← hc3] at s3 n3 e3
              have HDJ : Hid (0 < X.length → ∀ g, u4.ownBlock = some g → (Value.slice A3 l3 c3).ownBlock ≠ some g) := by
                intro h0 g h1 h2
                have := sl_lt s3 h0 g h2
                have := (HJ.out.2.1.lt g h1).1
                omega
              have hpl : ps.length + 1 ≤ 1000000 := by
                have q1 := frame_len8 ps
                have q2 := congrArg List.length HI.out.1
                rw [List.length_take] at q2
                have q3 := HN.out
                omega
              have HA : Hid (∀ T, PO (wr.alloc (.cells #[.slice A3 l3 c3] T)) w.heap.size u4 ps ∧ Sl (wr.alloc (.cells #[.slice A3 l3 c3] T)) (.slice A3 l3 c3) X) := fun T =>
                ⟨HJ.out.2.1.later ((Below.refl _ _).alloc (Nat.le_refl _) _), (s3.later HJ.out.2.2).later ((Below.refl _ _).alloc (Nat.le_refl _) _)⟩
              have hw3 : w.heap.size ≤ wr.heap.size := HJ.out.2.2.size
              have HX2 : Hid (X = (xs.drop (k + 8)).take m) := hX
              have HK9 : Hid (k9 = k + 8 + m) := by show _ = _; omega
              have hk9n : k9 ≤ n := by omega
              have hk9k : k < k9 := by omega
              clear hk8 hk9 hl3 hc3 eX f3 o3 s3 hX
              go_wp2_with (at_builtin; refine wpList_appendP rfl (.tmp 43) (.tmp 50) rfl w.heap.size u4 ps rfl (HA.out _).1 wr.heap.size (.slice A3 l3 c3) X rfl (by simp) (HA.out _).2 n3 HDJ.out hpl (by simp; omega) ?_; intro v6 w6 po6 grow6; have hb6 := (HJ.out.2.2.alloc hw3 (.cells #[.slice A3 l3 c3] 25)).grown grow6 (by simp; omega) (fun q h => (HJ.out.2.1.lt q h).1))
              refine ⟨⟨k9, ps ++ [X], by omega, rfl, ?_, po6, hb6⟩, by simp [intOf]; omega⟩
              rw [HX2.out, HK9.out]
              have := HK9.out
              exact frame_step HX.out HI.out.1 (by rw [← HN.out]; omega) (by rw [← HY.out.1, ← HMY.out])
    · have hk' : k = n := by omega
      subst hk'
      go_wp2
      go_ret2
      obtain ⟨h1, h2, h5⟩ := HI.out
      exact .inl ⟨_, ps, rfl, h2.psn, frame_all h1 (by rw [← HN.out]; omega), h5⟩
end Go.Proofs.YtilfmemfnheppaaDoor
