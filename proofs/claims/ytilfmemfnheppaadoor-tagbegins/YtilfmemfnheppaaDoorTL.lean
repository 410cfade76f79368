/- The parts of a frame, as the program tells them. Conditions: nil has no bytes; no more than 700,000 bytes. -/
import Derived.Test.YtilfmemfnheppaaDoorTK
namespace Go.Proofs.YtilfmemfnheppaaDoor
open Go.RowKit Hx
set_option linter.unusedVariables false

/-- the parts told, or that there are none -/
def Told (xs : List Int) (e0 e1 : Value) (w : World) (en : Ending) (w' : World) : Prop :=
  (∃ v ps, en = .returned (.tuple #[v, e0]) ∧ PSn w' v ps ∧ frameB ps = xs ∧ Below w.heap.size w w') ∨
  (en = .returned (.tuple #[.slice none 0 0, e1]) ∧ (∀ ps, frameB ps ≠ xs) ∧ Below w.heap.size w w')
def lenV : Value → Nat
  | .slice _ n _ => n
  | _ => 0
theorem frame_len8 (ps : List (List Int)) : 8 * ps.length ≤ (frameB ps).length := by
  induction ps with
  | nil => simp [frameB]
  | cons p ps ih => simp only [frameB, List.length_append, bigB_len, List.length_cons]; omega
theorem sliced0 (a : Option Addr) (h c : Nat) : sliced a 0 h c 1 = .slice a h c := by
  unfold sliced
  have : (a.map fun x => x.add (0 * 1)) = a := by cases a <;> rfl
  rw [this]; simp
/-- the cut as a slice said plainly -/
theorem sliced_form (a : Option Addr) (l h c : Nat) : ∃ A, sliced a l h c 1 = .slice A (h - l) (c - l) := ⟨_, rfl⟩

set_option maxRecDepth 100000 in
set_option maxHeartbeats 2000000 in
theorem parts_any (v : Value) (xs : List Int) (w : World) (hv : Sl w v xs) (hn : Nf v) (hsz : xs.length ≤ 700000) :
    Calls Tryd.prog 11 #[v] w fun en w' => Told xs (.int .i64 0) (.int .i64 2) w en w' := by
  obtain ⟨a, cap, rfl⟩ : ∃ a c, v = .slice a xs.length c := by obtain ⟨a, c, h, _⟩ := hv; exact ⟨a, c, h⟩
  obtain ⟨n, hnx⟩ : ∃ n, n = xs.length := ⟨_, rfl⟩
  rw [← hnx] at hv hn hsz ⊢
  have HN : Hid (n = xs.length) := hnx
  have HV : Hid (Sl w (.slice a n cap) xs ∧ Nf (.slice a n cap)) := ⟨hv, hn⟩
  have hx : By xs := by obtain ⟨_, _, _, h, _⟩ := hv; exact h
  have HX : Hid (By xs) := hx
  clear hnx hv hn hx
  go_enter Tryd.func11, Tryd.ntmps11
  go_wp2_with fail
  go_step3
  go_wp2_with fail
  go_step3
  go_wp2_with fail
  go_loopw [4, 5] (fun pv r wr => ∃ (k R c : Nat) (A : Option Addr) (ps : List (List Int)), R + k = n ∧ r = .slice A R c ∧ Hid (frameB ps = xs.take k ∧ PO wr w.heap.size pv ps ∧ Sl w (.slice A R c) (xs.drop k) ∧ Nf (.slice A R c) ∧ Below w.heap.size w wr)) (fun _ r _ => lenV r)
  case atStart => exact ⟨0, n, cap, a, [], by omega, rfl, rfl, PO.nil _ _, HV.out.1, HV.out.2, Below.refl _ _⟩
  case round =>
    clear HV
    obtain ⟨k, R, c, A, ps, hRk, rfl, HI⟩ := hrel
    by_cases h0 : R = 0
    · subst h0
      go_wp2
      go_ret2
      obtain ⟨h1, h2, h3, h4, h5⟩ := HI.out
      exact .inl ⟨_, ps, rfl, h2.psn, frame_all h1 (by rw [← HN.out]; omega), h5⟩
    · by_cases h8 : R < 8
      · have h0' : ¬ (R : Int) = 0 := by omega
        have h8' : (R : Int) < 8 := by omega
        go_wp2
        go_ret2
        obtain ⟨h1, h2, h3, h4, h5⟩ := HI.out
        exact .inr ⟨rfl, frame_rest h1 (by rw [← HN.out]; omega) (by rw [← HN.out]; omega) (.inl (by rw [← HN.out]; omega)), h5⟩
      · have h0' : ¬ (R : Int) = 0 := by omega
        have h8' : ¬ (R : Int) < 8 := by omega
        obtain ⟨h1, h2, h3, h4, h5⟩ := HI.out
        have hdl : (xs.drop k).length = R := by rw [List.length_drop, ← HN.out]; omega
        have hRc : R ≤ c := by obtain ⟨_, _, hh, _, _, hc, _⟩ := h3; injection hh with _ e1 e2; omega
        obtain ⟨s1, n1, _⟩ := slice_cut h3 h4 0 8 (by omega) (by omega)
        obtain ⟨s2, n2, o2⟩ := slice_cut h3 h4 8 R (by omega) (by omega)
        have e1 := fun w => run_cut_h .i64 A R c 8 (by omega) w
        have e2 := fun w => run_cut_l .i64 A R c 8 (by omega) w
        simp only [Int.cast_ofNat_Int] at e1 e2
        obtain ⟨A2, f2⟩ := sliced_form A 8 R c
        rw [f2] at e2 s2 n2
        rw [List.take_of_length_le (by rw [List.length_drop, hdl]; omega), List.drop_drop] at s2
        rw [List.drop_zero] at s1
        obtain ⟨R2, hR2⟩ : ∃ r, r = R - 8 := ⟨_, rfl⟩
        obtain ⟨c2, hc2⟩ : ∃ r, r = c - 8 := ⟨_, rfl⟩
        rw [← hR2, ← hc2] at e2 s2 n2
        replace hR2 : R2 + 8 = R := by omega
        replace hc2 : c2 + 8 = c := by omega
        obtain ⟨Y, hY⟩ : ∃ y, y = (xs.drop k).take 8 := ⟨_, rfl⟩
        have hYl : Y.length = 8 := by rw [hY, List.length_take, hdl]; omega
        have hYb : By Y := by rw [hY]; exact fun x hx' => HX.out x (List.mem_of_mem_drop (List.mem_of_mem_take hx'))
        obtain ⟨m0, m1⟩ := numOf_all hYb
        rw [hYl] at m1
        have hpow : (256 : Int) ^ 8 = 18446744073709551616 := by decide
        rw [hpow] at m1
        have s1' : Sl w (sliced A 0 8 c 1) Y := by rw [hY]; exact s1
        have HY : Hid (Y = (xs.drop k).take 8) := hY
        have s1r := s1'.later h5
        generalize sliced A 0 8 c 1 = V1 at *
        obtain ⟨m, hm⟩ : ∃ m : Nat, (m : Int) = numOf Y := ⟨(numOf Y).toNat, by omega⟩
        have HS2 : Hid (Sl w (.slice A2 R2 c2) (xs.drop (k + 8)) ∧ Nf (.slice A2 R2 c2)) := ⟨s2, n2⟩
        have hd2 : (xs.drop (k + 8)).length = R2 := by rw [List.length_drop, ← HN.out]; omega
        have hc2' : R2 ≤ c2 := by omega
        have HD : Hid ((xs.drop (k + 8)).length = R2) := hd2
        clear h1 h2 h3 h4 h5 s1 s2 n1 n2 o2 f2 hdl hY s1' hd2 hpow
        go_wp2_with fail
        refine (num_any V1 Y wr s1r (by omega)).mono ?_
        rintro en w2 ⟨rfl, hb2⟩
        rw [← hm]
        have hm64 : (m : Int) ≤ 18446744073709551615 := by omega
        have HM : Hid ((m : Int) = numOf Y) := hm
        have HB2 : Hid (Below w.heap.size w w2) := below_next HI.out.2.2.2.2 hb2
        have HP2 : Hid (PO w2 w.heap.size u4 ps) := HI.out.2.1.later hb2
        clear s1r hb2 m0 m1 hm hYb e1
        by_cases hgt : R2 < m
        · have hgt' : (R2 : Int) < (m : Int) := by omega
          go_wp2
          go_ret2
          exact .inr ⟨rfl, frame_rest HI.out.1 (by rw [← HN.out]; omega) (by rw [← HN.out]; omega) (.inr (by rw [← HN.out, ← HY.out, ← HM.out]; omega)), HB2.out⟩
        · have hgt' : ¬ (R2 : Int) < (m : Int) := by omega
          obtain ⟨s2, n2⟩ := HS2.out
          obtain ⟨s3, n3, _⟩ := slice_cut s2 n2 0 m (by omega) (by rw [HD.out]; omega)
          obtain ⟨s5, n5, _⟩ := slice_cut s2 n2 m R2 (by omega) (by rw [HD.out]; omega)
          have e5 := fun w => run_cut_l .u64 A2 R2 c2 m (by omega) w
          obtain ⟨A5, f5⟩ := sliced_form A2 m R2 c2
          rw [f5] at e5 s5 n5
          rw [List.take_of_length_le (by rw [List.length_drop, HD.out]; omega), List.drop_drop] at s5
          obtain ⟨X, hX⟩ : ∃ y, y = (xs.drop (k + 8)).take m := ⟨_, rfl⟩
          rw [List.drop_zero, Nat.sub_zero, ← hX] at s3
          have s3r := s3.later HB2.out
          have hXl : X.length = m := by rw [hX, List.length_take, HD.out]; omega
          have HX2 : Hid (X = (xs.drop (k + 8)).take m) := hX
          have HS5 : Hid (Sl w (.slice A5 (R2 - m) (c2 - m)) (xs.drop (k + 8 + m)) ∧ Nf (.slice A5 (R2 - m) (c2 - m))) := ⟨s5, n5⟩
          obtain ⟨R5, hR5⟩ : ∃ r, r = R2 - m := ⟨_, rfl⟩
          obtain ⟨c5, hc5⟩ : ∃ r, r = c2 - m := ⟨_, rfl⟩
          rw [← hR5, ← hc5] at HS5 e5
          replace hR5 : R5 + m = R2 := by omega
          replace hc5 : c5 + m = c2 := by omega
          rw [sliced0] at s3r n3
          clear s2 n2 s3 s5 n5 f5 hX
          go_wp2_with fail
          refine (clone_any (.slice A2 m c2) X w2 s3r n3 (by omega)).mono ?_
          rintro en w3 ⟨v3, rfl, own3, hb3⟩
          have hXb : By X := by rw [HX2.out]; exact fun x hx' => HX.out x (List.mem_of_mem_drop (List.mem_of_mem_take hx'))
          have s3 := Sl.of_own own3 hXb (by omega)
          have nf3 : Nf v3 := own_nil_form own3
          have HB3 : Hid (Below w.heap.size w w3) := below_next HB2.out hb3
          have HP3 : Hid (PO w3 w.heap.size u4 ps) := HP2.out.later hb3
          have HDJ : Hid (∀ g, u4.ownBlock = some g → v3.ownBlock ≠ some g) := by
            intro g h1 h2
            have := (World.ownsRow.lt own3 g h2).1
            have := (HP2.out.lt g h1).2
            omega
          have hpl : ps.length + 1 ≤ 1000000 := by
            have q1 := frame_len8 ps
            have q2 := congrArg List.length HI.out.1
            rw [List.length_take] at q2
            have q3 := HN.out
            omega
          obtain ⟨a3, l3, c3, rfl⟩ : ∃ a n c, v3 = .slice a n c := by obtain ⟨a, c, h, _⟩ := s3; exact ⟨a, _, c, h⟩
          have HA : Hid (∀ T, PO (w3.alloc (.cells #[.slice a3 l3 c3] T)) w.heap.size u4 ps ∧ Sl (w3.alloc (.cells #[.slice a3 l3 c3] T)) (.slice a3 l3 c3) X) := fun T =>
            ⟨HP3.out.later ((Below.refl _ _).alloc (Nat.le_refl _) _), s3.later ((Below.refl _ _).alloc (Nat.le_refl _) _)⟩
          have hw3 : w.heap.size ≤ w3.heap.size := HB3.out.size
          clear s3r n3 own3 hb3 s3 hXb hXl
          go_wp2_with (at_builtin; refine wpList_appendP rfl (.tmp 30) (.tmp 35) rfl w.heap.size u4 ps rfl (HA.out _).1 w3.heap.size (.slice a3 l3 c3) X rfl (by simp) (HA.out _).2 nf3 (fun _ => HDJ.out) hpl (by simp; omega) ?_; intro v6 w6 po6 grow6; have hb6 := (HB3.out.alloc hw3 (.cells #[.slice a3 l3 c3] 25)).grown grow6 (by simp; omega) (fun q h => (HP3.out.lt q h).1))
          refine ⟨⟨k + 8 + m, R5, c5, A5, ps ++ [X], by omega, rfl, ?_, po6, HS5.out.1, HS5.out.2, hb6⟩, by simp [lenV]; omega⟩
          rw [HX2.out]
          exact frame_step HX.out HI.out.1 (by rw [← HN.out]; omega) (by rw [← HY.out, ← HM.out])
end Go.Proofs.YtilfmemfnheppaaDoor
