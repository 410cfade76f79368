/- The example holds. Condition: the table of signs lies in memory. -/
import Derived.Test.YtpboleifllcehaaDoorJS
import Derived.Test.YtpboleifllcehaaDoorGR
namespace Go.Proofs.YtpboleifllcehaaDoor
open Go.RowKit Go.PlainAid Ln Go.Sort
set_option linter.unusedVariables false
set_option linter.unusedSimpArgs false

/-- a word -/
abbrev vW (s : ByteArray) : Val := (2, 0, s)
theorem who_any (s : ByteArray) (w : World) : Calls Tryd.prog 19 #[.string s] w fun e w' => e = .returned (.agg #[.int .i64 2, .int .i64 0, .string s]) ∧ Below w.heap.size w w' := by
  go_enter Tryd.func19, Tryd.ntmps19
  go_wp2
  refine bodyPost_ret (v := .agg #[.int .i64 2, .int .i64 0, .string s]) (by simp [results, Tryd.f19, go_sem]) rfl ?_
  exact ⟨rfl, by first | exact below_more (Below.refl _ _) _ | skip⟩
def StW (w wx : World) : Prop := Below w.heap.size w wx
theorem StW.later {w wx wy : World} (h : StW w wx) (hb : Below wx.heap.size wx wy) : StW w wy := below_next h hb
/-- a state lies here -/
structure Hh (m : Int) (w wr : World) (z : Nat) (x : VN) : Prop where
  s : Blk wr z (stH m x nilS) 28
  z : w.heap.size ≤ z
theorem Hh.later {m : Int} {w wr wn : World} {z : Nat} {x : VN} (h : Hh m w wr z x) (hb : Below wr.heap.size wr wn) : Hh m w wn z x := ⟨h.s.later hb, h.z⟩
theorem Hh.oth {m : Int} {w wr wn : World} {z p : Nat} {x : VN} (h : Hh m w wr z x) (ho : Oth p p wr wn) (hp : z ≠ p) : Hh m w wn z x := ⟨h.s.oth ho hp hp, h.z⟩
/-- a and b -/
abbrev cA : Val := vW ⟨#[97]⟩
abbrev cB : Val := vW ⟨#[98]⟩
theorem mayTA : mayD 7 ⟨cA, 11, []⟩ = true := by kernel_rfl
theorem mayTB : mayD 7 ⟨cB, 11, []⟩ = true := by kernel_rfl
theorem mayFA : mayD 7 ⟨cA, 12, []⟩ = true := by kernel_rfl
theorem mayFB : mayD 7 ⟨cB, 12, []⟩ = true := by kernel_rfl
theorem ab_ne : ¬ cA = cB := by
  intro h
  have h1 := congrArg (fun x : Val => x.2.2.data.toList) h
  revert h1
  decide
theorem a_ne : ¬ cA = noV := by
  intro h
  have h1 := congrArg (fun x : Val => x.1) h
  revert h1
  decide
theorem nx1 : nxH 7 noH ⟨cA, 11, []⟩ = (cA, 0) := by rw [nxH_7]; unfold nxW; rw [if_pos ⟨rfl, rfl⟩]; rfl
theorem nx2 : nxH 7 (cA, 0) ⟨cB, 11, []⟩ = (cA, 0) := by
  rw [nxH_7]; unfold nxW
  rw [if_neg (fun h => a_ne h.2), if_neg (fun h => absurd h.1 (by decide))]
theorem nx3 : nxH 7 (cA, 0) ⟨cB, 12, []⟩ = (cA, 0) := by
  rw [nxH_7]; unfold nxW
  rw [if_neg (fun h => a_ne h.2), if_neg (fun h => ab_ne h.2)]
theorem ou1 : outHx noH ⟨cA, 11, []⟩ = [yesV true] := by
  unfold outHx outH
  rw [if_neg (by decide), if_pos rfl, decide_eq_true (show noH.1 = noV from rfl)]
theorem ou2 : outHx (cA, 0) ⟨cB, 11, []⟩ = [yesV false] := by
  unfold outHx outH
  rw [if_neg (by decide), if_pos rfl, decide_eq_false (show ¬ (cA, (0 : Int)).1 = noV from a_ne)]
theorem ou3 : outHx (cA, 0) ⟨cB, 12, []⟩ = [yesV false] := by
  unfold outHx outH
  rw [if_neg (by decide), if_neg (by decide), if_pos rfl, decide_eq_false (show ¬ (cA, (0 : Int)).1 = cB from ab_ne)]
theorem ou4 : outHx (cA, 0) ⟨cA, 12, []⟩ = [yesV true] := by
  unfold outHx outH
  rw [if_neg (by decide), if_neg (by decide), if_pos rfl, decide_eq_true (show (cA, (0 : Int)).1 = cA from rfl)]
set_option maxRecDepth 100000 in
set_option maxHeartbeats 16000000 in
theorem wakes_anyH (K : HoldOK) (w : World) (ht : Tb w) : Calls Tryd.prog 7 #[] w fun e w' => e = .returned (.bool true) ∧ Below w.heap.size w w' := by
  have mixed : Tryd.prog.follows .mixedOrders = true := by kernel_rfl
  have HT : Hid (Tb w) := ht
  have HK : Hid HoldOK := K
  clear ht
  have h9 := fun w => K.new 7 w
  rw [show ownH 7 = true by kernel_rfl, if_pos rfl] at h9
  simp only [stH, stN, noH, noV] at h9
  clear K
  have hy := own_one w w.heap.size (Nat.le_refl _) (yesV true)
  have b1 := below_box w (.cells (encV (yesV true)).toArray 25)
  obtain ⟨wy, hwy⟩ : ∃ wy, w.alloc (.cells (encV (yesV true)).toArray 25) = wy := ⟨_, rfl⟩
  rw [hwy] at hy b1
  have hn := own_one wy w.heap.size b1.size (yesV false)
  have b2 := below_box wy (.cells (encV (yesV false)).toArray 25)
  have HY0 : Hid (OwnV (wy.alloc (.cells (encV (yesV false)).toArray 25)) w.heap.size (.slice (some ⟨w.heap.size, 0, none⟩) 1 1) [yesV true]) := hy.later b2
  have ey : wy.heap.size = w.heap.size + 1 := by rw [← hwy]; simp
  have HN0 : Hid (OwnV (wy.alloc (.cells (encV (yesV false)).toArray 25)) w.heap.size (.slice (some ⟨w.heap.size + 1, 0, none⟩) 1 1) [yesV false]) := ey ▸ hn
  clear ey
  have HW0 : Hid (Below w.heap.size w (wy.alloc (.cells (encV (yesV false)).toArray 25))) := below_next b1 b2
  subst hwy
  clear hy b1 hn b2
  go_enter Tryd.func7, Tryd.ntmps7
  go_wp2_with fail
  refine (h9 _).mono ?_
  rintro e w2 ⟨rfl, hb2⟩
  have HY2 := HY0.out.later hb2
  have HN2 := HN0.out.later hb2
  have HW2 : Below w.heap.size w w2 := below_next HW0.out hb2
  have b3 := below_box w2 (.cells (stH 7 noH nilS).toArray 28)
  have HH3 : Hid (Hh 7 w (w2.alloc (.cells (stH 7 noH nilS).toArray 28)) w2.heap.size noH) := ⟨Blk.new w2 _ _, HW2.size⟩
  have HB3 : Hid (Below w.heap.size w (w2.alloc (.cells (stH 7 noH nilS).toArray 28))) := below_next HW2 b3
  have HY3 : Hid (OwnV (w2.alloc (.cells (stH 7 noH nilS).toArray 28)) w.heap.size (.slice (some ⟨w.heap.size, 0, none⟩) 1 1) [yesV true]) := HY2.later b3
  have HN3 : Hid (OwnV (w2.alloc (.cells (stH 7 noH nilS).toArray 28)) w.heap.size (.slice (some ⟨w.heap.size + 1, 0, none⟩) 1 1) [yesV false]) := HN2.later b3
  clear HY0 HN0 HW0 HY2 HN2 HW2 hb2 b3 h9
  go_wp2_with fail
  change Hid (Hh 7 w (w2.alloc (.cells #[.int .i64 7, .int .i64 0, .int .i64 0, .string noB, .int .i64 0, .slice none 0 0] 28)) _ _) at HH3
  change Hid (Below _ w (w2.alloc (.cells #[.int .i64 7, .int .i64 0, .int .i64 0, .string noB, .int .i64 0, .slice none 0 0] 28))) at HB3
  change Hid (OwnV (w2.alloc (.cells #[.int .i64 7, .int .i64 0, .int .i64 0, .string noB, .int .i64 0, .slice none 0 0] 28)) _ _ _) at HY3
  change Hid (OwnV (w2.alloc (.cells #[.int .i64 7, .int .i64 0, .int .i64 0, .string noB, .int .i64 0, .slice none 0 0] 28)) _ _ _) at HN3
  generalize w2.alloc (.cells #[.int .i64 7, .int .i64 0, .int .i64 0, .string noB, .int .i64 0, .slice none 0 0] 28) = w3 at HH3 HB3 HY3 HN3 ⊢
  obtain ⟨s, hs⟩ : ∃ s, w2.heap.size = s := ⟨_, rfl⟩
  rw [hs] at HH3
  simp only [hs]
  clear hs
  obtain ⟨vy, hvy⟩ : ∃ v, Value.slice (some ⟨w.heap.size, 0, none⟩) 1 1 = v := ⟨_, rfl⟩
  obtain ⟨vn, hvn⟩ : ∃ v, Value.slice (some ⟨w.heap.size + 1, 0, none⟩) 1 1 = v := ⟨_, rfl⟩
  rw [hvy] at HY3
  rw [hvn] at HN3
  simp only [hvy, hvn]
  clear hvy hvn
  have HP0 : Hid (Below w.heap.size w w3 ∧ Hh 7 w w3 s noH) := ⟨HB3.out, HH3.out⟩
  have HM : Hid (ownH 7 = true) := (by kernel_rfl : ownH 7 = true)
  clear HB3 HH3
  rename_i K9 hK9
  obtain ⟨I, hI⟩ : ∃ I : (Nat → Bool) → Act → World → Prop, ∀ L act wx, I L act wx ↔ (fun (L : Nat → Bool) (act : Act) (wx : World) => ∃ (t23 : Value) (t24 : Value) (t25 : Value) (t22 : Value) (t26 : Value) (t27 : Value) (t28 : Value) (t5 : Value) (t6 : Value) (vo9 : Value) (q9 : Nat), act = ⟨#[Value.bool false, vy, vn, Value.pointer (some ⟨s, 0, none⟩), Value.bool true, t5, t6, undef, undef, undef, undef, undef, undef, undef, Value.agg #[Value.int .i64 3, Value.int .i64 1, Value.string ⟨#[]⟩], vy, Value.agg #[Value.int .i64 3, Value.int .i64 0, Value.string ⟨#[]⟩], vn, Value.tuple #[Value.agg #[Value.int .i64 7, Value.int .i64 0, Value.int .i64 0, Value.string noB, Value.int .i64 0, nilS], Value.bool true], Value.tuple #[Value.agg #[Value.int .i64 7, Value.int .i64 0, Value.int .i64 0, Value.string noB, Value.int .i64 0, nilS], Value.bool true], Value.agg #[Value.int .i64 7, Value.int .i64 0, Value.int .i64 0, Value.string noB, Value.int .i64 0, nilS], Value.bool true, t22, t23, t24, t25, t26, t27, t28, undef, undef, undef, undef, undef, undef, undef, undef, undef, undef, undef, undef, undef, undef, undef, undef, undef, undef, undef, undef, undef, undef, undef, undef, undef, undef, undef, undef, undef, undef, undef, undef, undef, undef, undef, undef, undef, undef, undef], []⟩ ∧ Hid (StW w wx) ∧ Hid (L 7 = false → Hh 7 w wx s noH) ∧ Hid (OwnV wx w.heap.size vy [yesV true]) ∧ Hid (OwnV wx w.heap.size vn [yesV false]) ∧ Hid (L 0 = true → t23 = .agg (stH 7 noH nilS).toArray) ∧ Hid (L 1 = true → t24 = .agg #[.int .i64 2, .int .i64 0, .string ⟨#[97]⟩]) ∧ Hid (L 2 = true → t25 = .tuple #[.agg (stH 7 (cA, 0) nilS).toArray, vo9, .bool true] ∧ OwnV wx w.heap.size vo9 [yesV true]) ∧ Hid (L 3 = true → t22 = .tuple #[.agg (stH 7 (cA, 0) nilS).toArray, vo9, .bool true]) ∧ Hid (L 4 = true → t26 = .agg (stH 7 (cA, 0) nilS).toArray) ∧ Hid (L 5 = true → t27 = vo9) ∧ Hid (L 6 = true → t28 = .bool true) ∧ Hid (L 7 = true → Hh 7 w wx s (cA, 0)) ∧ Hid (L 8 = true → t5 = vo9) ∧ Hid (L 9 = true → t6 = .bool true)) L act wx := ⟨_, fun _ _ _ => Iff.rfl⟩
  dsimp only at hI
  have HI : Hid (∀ L act wx, I L act wx ↔ _) := hI
  clear hI
  refine wp_region_inv mixed [[], [], [0, 1], [0, 1, 2], [0, 1, 2, 3], [0, 1, 2, 3], [0, 1, 2, 3], [0, 1, 2, 3, 4], [0, 1, 2, 3, 4, 5, 7], [0, 1, 2, 3, 4, 6, 7]] (by kernel_rfl) I ?_ ?_ ?_
  · refine (HI.out _ _ _).2 ⟨_, _, _, _, _, _, _, _, _, undef, 0, rfl, ?_, ?_, ?_, ?_, fun h => Bool.noConfusion h, fun h => Bool.noConfusion h, fun h => Bool.noConfusion h, fun h => Bool.noConfusion h, fun h => Bool.noConfusion h, fun h => Bool.noConfusion h, fun h => Bool.noConfusion h, fun h => Bool.noConfusion h, fun h => Bool.noConfusion h, fun h => Bool.noConfusion h⟩
    · exact below_next HP0.out.1 (Stay.drew _)
    · exact fun _ => HP0.out.2.later (Stay.drew _)
    · exact HY3.out.later (Stay.drew _)
    · exact HN3.out.later (Stay.drew _)
  · intro i hi L act wx hIa hLi hcl hanc
    obtain ⟨t23, t24, t25, t22, t26, t27, t28, t5, t6, vo9, q9, rfl, HS, E0, E1, E2, F0, F1, F2, F3, F4, F5, F6, F7, F8, F9⟩ := (HI.out _ _ _).1 hIa
    clear hIa
    have hi' : i = 0 ∨ i = 1 ∨ i = 2 ∨ i = 3 ∨ i = 4 ∨ i = 5 ∨ i = 6 ∨ i = 7 ∨ i = 8 ∨ i = 9 := by have hi : i < 10 := hi; omega
    clear hi
    rcases hi' with rfl | rfl | rfl | rfl | rfl | rfl | rfl | rfl | rfl | rfl
    · have hun : L 7 = false := by
        cases h : L 7
        · rfl
        · exact absurd (hcl 7 h 0 (by decide)) (by rw [hLi]; decide)
      have hz := E0.out hun
      refine wpOp_doG 0 (by rfl) (by rfl) ?_
      refine wp_load_mid 28 (.tmp 3) rfl s 0 rfl (stH 7 noH nilS) _ (Blk.all hz.s) Tryd.underlying28 rfl infoSt ?_
      simp only [Act.put, List.setIfInBounds_toArray, List.set_cons_zero, List.set_cons_succ]
      have hb : Below wx.heap.size wx wx := Below.refl _ _
      show I (putL L 0) _ _
      exact (HI.out (putL L 0) _ _).2 ⟨_, _, _, _, _, _, _, _, _, vo9, q9, rfl, HS.out.later hb, fun h => (E0.out ((putL_ne (i := 0) (by decide)).symm.trans h)).later hb, E1.out.later hb, E2.out.later hb, fun _ => rfl, fun h => (by first | exact F1.out ((putL_ne (i := 0) (by decide)).symm.trans h) | rfl), fun h => absurd (hcl 2 ((putL_ne (i := 0) (by decide)).symm.trans h) 0 (by decide)) (by rw [hLi]; decide), fun h => absurd (hcl 3 ((putL_ne (i := 0) (by decide)).symm.trans h) 0 (by decide)) (by rw [hLi]; decide), fun h => absurd (hcl 4 ((putL_ne (i := 0) (by decide)).symm.trans h) 0 (by decide)) (by rw [hLi]; decide), fun h => absurd (hcl 5 ((putL_ne (i := 0) (by decide)).symm.trans h) 0 (by decide)) (by rw [hLi]; decide), fun h => absurd (hcl 6 ((putL_ne (i := 0) (by decide)).symm.trans h) 0 (by decide)) (by rw [hLi]; decide), fun h => absurd (hcl 7 ((putL_ne (i := 0) (by decide)).symm.trans h) 0 (by decide)) (by rw [hLi]; decide), fun h => absurd (hcl 8 ((putL_ne (i := 0) (by decide)).symm.trans h) 0 (by decide)) (by rw [hLi]; decide), fun h => absurd (hcl 9 ((putL_ne (i := 0) (by decide)).symm.trans h) 0 (by decide)) (by rw [hLi]; decide)⟩
    · refine wpOp_doG 1 (by rfl) (by rfl) ?_
      go_wp2_with fail
      refine (who_any ⟨#[97]⟩ wx).mono ?_
      rintro e9 wn ⟨rfl, hb⟩
      show I (putL L 1) _ _
      exact (HI.out (putL L 1) _ _).2 ⟨_, _, _, _, _, _, _, _, _, vo9, q9, rfl, HS.out.later hb, fun h => (E0.out ((putL_ne (i := 1) (by decide)).symm.trans h)).later hb, E1.out.later hb, E2.out.later hb, fun h => (by first | exact F0.out ((putL_ne (i := 1) (by decide)).symm.trans h) | rfl), fun _ => rfl, fun h => absurd (hcl 2 ((putL_ne (i := 1) (by decide)).symm.trans h) 1 (by decide)) (by rw [hLi]; decide), fun h => absurd (hcl 3 ((putL_ne (i := 1) (by decide)).symm.trans h) 1 (by decide)) (by rw [hLi]; decide), fun h => absurd (hcl 4 ((putL_ne (i := 1) (by decide)).symm.trans h) 1 (by decide)) (by rw [hLi]; decide), fun h => absurd (hcl 5 ((putL_ne (i := 1) (by decide)).symm.trans h) 1 (by decide)) (by rw [hLi]; decide), fun h => absurd (hcl 6 ((putL_ne (i := 1) (by decide)).symm.trans h) 1 (by decide)) (by rw [hLi]; decide), fun h => absurd (hcl 7 ((putL_ne (i := 1) (by decide)).symm.trans h) 1 (by decide)) (by rw [hLi]; decide), fun h => absurd (hcl 8 ((putL_ne (i := 1) (by decide)).symm.trans h) 1 (by decide)) (by rw [hLi]; decide), fun h => absurd (hcl 9 ((putL_ne (i := 1) (by decide)).symm.trans h) 1 (by decide)) (by rw [hLi]; decide)⟩
    · have f0 := F0.out (hanc 0 (by decide))
      have f1 := F1.out (hanc 1 (by decide))
      have g0 := f0
      have g1 := f1
      subst g0 g1
      refine wpOp_doG 2 (by rfl) (by rfl) ?_
      go_wp2_with fail
      refine (HK.out.yes 7 noH cA 11 nilS [] wx (HT.out.later HS.out) (vsl_nil0 _) sz0 (by decide) HM.out mayTA (okX_7 _)).mono ?_
      rintro e9 wn ⟨vo, rfl, ho9, hb⟩
      have ho9 := ho9.base HS.out.size
      rw [ou1] at ho9
      rw [nx1]
      show I (putL L 2) _ _
      exact (HI.out (putL L 2) _ _).2 ⟨_, _, _, _, _, _, _, _, _, vo, q9, rfl, HS.out.later hb, fun h => (E0.out ((putL_ne (i := 2) (by decide)).symm.trans h)).later hb, E1.out.later hb, E2.out.later hb, fun h => (by first | exact F0.out ((putL_ne (i := 2) (by decide)).symm.trans h) | rfl), fun h => (by first | exact F1.out ((putL_ne (i := 2) (by decide)).symm.trans h) | rfl), fun _ => ⟨rfl, ho9⟩, fun h => absurd (hcl 3 ((putL_ne (i := 2) (by decide)).symm.trans h) 2 (by decide)) (by rw [hLi]; decide), fun h => absurd (hcl 4 ((putL_ne (i := 2) (by decide)).symm.trans h) 2 (by decide)) (by rw [hLi]; decide), fun h => absurd (hcl 5 ((putL_ne (i := 2) (by decide)).symm.trans h) 2 (by decide)) (by rw [hLi]; decide), fun h => absurd (hcl 6 ((putL_ne (i := 2) (by decide)).symm.trans h) 2 (by decide)) (by rw [hLi]; decide), fun h => absurd (hcl 7 ((putL_ne (i := 2) (by decide)).symm.trans h) 2 (by decide)) (by rw [hLi]; decide), fun h => absurd (hcl 8 ((putL_ne (i := 2) (by decide)).symm.trans h) 2 (by decide)) (by rw [hLi]; decide), fun h => absurd (hcl 9 ((putL_ne (i := 2) (by decide)).symm.trans h) 2 (by decide)) (by rw [hLi]; decide)⟩
    · have f0 := F0.out (hanc 0 (by decide))
      have f1 := F1.out (hanc 1 (by decide))
      have f2 := F2.out (hanc 2 (by decide))
      have f := f2.1
      subst f
      refine YieldsIf.wpOp (S := fun _ => True) (v := .tuple #[.agg (stH 7 (cA, 0) nilS).toArray, vo9, .bool true]) (by rfl) (.inl ⟨rfl, fun w _ => rfl⟩) trivial ?_
      simp only [Act.put, List.setIfInBounds_toArray, List.set_cons_zero, List.set_cons_succ]
      have hb : Below wx.heap.size wx wx := Below.refl _ _
      show I (putL L 3) _ _
      exact (HI.out (putL L 3) _ _).2 ⟨_, _, _, _, _, _, _, _, _, vo9, q9, rfl, HS.out.later hb, fun h => (E0.out ((putL_ne (i := 3) (by decide)).symm.trans h)).later hb, E1.out.later hb, E2.out.later hb, fun h => (by first | exact F0.out ((putL_ne (i := 3) (by decide)).symm.trans h) | rfl), fun h => (by first | exact F1.out ((putL_ne (i := 3) (by decide)).symm.trans h) | rfl), fun h => (fun q => ⟨(by first | exact q.1 | rfl), q.2.later hb⟩) (F2.out ((putL_ne (i := 3) (by decide)).symm.trans h)), fun _ => rfl, fun h => absurd (hcl 4 ((putL_ne (i := 3) (by decide)).symm.trans h) 3 (by decide)) (by rw [hLi]; decide), fun h => absurd (hcl 5 ((putL_ne (i := 3) (by decide)).symm.trans h) 3 (by decide)) (by rw [hLi]; decide), fun h => absurd (hcl 6 ((putL_ne (i := 3) (by decide)).symm.trans h) 3 (by decide)) (by rw [hLi]; decide), fun h => absurd (hcl 7 ((putL_ne (i := 3) (by decide)).symm.trans h) 3 (by decide)) (by rw [hLi]; decide), fun h => absurd (hcl 8 ((putL_ne (i := 3) (by decide)).symm.trans h) 3 (by decide)) (by rw [hLi]; decide), fun h => absurd (hcl 9 ((putL_ne (i := 3) (by decide)).symm.trans h) 3 (by decide)) (by rw [hLi]; decide)⟩
    · have f0 := F0.out (hanc 0 (by decide))
      have f1 := F1.out (hanc 1 (by decide))
      have f2 := F2.out (hanc 2 (by decide))
      have f3 := F3.out (hanc 3 (by decide))
      have f := f3
      subst f
      refine YieldsIf.wpOp (S := fun _ => True) (v := .agg (stH 7 (cA, 0) nilS).toArray) (by rfl) (.inl ⟨rfl, fun w _ => by go_simp⟩) trivial ?_
      simp only [Act.put, List.setIfInBounds_toArray, List.set_cons_zero, List.set_cons_succ]
      have hb : Below wx.heap.size wx wx := Below.refl _ _
      show I (putL L 4) _ _
      exact (HI.out (putL L 4) _ _).2 ⟨_, _, _, _, _, _, _, _, _, vo9, q9, rfl, HS.out.later hb, fun h => (E0.out ((putL_ne (i := 4) (by decide)).symm.trans h)).later hb, E1.out.later hb, E2.out.later hb, fun h => (by first | exact F0.out ((putL_ne (i := 4) (by decide)).symm.trans h) | rfl), fun h => (by first | exact F1.out ((putL_ne (i := 4) (by decide)).symm.trans h) | rfl), fun h => (fun q => ⟨(by first | exact q.1 | rfl), q.2.later hb⟩) (F2.out ((putL_ne (i := 4) (by decide)).symm.trans h)), fun h => (by first | exact F3.out ((putL_ne (i := 4) (by decide)).symm.trans h) | rfl), fun _ => rfl, fun h => (by first | exact F5.out ((putL_ne (i := 4) (by decide)).symm.trans h) | rfl), fun h => (by first | exact F6.out ((putL_ne (i := 4) (by decide)).symm.trans h) | rfl), fun h => absurd (hcl 7 ((putL_ne (i := 4) (by decide)).symm.trans h) 4 (by decide)) (by rw [hLi]; decide), fun h => absurd (hcl 8 ((putL_ne (i := 4) (by decide)).symm.trans h) 4 (by decide)) (by rw [hLi]; decide), fun h => absurd (hcl 9 ((putL_ne (i := 4) (by decide)).symm.trans h) 4 (by decide)) (by rw [hLi]; decide)⟩
    · have f0 := F0.out (hanc 0 (by decide))
      have f1 := F1.out (hanc 1 (by decide))
      have f2 := F2.out (hanc 2 (by decide))
      have f3 := F3.out (hanc 3 (by decide))
      have f := f3
      subst f
      refine YieldsIf.wpOp (S := fun _ => True) (v := vo9) (by rfl) (.inl ⟨rfl, fun w _ => by go_simp⟩) trivial ?_
      simp only [Act.put, List.setIfInBounds_toArray, List.set_cons_zero, List.set_cons_succ]
      have hb : Below wx.heap.size wx wx := Below.refl _ _
      show I (putL L 5) _ _
      exact (HI.out (putL L 5) _ _).2 ⟨_, _, _, _, _, _, _, _, _, vo9, q9, rfl, HS.out.later hb, fun h => (E0.out ((putL_ne (i := 5) (by decide)).symm.trans h)).later hb, E1.out.later hb, E2.out.later hb, fun h => (by first | exact F0.out ((putL_ne (i := 5) (by decide)).symm.trans h) | rfl), fun h => (by first | exact F1.out ((putL_ne (i := 5) (by decide)).symm.trans h) | rfl), fun h => (fun q => ⟨(by first | exact q.1 | rfl), q.2.later hb⟩) (F2.out ((putL_ne (i := 5) (by decide)).symm.trans h)), fun h => (by first | exact F3.out ((putL_ne (i := 5) (by decide)).symm.trans h) | rfl), fun h => (by first | exact F4.out ((putL_ne (i := 5) (by decide)).symm.trans h) | rfl), fun _ => rfl, fun h => (by first | exact F6.out ((putL_ne (i := 5) (by decide)).symm.trans h) | rfl), fun h => (fun q => q.later hb) (F7.out ((putL_ne (i := 5) (by decide)).symm.trans h)), fun h => absurd (hcl 8 ((putL_ne (i := 5) (by decide)).symm.trans h) 5 (by decide)) (by rw [hLi]; decide), fun h => (by first | exact F9.out ((putL_ne (i := 5) (by decide)).symm.trans h) | rfl)⟩
    · have f0 := F0.out (hanc 0 (by decide))
      have f1 := F1.out (hanc 1 (by decide))
      have f2 := F2.out (hanc 2 (by decide))
      have f3 := F3.out (hanc 3 (by decide))
      have f := f3
      subst f
      refine YieldsIf.wpOp (S := fun _ => True) (v := .bool true) (by rfl) (.inl ⟨rfl, fun w _ => by go_simp⟩) trivial ?_
      simp only [Act.put, List.setIfInBounds_toArray, List.set_cons_zero, List.set_cons_succ]
      have hb : Below wx.heap.size wx wx := Below.refl _ _
      show I (putL L 6) _ _
      exact (HI.out (putL L 6) _ _).2 ⟨_, _, _, _, _, _, _, _, _, vo9, q9, rfl, HS.out.later hb, fun h => (E0.out ((putL_ne (i := 6) (by decide)).symm.trans h)).later hb, E1.out.later hb, E2.out.later hb, fun h => (by first | exact F0.out ((putL_ne (i := 6) (by decide)).symm.trans h) | rfl), fun h => (by first | exact F1.out ((putL_ne (i := 6) (by decide)).symm.trans h) | rfl), fun h => (fun q => ⟨(by first | exact q.1 | rfl), q.2.later hb⟩) (F2.out ((putL_ne (i := 6) (by decide)).symm.trans h)), fun h => (by first | exact F3.out ((putL_ne (i := 6) (by decide)).symm.trans h) | rfl), fun h => (by first | exact F4.out ((putL_ne (i := 6) (by decide)).symm.trans h) | rfl), fun h => (by first | exact F5.out ((putL_ne (i := 6) (by decide)).symm.trans h) | rfl), fun _ => rfl, fun h => (fun q => q.later hb) (F7.out ((putL_ne (i := 6) (by decide)).symm.trans h)), fun h => (by first | exact F8.out ((putL_ne (i := 6) (by decide)).symm.trans h) | rfl), fun h => absurd (hcl 9 ((putL_ne (i := 6) (by decide)).symm.trans h) 6 (by decide)) (by rw [hLi]; decide)⟩
    · have f0 := F0.out (hanc 0 (by decide))
      have f1 := F1.out (hanc 1 (by decide))
      have f2 := F2.out (hanc 2 (by decide))
      have f3 := F3.out (hanc 3 (by decide))
      have f4 := F4.out (hanc 4 (by decide))
      have hun : L 7 = false := hLi
      have hz := E0.out hun
      have f := f4
      subst f
      refine wpOp_doG 7 (by rfl) (by rfl) ?_
      refine wpo_storeB 28 (.tmp 3) (.tmp 26) s 0 (stH 7 (cA, 0) nilS) (stH 7 noH nilS) 28 infoSt (show 0 + 6 ≤ 6 by decide) (stH_one _ _ rfl) rfl rfl rfl hz.s ?_
      intro wn BP ho
      replace BP : Blk wn s (stH 7 (cA, 0) nilS) 28 := BP
      have BS := hz.s
      simp only [Act.put, List.setIfInBounds_toArray, List.set_cons_zero, List.set_cons_succ]
      show I (putL L 7) _ _
      exact (HI.out (putL L 7) _ _).2 ⟨_, _, _, _, _, _, _, _, _, vo9, q9, rfl, below_oth HS.out ho hz.z hz.z HS.out.size, fun h => (by rw [putL_self] at h; cases h), E1.out.oth ho BS (by decide), E2.out.oth ho BS (by decide), fun h => (by first | exact F0.out ((putL_ne (i := 7) (by decide)).symm.trans h) | rfl), fun h => (by first | exact F1.out ((putL_ne (i := 7) (by decide)).symm.trans h) | rfl), fun h => (fun q => ⟨(by first | exact q.1 | rfl), q.2.oth ho BS (by decide)⟩) (F2.out ((putL_ne (i := 7) (by decide)).symm.trans h)), fun h => (by first | exact F3.out ((putL_ne (i := 7) (by decide)).symm.trans h) | rfl), fun h => (by first | exact F4.out ((putL_ne (i := 7) (by decide)).symm.trans h) | rfl), fun h => (by first | exact F5.out ((putL_ne (i := 7) (by decide)).symm.trans h) | rfl), fun h => (by first | exact F6.out ((putL_ne (i := 7) (by decide)).symm.trans h) | rfl), fun _ => ⟨BP, hz.z⟩, fun h => absurd (hcl 8 ((putL_ne (i := 7) (by decide)).symm.trans h) 7 (by decide)) (by rw [hLi]; decide), fun h => absurd (hcl 9 ((putL_ne (i := 7) (by decide)).symm.trans h) 7 (by decide)) (by rw [hLi]; decide)⟩
    · have f0 := F0.out (hanc 0 (by decide))
      have f1 := F1.out (hanc 1 (by decide))
      have f2 := F2.out (hanc 2 (by decide))
      have f3 := F3.out (hanc 3 (by decide))
      have f4 := F4.out (hanc 4 (by decide))
      have f5 := F5.out (hanc 5 (by decide))
      have f7 := F7.out (hanc 7 (by decide))
      refine YieldsIf.wpOp (S := fun _ => True) (v := t27) (by rfl) (.inl ⟨rfl, fun w _ => rfl⟩) trivial ?_
      simp only [Act.put, List.setIfInBounds_toArray, List.set_cons_zero, List.set_cons_succ]
      have hb : Below wx.heap.size wx wx := Below.refl _ _
      show I (putL L 8) _ _
      exact (HI.out (putL L 8) _ _).2 ⟨_, _, _, _, _, _, _, _, _, vo9, q9, rfl, HS.out.later hb, fun h => (E0.out ((putL_ne (i := 8) (by decide)).symm.trans h)).later hb, E1.out.later hb, E2.out.later hb, fun h => (by first | exact F0.out ((putL_ne (i := 8) (by decide)).symm.trans h) | rfl), fun h => (by first | exact F1.out ((putL_ne (i := 8) (by decide)).symm.trans h) | rfl), fun h => (fun q => ⟨(by first | exact q.1 | rfl), q.2.later hb⟩) (F2.out ((putL_ne (i := 8) (by decide)).symm.trans h)), fun h => (by first | exact F3.out ((putL_ne (i := 8) (by decide)).symm.trans h) | rfl), fun h => (by first | exact F4.out ((putL_ne (i := 8) (by decide)).symm.trans h) | rfl), fun h => (by first | exact F5.out ((putL_ne (i := 8) (by decide)).symm.trans h) | rfl), fun h => (by first | exact F6.out ((putL_ne (i := 8) (by decide)).symm.trans h) | rfl), fun h => (fun q => q.later hb) (F7.out ((putL_ne (i := 8) (by decide)).symm.trans h)), fun _ => f5, fun h => (by first | exact F9.out ((putL_ne (i := 8) (by decide)).symm.trans h) | rfl)⟩
    · have f0 := F0.out (hanc 0 (by decide))
      have f1 := F1.out (hanc 1 (by decide))
      have f2 := F2.out (hanc 2 (by decide))
      have f3 := F3.out (hanc 3 (by decide))
      have f4 := F4.out (hanc 4 (by decide))
      have f6 := F6.out (hanc 6 (by decide))
      have f7 := F7.out (hanc 7 (by decide))
      refine YieldsIf.wpOp (S := fun _ => True) (v := t28) (by rfl) (.inl ⟨rfl, fun w _ => rfl⟩) trivial ?_
      simp only [Act.put, List.setIfInBounds_toArray, List.set_cons_zero, List.set_cons_succ]
      have hb : Below wx.heap.size wx wx := Below.refl _ _
      show I (putL L 9) _ _
      exact (HI.out (putL L 9) _ _).2 ⟨_, _, _, _, _, _, _, _, _, vo9, q9, rfl, HS.out.later hb, fun h => (E0.out ((putL_ne (i := 9) (by decide)).symm.trans h)).later hb, E1.out.later hb, E2.out.later hb, fun h => (by first | exact F0.out ((putL_ne (i := 9) (by decide)).symm.trans h) | rfl), fun h => (by first | exact F1.out ((putL_ne (i := 9) (by decide)).symm.trans h) | rfl), fun h => (fun q => ⟨(by first | exact q.1 | rfl), q.2.later hb⟩) (F2.out ((putL_ne (i := 9) (by decide)).symm.trans h)), fun h => (by first | exact F3.out ((putL_ne (i := 9) (by decide)).symm.trans h) | rfl), fun h => (by first | exact F4.out ((putL_ne (i := 9) (by decide)).symm.trans h) | rfl), fun h => (by first | exact F5.out ((putL_ne (i := 9) (by decide)).symm.trans h) | rfl), fun h => (by first | exact F6.out ((putL_ne (i := 9) (by decide)).symm.trans h) | rfl), fun h => (fun q => q.later hb) (F7.out ((putL_ne (i := 9) (by decide)).symm.trans h)), fun h => (by first | exact F8.out ((putL_ne (i := 9) (by decide)).symm.trans h) | rfl), fun _ => f6⟩
  · intro L act wx hall hIa
    obtain ⟨t23, t24, t25, t22, t26, t27, t28, t5, t6, vo9, q9, rfl, HS, E0, E1, E2, F0, F1, F2, F3, F4, F5, F6, F7, F8, F9⟩ := (HI.out _ _ _).1 hIa
    have f0 := F0.out (hall 0 (by decide))
    have f1 := F1.out (hall 1 (by decide))
    have f2 := F2.out (hall 2 (by decide))
    have f3 := F3.out (hall 3 (by decide))
    have f4 := F4.out (hall 4 (by decide))
    have f5 := F5.out (hall 5 (by decide))
    have f6 := F6.out (hall 6 (by decide))
    have f7 := F7.out (hall 7 (by decide))
    have f8 := F8.out (hall 8 (by decide))
    have f9 := F9.out (hall 9 (by decide))
    clear hIa HI F0 F1 F2 F3 F4 F5 F6 F7 F8 F9
    show K9 _ _
    apply hK9
    clear hK9
    have ho := f2.2
    rw [← f8] at ho
    have HO0 : Hid (OwnV wx w.heap.size t5 [yesV true]) := ho
    have HP1 : Hid (Below w.heap.size w wx ∧ Hh 7 w wx s (cA, 0)) := ⟨HS.out, f7⟩
    have G00 := E1
    have G01 := E2
    clear ho HS E0 E1 E2 f0 f1 f2 f3 f4 f5 f6 f7 f8 f9
    generalize wx = w4 at HP1 G00 G01 HO0 ⊢
    go_wp2_with fail
    rename_i K9 hK9
    obtain ⟨I, hI⟩ : ∃ I : (Nat → Bool) → Act → World → Prop, ∀ L act wx, I L act wx ↔ (fun (L : Nat → Bool) (act : Act) (wx : World) => ∃ (t30 : Value) (t31 : Value) (t32 : Value) (t29 : Value) (t33 : Value) (t34 : Value) (t35 : Value) (t7 : Value) (t8 : Value) (vo9 : Value) (q9 : Nat), act = ⟨#[Value.bool false, vy, vn, Value.pointer (some ⟨s, 0, none⟩), Value.bool true, t5, t6, t7, t8, undef, undef, undef, undef, undef, Value.agg #[Value.int .i64 3, Value.int .i64 1, Value.string ⟨#[]⟩], vy, Value.agg #[Value.int .i64 3, Value.int .i64 0, Value.string ⟨#[]⟩], vn, Value.tuple #[Value.agg #[Value.int .i64 7, Value.int .i64 0, Value.int .i64 0, Value.string noB, Value.int .i64 0, nilS], Value.bool true], Value.tuple #[Value.agg #[Value.int .i64 7, Value.int .i64 0, Value.int .i64 0, Value.string noB, Value.int .i64 0, nilS], Value.bool true], Value.agg #[Value.int .i64 7, Value.int .i64 0, Value.int .i64 0, Value.string noB, Value.int .i64 0, nilS], Value.bool true, t22, t23, t24, t25, t26, t27, t28, t29, t30, t31, t32, t33, t34, t35, undef, undef, undef, undef, undef, undef, undef, undef, undef, undef, undef, undef, undef, undef, undef, undef, undef, undef, undef, undef, undef, undef, undef, undef, undef, undef, undef, undef, undef, undef, undef, undef], []⟩ ∧ Hid (StW w wx) ∧ Hid (L 7 = false → Hh 7 w wx s (cA, 0)) ∧ Hid (OwnV wx w.heap.size vy [yesV true]) ∧ Hid (OwnV wx w.heap.size vn [yesV false]) ∧ Hid (OwnV wx w.heap.size t5 [yesV true]) ∧ Hid (L 0 = true → t30 = .agg (stH 7 (cA, 0) nilS).toArray) ∧ Hid (L 1 = true → t31 = .agg #[.int .i64 2, .int .i64 0, .string ⟨#[98]⟩]) ∧ Hid (L 2 = true → t32 = .tuple #[.agg (stH 7 (cA, 0) nilS).toArray, vo9, .bool true] ∧ OwnV wx w.heap.size vo9 [yesV false]) ∧ Hid (L 3 = true → t29 = .tuple #[.agg (stH 7 (cA, 0) nilS).toArray, vo9, .bool true]) ∧ Hid (L 4 = true → t33 = .agg (stH 7 (cA, 0) nilS).toArray) ∧ Hid (L 5 = true → t34 = vo9) ∧ Hid (L 6 = true → t35 = .bool true) ∧ Hid (L 7 = true → Hh 7 w wx s (cA, 0)) ∧ Hid (L 8 = true → t7 = vo9) ∧ Hid (L 9 = true → t8 = .bool true)) L act wx := ⟨_, fun _ _ _ => Iff.rfl⟩
    dsimp only at hI
    have HI : Hid (∀ L act wx, I L act wx ↔ _) := hI
    clear hI
    refine wp_region_inv mixed [[], [], [0, 1], [0, 1, 2], [0, 1, 2, 3], [0, 1, 2, 3], [0, 1, 2, 3], [0, 1, 2, 3, 4], [0, 1, 2, 3, 4, 5, 7], [0, 1, 2, 3, 4, 6, 7]] (by kernel_rfl) I ?_ ?_ ?_
    · refine (HI.out _ _ _).2 ⟨_, _, _, _, _, _, _, _, _, undef, 0, rfl, ?_, ?_, ?_, ?_, ?_, fun h => Bool.noConfusion h, fun h => Bool.noConfusion h, fun h => Bool.noConfusion h, fun h => Bool.noConfusion h, fun h => Bool.noConfusion h, fun h => Bool.noConfusion h, fun h => Bool.noConfusion h, fun h => Bool.noConfusion h, fun h => Bool.noConfusion h, fun h => Bool.noConfusion h⟩
      · exact below_next HP1.out.1 (Stay.drew _)
      · exact fun _ => HP1.out.2.later (Stay.drew _)
      · exact G00.out.later (Stay.drew _)
      · exact G01.out.later (Stay.drew _)
      · exact HO0.out.later (Stay.drew _)
    · intro i hi L act wx hIa hLi hcl hanc
      obtain ⟨t30, t31, t32, t29, t33, t34, t35, t7, t8, vo9, q9, rfl, HS, E0, E1, E2, E3, F0, F1, F2, F3, F4, F5, F6, F7, F8, F9⟩ := (HI.out _ _ _).1 hIa
      clear hIa
      have hi' : i = 0 ∨ i = 1 ∨ i = 2 ∨ i = 3 ∨ i = 4 ∨ i = 5 ∨ i = 6 ∨ i = 7 ∨ i = 8 ∨ i = 9 := by have hi : i < 10 := hi; omega
      clear hi
      rcases hi' with rfl | rfl | rfl | rfl | rfl | rfl | rfl | rfl | rfl | rfl
      · have hun : L 7 = false := by
          cases h : L 7
          · rfl
          · exact absurd (hcl 7 h 0 (by decide)) (by rw [hLi]; decide)
        have hz := E0.out hun
        refine wpOp_doG 0 (by rfl) (by rfl) ?_
        refine wp_load_mid 28 (.tmp 3) rfl s 0 rfl (stH 7 (cA, 0) nilS) _ (Blk.all hz.s) Tryd.underlying28 rfl infoSt ?_
        simp only [Act.put, List.setIfInBounds_toArray, List.set_cons_zero, List.set_cons_succ]
        have hb : Below wx.heap.size wx wx := Below.refl _ _
        show I (putL L 0) _ _
        exact (HI.out (putL L 0) _ _).2 ⟨_, _, _, _, _, _, _, _, _, vo9, q9, rfl, HS.out.later hb, fun h => (E0.out ((putL_ne (i := 0) (by decide)).symm.trans h)).later hb, E1.out.later hb, E2.out.later hb, E3.out.later hb, fun _ => rfl, fun h => (by first | exact F1.out ((putL_ne (i := 0) (by decide)).symm.trans h) | rfl), fun h => absurd (hcl 2 ((putL_ne (i := 0) (by decide)).symm.trans h) 0 (by decide)) (by rw [hLi]; decide), fun h => absurd (hcl 3 ((putL_ne (i := 0) (by decide)).symm.trans h) 0 (by decide)) (by rw [hLi]; decide), fun h => absurd (hcl 4 ((putL_ne (i := 0) (by decide)).symm.trans h) 0 (by decide)) (by rw [hLi]; decide), fun h => absurd (hcl 5 ((putL_ne (i := 0) (by decide)).symm.trans h) 0 (by decide)) (by rw [hLi]; decide), fun h => absurd (hcl 6 ((putL_ne (i := 0) (by decide)).symm.trans h) 0 (by decide)) (by rw [hLi]; decide), fun h => absurd (hcl 7 ((putL_ne (i := 0) (by decide)).symm.trans h) 0 (by decide)) (by rw [hLi]; decide), fun h => absurd (hcl 8 ((putL_ne (i := 0) (by decide)).symm.trans h) 0 (by decide)) (by rw [hLi]; decide), fun h => absurd (hcl 9 ((putL_ne (i := 0) (by decide)).symm.trans h) 0 (by decide)) (by rw [hLi]; decide)⟩
      · refine wpOp_doG 1 (by rfl) (by rfl) ?_
        go_wp2_with fail
        refine (who_any ⟨#[98]⟩ wx).mono ?_
        rintro e9 wn ⟨rfl, hb⟩
        show I (putL L 1) _ _
        exact (HI.out (putL L 1) _ _).2 ⟨_, _, _, _, _, _, _, _, _, vo9, q9, rfl, HS.out.later hb, fun h => (E0.out ((putL_ne (i := 1) (by decide)).symm.trans h)).later hb, E1.out.later hb, E2.out.later hb, E3.out.later hb, fun h => (by first | exact F0.out ((putL_ne (i := 1) (by decide)).symm.trans h) | rfl), fun _ => rfl, fun h => absurd (hcl 2 ((putL_ne (i := 1) (by decide)).symm.trans h) 1 (by decide)) (by rw [hLi]; decide), fun h => absurd (hcl 3 ((putL_ne (i := 1) (by decide)).symm.trans h) 1 (by decide)) (by rw [hLi]; decide), fun h => absurd (hcl 4 ((putL_ne (i := 1) (by decide)).symm.trans h) 1 (by decide)) (by rw [hLi]; decide), fun h => absurd (hcl 5 ((putL_ne (i := 1) (by decide)).symm.trans h) 1 (by decide)) (by rw [hLi]; decide), fun h => absurd (hcl 6 ((putL_ne (i := 1) (by decide)).symm.trans h) 1 (by decide)) (by rw [hLi]; decide), fun h => absurd (hcl 7 ((putL_ne (i := 1) (by decide)).symm.trans h) 1 (by decide)) (by rw [hLi]; decide), fun h => absurd (hcl 8 ((putL_ne (i := 1) (by decide)).symm.trans h) 1 (by decide)) (by rw [hLi]; decide), fun h => absurd (hcl 9 ((putL_ne (i := 1) (by decide)).symm.trans h) 1 (by decide)) (by rw [hLi]; decide)⟩
      · have f0 := F0.out (hanc 0 (by decide))
        have f1 := F1.out (hanc 1 (by decide))
        have g0 := f0
        have g1 := f1
        subst g0 g1
        refine wpOp_doG 2 (by rfl) (by rfl) ?_
        go_wp2_with fail
        refine (HK.out.yes 7 (cA, 0) cB 11 nilS [] wx (HT.out.later HS.out) (vsl_nil0 _) sz0 (by decide) HM.out mayTB (okX_7 _)).mono ?_
        rintro e9 wn ⟨vo, rfl, ho9, hb⟩
        have ho9 := ho9.base HS.out.size
        rw [ou2] at ho9
        rw [nx2]
        show I (putL L 2) _ _
        exact (HI.out (putL L 2) _ _).2 ⟨_, _, _, _, _, _, _, _, _, vo, q9, rfl, HS.out.later hb, fun h => (E0.out ((putL_ne (i := 2) (by decide)).symm.trans h)).later hb, E1.out.later hb, E2.out.later hb, E3.out.later hb, fun h => (by first | exact F0.out ((putL_ne (i := 2) (by decide)).symm.trans h) | rfl), fun h => (by first | exact F1.out ((putL_ne (i := 2) (by decide)).symm.trans h) | rfl), fun _ => ⟨rfl, ho9⟩, fun h => absurd (hcl 3 ((putL_ne (i := 2) (by decide)).symm.trans h) 2 (by decide)) (by rw [hLi]; decide), fun h => absurd (hcl 4 ((putL_ne (i := 2) (by decide)).symm.trans h) 2 (by decide)) (by rw [hLi]; decide), fun h => absurd (hcl 5 ((putL_ne (i := 2) (by decide)).symm.trans h) 2 (by decide)) (by rw [hLi]; decide), fun h => absurd (hcl 6 ((putL_ne (i := 2) (by decide)).symm.trans h) 2 (by decide)) (by rw [hLi]; decide), fun h => absurd (hcl 7 ((putL_ne (i := 2) (by decide)).symm.trans h) 2 (by decide)) (by rw [hLi]; decide), fun h => absurd (hcl 8 ((putL_ne (i := 2) (by decide)).symm.trans h) 2 (by decide)) (by rw [hLi]; decide), fun h => absurd (hcl 9 ((putL_ne (i := 2) (by decide)).symm.trans h) 2 (by decide)) (by rw [hLi]; decide)⟩
      · have f0 := F0.out (hanc 0 (by decide))
        have f1 := F1.out (hanc 1 (by decide))
        have f2 := F2.out (hanc 2 (by decide))
        have f := f2.1
        subst f
        refine YieldsIf.wpOp (S := fun _ => True) (v := .tuple #[.agg (stH 7 (cA, 0) nilS).toArray, vo9, .bool true]) (by rfl) (.inl ⟨rfl, fun w _ => rfl⟩) trivial ?_
        simp only [Act.put, List.setIfInBounds_toArray, List.set_cons_zero, List.set_cons_succ]
        have hb : Below wx.heap.size wx wx := Below.refl _ _
        show I (putL L 3) _ _
        exact (HI.out (putL L 3) _ _).2 ⟨_, _, _, _, _, _, _, _, _, vo9, q9, rfl, HS.out.later hb, fun h => (E0.out ((putL_ne (i := 3) (by decide)).symm.trans h)).later hb, E1.out.later hb, E2.out.later hb, E3.out.later hb, fun h => (by first | exact F0.out ((putL_ne (i := 3) (by decide)).symm.trans h) | rfl), fun h => (by first | exact F1.out ((putL_ne (i := 3) (by decide)).symm.trans h) | rfl), fun h => (fun q => ⟨(by first | exact q.1 | rfl), q.2.later hb⟩) (F2.out ((putL_ne (i := 3) (by decide)).symm.trans h)), fun _ => rfl, fun h => absurd (hcl 4 ((putL_ne (i := 3) (by decide)).symm.trans h) 3 (by decide)) (by rw [hLi]; decide), fun h => absurd (hcl 5 ((putL_ne (i := 3) (by decide)).symm.trans h) 3 (by decide)) (by rw [hLi]; decide), fun h => absurd (hcl 6 ((putL_ne (i := 3) (by decide)).symm.trans h) 3 (by decide)) (by rw [hLi]; decide), fun h => absurd (hcl 7 ((putL_ne (i := 3) (by decide)).symm.trans h) 3 (by decide)) (by rw [hLi]; decide), fun h => absurd (hcl 8 ((putL_ne (i := 3) (by decide)).symm.trans h) 3 (by decide)) (by rw [hLi]; decide), fun h => absurd (hcl 9 ((putL_ne (i := 3) (by decide)).symm.trans h) 3 (by decide)) (by rw [hLi]; decide)⟩
      · have f0 := F0.out (hanc 0 (by decide))
        have f1 := F1.out (hanc 1 (by decide))
        have f2 := F2.out (hanc 2 (by decide))
        have f3 := F3.out (hanc 3 (by decide))
        have f := f3
        subst f
        refine YieldsIf.wpOp (S := fun _ => True) (v := .agg (stH 7 (cA, 0) nilS).toArray) (by rfl) (.inl ⟨rfl, fun w _ => by go_simp⟩) trivial ?_
        simp only [Act.put, List.setIfInBounds_toArray, List.set_cons_zero, List.set_cons_succ]
        have hb : Below wx.heap.size wx wx := Below.refl _ _
        show I (putL L 4) _ _
        exact (HI.out (putL L 4) _ _).2 ⟨_, _, _, _, _, _, _, _, _, vo9, q9, rfl, HS.out.later hb, fun h => (E0.out ((putL_ne (i := 4) (by decide)).symm.trans h)).later hb, E1.out.later hb, E2.out.later hb, E3.out.later hb, fun h => (by first | exact F0.out ((putL_ne (i := 4) (by decide)).symm.trans h) | rfl), fun h => (by first | exact F1.out ((putL_ne (i := 4) (by decide)).symm.trans h) | rfl), fun h => (fun q => ⟨(by first | exact q.1 | rfl), q.2.later hb⟩) (F2.out ((putL_ne (i := 4) (by decide)).symm.trans h)), fun h => (by first | exact F3.out ((putL_ne (i := 4) (by decide)).symm.trans h) | rfl), fun _ => rfl, fun h => (by first | exact F5.out ((putL_ne (i := 4) (by decide)).symm.trans h) | rfl), fun h => (by first | exact F6.out ((putL_ne (i := 4) (by decide)).symm.trans h) | rfl), fun h => absurd (hcl 7 ((putL_ne (i := 4) (by decide)).symm.trans h) 4 (by decide)) (by rw [hLi]; decide), fun h => absurd (hcl 8 ((putL_ne (i := 4) (by decide)).symm.trans h) 4 (by decide)) (by rw [hLi]; decide), fun h => absurd (hcl 9 ((putL_ne (i := 4) (by decide)).symm.trans h) 4 (by decide)) (by rw [hLi]; decide)⟩
      · have f0 := F0.out (hanc 0 (by decide))
        have f1 := F1.out (hanc 1 (by decide))
        have f2 := F2.out (hanc 2 (by decide))
        have f3 := F3.out (hanc 3 (by decide))
        have f := f3
        subst f
        refine YieldsIf.wpOp (S := fun _ => True) (v := vo9) (by rfl) (.inl ⟨rfl, fun w _ => by go_simp⟩) trivial ?_
        simp only [Act.put, List.setIfInBounds_toArray, List.set_cons_zero, List.set_cons_succ]
        have hb : Below wx.heap.size wx wx := Below.refl _ _
        show I (putL L 5) _ _
        exact (HI.out (putL L 5) _ _).2 ⟨_, _, _, _, _, _, _, _, _, vo9, q9, rfl, HS.out.later hb, fun h => (E0.out ((putL_ne (i := 5) (by decide)).symm.trans h)).later hb, E1.out.later hb, E2.out.later hb, E3.out.later hb, fun h => (by first | exact F0.out ((putL_ne (i := 5) (by decide)).symm.trans h) | rfl), fun h => (by first | exact F1.out ((putL_ne (i := 5) (by decide)).symm.trans h) | rfl), fun h => (fun q => ⟨(by first | exact q.1 | rfl), q.2.later hb⟩) (F2.out ((putL_ne (i := 5) (by decide)).symm.trans h)), fun h => (by first | exact F3.out ((putL_ne (i := 5) (by decide)).symm.trans h) | rfl), fun h => (by first | exact F4.out ((putL_ne (i := 5) (by decide)).symm.trans h) | rfl), fun _ => rfl, fun h => (by first | exact F6.out ((putL_ne (i := 5) (by decide)).symm.trans h) | rfl), fun h => (fun q => q.later hb) (F7.out ((putL_ne (i := 5) (by decide)).symm.trans h)), fun h => absurd (hcl 8 ((putL_ne (i := 5) (by decide)).symm.trans h) 5 (by decide)) (by rw [hLi]; decide), fun h => (by first | exact F9.out ((putL_ne (i := 5) (by decide)).symm.trans h) | rfl)⟩
      · have f0 := F0.out (hanc 0 (by decide))
        have f1 := F1.out (hanc 1 (by decide))
        have f2 := F2.out (hanc 2 (by decide))
        have f3 := F3.out (hanc 3 (by decide))
        have f := f3
        subst f
        refine YieldsIf.wpOp (S := fun _ => True) (v := .bool true) (by rfl) (.inl ⟨rfl, fun w _ => by go_simp⟩) trivial ?_
        simp only [Act.put, List.setIfInBounds_toArray, List.set_cons_zero, List.set_cons_succ]
        have hb : Below wx.heap.size wx wx := Below.refl _ _
        show I (putL L 6) _ _
        exact (HI.out (putL L 6) _ _).2 ⟨_, _, _, _, _, _, _, _, _, vo9, q9, rfl, HS.out.later hb, fun h => (E0.out ((putL_ne (i := 6) (by decide)).symm.trans h)).later hb, E1.out.later hb, E2.out.later hb, E3.out.later hb, fun h => (by first | exact F0.out ((putL_ne (i := 6) (by decide)).symm.trans h) | rfl), fun h => (by first | exact F1.out ((putL_ne (i := 6) (by decide)).symm.trans h) | rfl), fun h => (fun q => ⟨(by first | exact q.1 | rfl), q.2.later hb⟩) (F2.out ((putL_ne (i := 6) (by decide)).symm.trans h)), fun h => (by first | exact F3.out ((putL_ne (i := 6) (by decide)).symm.trans h) | rfl), fun h => (by first | exact F4.out ((putL_ne (i := 6) (by decide)).symm.trans h) | rfl), fun h => (by first | exact F5.out ((putL_ne (i := 6) (by decide)).symm.trans h) | rfl), fun _ => rfl, fun h => (fun q => q.later hb) (F7.out ((putL_ne (i := 6) (by decide)).symm.trans h)), fun h => (by first | exact F8.out ((putL_ne (i := 6) (by decide)).symm.trans h) | rfl), fun h => absurd (hcl 9 ((putL_ne (i := 6) (by decide)).symm.trans h) 6 (by decide)) (by rw [hLi]; decide)⟩
      · have f0 := F0.out (hanc 0 (by decide))
        have f1 := F1.out (hanc 1 (by decide))
        have f2 := F2.out (hanc 2 (by decide))
        have f3 := F3.out (hanc 3 (by decide))
        have f4 := F4.out (hanc 4 (by decide))
        have hun : L 7 = false := hLi
        have hz := E0.out hun
        have f := f4
        subst f
        refine wpOp_doG 7 (by rfl) (by rfl) ?_
        refine wpo_storeB 28 (.tmp 3) (.tmp 33) s 0 (stH 7 (cA, 0) nilS) (stH 7 (cA, 0) nilS) 28 infoSt (show 0 + 6 ≤ 6 by decide) (stH_one _ _ rfl) rfl rfl rfl hz.s ?_
        intro wn BP ho
        replace BP : Blk wn s (stH 7 (cA, 0) nilS) 28 := BP
        have BS := hz.s
        simp only [Act.put, List.setIfInBounds_toArray, List.set_cons_zero, List.set_cons_succ]
        show I (putL L 7) _ _
        exact (HI.out (putL L 7) _ _).2 ⟨_, _, _, _, _, _, _, _, _, vo9, q9, rfl, below_oth HS.out ho hz.z hz.z HS.out.size, fun h => (by rw [putL_self] at h; cases h), E1.out.oth ho BS (by decide), E2.out.oth ho BS (by decide), E3.out.oth ho BS (by decide), fun h => (by first | exact F0.out ((putL_ne (i := 7) (by decide)).symm.trans h) | rfl), fun h => (by first | exact F1.out ((putL_ne (i := 7) (by decide)).symm.trans h) | rfl), fun h => (fun q => ⟨(by first | exact q.1 | rfl), q.2.oth ho BS (by decide)⟩) (F2.out ((putL_ne (i := 7) (by decide)).symm.trans h)), fun h => (by first | exact F3.out ((putL_ne (i := 7) (by decide)).symm.trans h) | rfl), fun h => (by first | exact F4.out ((putL_ne (i := 7) (by decide)).symm.trans h) | rfl), fun h => (by first | exact F5.out ((putL_ne (i := 7) (by decide)).symm.trans h) | rfl), fun h => (by first | exact F6.out ((putL_ne (i := 7) (by decide)).symm.trans h) | rfl), fun _ => ⟨BP, hz.z⟩, fun h => absurd (hcl 8 ((putL_ne (i := 7) (by decide)).symm.trans h) 7 (by decide)) (by rw [hLi]; decide), fun h => absurd (hcl 9 ((putL_ne (i := 7) (by decide)).symm.trans h) 7 (by decide)) (by rw [hLi]; decide)⟩
      · have f0 := F0.out (hanc 0 (by decide))
        have f1 := F1.out (hanc 1 (by decide))
        have f2 := F2.out (hanc 2 (by decide))
        have f3 := F3.out (hanc 3 (by decide))
        have f4 := F4.out (hanc 4 (by decide))
        have f5 := F5.out (hanc 5 (by decide))
        have f7 := F7.out (hanc 7 (by decide))
        refine YieldsIf.wpOp (S := fun _ => True) (v := t34) (by rfl) (.inl ⟨rfl, fun w _ => rfl⟩) trivial ?_
        simp only [Act.put, List.setIfInBounds_toArray, List.set_cons_zero, List.set_cons_succ]
        have hb : Below wx.heap.size wx wx := Below.refl _ _
        show I (putL L 8) _ _
        exact (HI.out (putL L 8) _ _).2 ⟨_, _, _, _, _, _, _, _, _, vo9, q9, rfl, HS.out.later hb, fun h => (E0.out ((putL_ne (i := 8) (by decide)).symm.trans h)).later hb, E1.out.later hb, E2.out.later hb, E3.out.later hb, fun h => (by first | exact F0.out ((putL_ne (i := 8) (by decide)).symm.trans h) | rfl), fun h => (by first | exact F1.out ((putL_ne (i := 8) (by decide)).symm.trans h) | rfl), fun h => (fun q => ⟨(by first | exact q.1 | rfl), q.2.later hb⟩) (F2.out ((putL_ne (i := 8) (by decide)).symm.trans h)), fun h => (by first | exact F3.out ((putL_ne (i := 8) (by decide)).symm.trans h) | rfl), fun h => (by first | exact F4.out ((putL_ne (i := 8) (by decide)).symm.trans h) | rfl), fun h => (by first | exact F5.out ((putL_ne (i := 8) (by decide)).symm.trans h) | rfl), fun h => (by first | exact F6.out ((putL_ne (i := 8) (by decide)).symm.trans h) | rfl), fun h => (fun q => q.later hb) (F7.out ((putL_ne (i := 8) (by decide)).symm.trans h)), fun _ => f5, fun h => (by first | exact F9.out ((putL_ne (i := 8) (by decide)).symm.trans h) | rfl)⟩
      · have f0 := F0.out (hanc 0 (by decide))
        have f1 := F1.out (hanc 1 (by decide))
        have f2 := F2.out (hanc 2 (by decide))
        have f3 := F3.out (hanc 3 (by decide))
        have f4 := F4.out (hanc 4 (by decide))
        have f6 := F6.out (hanc 6 (by decide))
        have f7 := F7.out (hanc 7 (by decide))
        refine YieldsIf.wpOp (S := fun _ => True) (v := t35) (by rfl) (.inl ⟨rfl, fun w _ => rfl⟩) trivial ?_
        simp only [Act.put, List.setIfInBounds_toArray, List.set_cons_zero, List.set_cons_succ]
        have hb : Below wx.heap.size wx wx := Below.refl _ _
        show I (putL L 9) _ _
        exact (HI.out (putL L 9) _ _).2 ⟨_, _, _, _, _, _, _, _, _, vo9, q9, rfl, HS.out.later hb, fun h => (E0.out ((putL_ne (i := 9) (by decide)).symm.trans h)).later hb, E1.out.later hb, E2.out.later hb, E3.out.later hb, fun h => (by first | exact F0.out ((putL_ne (i := 9) (by decide)).symm.trans h) | rfl), fun h => (by first | exact F1.out ((putL_ne (i := 9) (by decide)).symm.trans h) | rfl), fun h => (fun q => ⟨(by first | exact q.1 | rfl), q.2.later hb⟩) (F2.out ((putL_ne (i := 9) (by decide)).symm.trans h)), fun h => (by first | exact F3.out ((putL_ne (i := 9) (by decide)).symm.trans h) | rfl), fun h => (by first | exact F4.out ((putL_ne (i := 9) (by decide)).symm.trans h) | rfl), fun h => (by first | exact F5.out ((putL_ne (i := 9) (by decide)).symm.trans h) | rfl), fun h => (by first | exact F6.out ((putL_ne (i := 9) (by decide)).symm.trans h) | rfl), fun h => (fun q => q.later hb) (F7.out ((putL_ne (i := 9) (by decide)).symm.trans h)), fun h => (by first | exact F8.out ((putL_ne (i := 9) (by decide)).symm.trans h) | rfl), fun _ => f6⟩
    · intro L act wx hall hIa
      obtain ⟨t30, t31, t32, t29, t33, t34, t35, t7, t8, vo9, q9, rfl, HS, E0, E1, E2, E3, F0, F1, F2, F3, F4, F5, F6, F7, F8, F9⟩ := (HI.out _ _ _).1 hIa
      have f0 := F0.out (hall 0 (by decide))
      have f1 := F1.out (hall 1 (by decide))
      have f2 := F2.out (hall 2 (by decide))
      have f3 := F3.out (hall 3 (by decide))
      have f4 := F4.out (hall 4 (by decide))
      have f5 := F5.out (hall 5 (by decide))
      have f6 := F6.out (hall 6 (by decide))
      have f7 := F7.out (hall 7 (by decide))
      have f8 := F8.out (hall 8 (by decide))
      have f9 := F9.out (hall 9 (by decide))
      clear hIa HI F0 F1 F2 F3 F4 F5 F6 F7 F8 F9
      show K9 _ _
      apply hK9
      clear hK9
      have ho := f2.2
      rw [← f8] at ho
      have HO1 : Hid (OwnV wx w.heap.size t7 [yesV false]) := ho
      have HP2 : Hid (Below w.heap.size w wx ∧ Hh 7 w wx s (cA, 0)) := ⟨HS.out, f7⟩
      have G10 := E1
      have G11 := E2
      have G12 := E3
      clear ho HS E0 E1 E2 E3 f0 f1 f2 f3 f4 f5 f6 f7 f8 f9
      generalize wx = w5 at HP2 G10 G11 G12 HO1 ⊢
      go_wp2_with fail
      rename_i K9 hK9
      obtain ⟨I, hI⟩ : ∃ I : (Nat → Bool) → Act → World → Prop, ∀ L act wx, I L act wx ↔ (fun (L : Nat → Bool) (act : Act) (wx : World) => ∃ (t37 : Value) (t38 : Value) (t39 : Value) (t36 : Value) (t40 : Value) (t41 : Value) (t42 : Value) (t9 : Value) (t10 : Value) (vo9 : Value) (q9 : Nat), act = ⟨#[Value.bool false, vy, vn, Value.pointer (some ⟨s, 0, none⟩), Value.bool true, t5, t6, t7, t8, t9, t10, undef, undef, undef, Value.agg #[Value.int .i64 3, Value.int .i64 1, Value.string ⟨#[]⟩], vy, Value.agg #[Value.int .i64 3, Value.int .i64 0, Value.string ⟨#[]⟩], vn, Value.tuple #[Value.agg #[Value.int .i64 7, Value.int .i64 0, Value.int .i64 0, Value.string noB, Value.int .i64 0, nilS], Value.bool true], Value.tuple #[Value.agg #[Value.int .i64 7, Value.int .i64 0, Value.int .i64 0, Value.string noB, Value.int .i64 0, nilS], Value.bool true], Value.agg #[Value.int .i64 7, Value.int .i64 0, Value.int .i64 0, Value.string noB, Value.int .i64 0, nilS], Value.bool true, t22, t23, t24, t25, t26, t27, t28, t29, t30, t31, t32, t33, t34, t35, t36, t37, t38, t39, t40, t41, t42, undef, undef, undef, undef, undef, undef, undef, undef, undef, undef, undef, undef, undef, undef, undef, undef, undef, undef, undef, undef, undef, undef, undef, undef, undef], []⟩ ∧ Hid (StW w wx) ∧ Hid (L 7 = false → Hh 7 w wx s (cA, 0)) ∧ Hid (OwnV wx w.heap.size vy [yesV true]) ∧ Hid (OwnV wx w.heap.size vn [yesV false]) ∧ Hid (OwnV wx w.heap.size t5 [yesV true]) ∧ Hid (OwnV wx w.heap.size t7 [yesV false]) ∧ Hid (L 0 = true → t37 = .agg (stH 7 (cA, 0) nilS).toArray) ∧ Hid (L 1 = true → t38 = .agg #[.int .i64 2, .int .i64 0, .string ⟨#[98]⟩]) ∧ Hid (L 2 = true → t39 = .tuple #[.agg (stH 7 (cA, 0) nilS).toArray, vo9, .bool true] ∧ OwnV wx w.heap.size vo9 [yesV false]) ∧ Hid (L 3 = true → t36 = .tuple #[.agg (stH 7 (cA, 0) nilS).toArray, vo9, .bool true]) ∧ Hid (L 4 = true → t40 = .agg (stH 7 (cA, 0) nilS).toArray) ∧ Hid (L 5 = true → t41 = vo9) ∧ Hid (L 6 = true → t42 = .bool true) ∧ Hid (L 7 = true → Hh 7 w wx s (cA, 0)) ∧ Hid (L 8 = true → t9 = vo9) ∧ Hid (L 9 = true → t10 = .bool true)) L act wx := ⟨_, fun _ _ _ => Iff.rfl⟩
      dsimp only at hI
      have HI : Hid (∀ L act wx, I L act wx ↔ _) := hI
      clear hI
      refine wp_region_inv mixed [[], [], [0, 1], [0, 1, 2], [0, 1, 2, 3], [0, 1, 2, 3], [0, 1, 2, 3], [0, 1, 2, 3, 4], [0, 1, 2, 3, 4, 5, 7], [0, 1, 2, 3, 4, 6, 7]] (by kernel_rfl) I ?_ ?_ ?_
      · refine (HI.out _ _ _).2 ⟨_, _, _, _, _, _, _, _, _, undef, 0, rfl, ?_, ?_, ?_, ?_, ?_, ?_, fun h => Bool.noConfusion h, fun h => Bool.noConfusion h, fun h => Bool.noConfusion h, fun h => Bool.noConfusion h, fun h => Bool.noConfusion h, fun h => Bool.noConfusion h, fun h => Bool.noConfusion h, fun h => Bool.noConfusion h, fun h => Bool.noConfusion h, fun h => Bool.noConfusion h⟩
        · exact below_next HP2.out.1 (Stay.drew _)
        · exact fun _ => HP2.out.2.later (Stay.drew _)
        · exact G10.out.later (Stay.drew _)
        · exact G11.out.later (Stay.drew _)
        · exact G12.out.later (Stay.drew _)
        · exact HO1.out.later (Stay.drew _)
      · intro i hi L act wx hIa hLi hcl hanc
        obtain ⟨t37, t38, t39, t36, t40, t41, t42, t9, t10, vo9, q9, rfl, HS, E0, E1, E2, E3, E4, F0, F1, F2, F3, F4, F5, F6, F7, F8, F9⟩ := (HI.out _ _ _).1 hIa
        clear hIa
        have hi' : i = 0 ∨ i = 1 ∨ i = 2 ∨ i = 3 ∨ i = 4 ∨ i = 5 ∨ i = 6 ∨ i = 7 ∨ i = 8 ∨ i = 9 := by have hi : i < 10 := hi; omega
        clear hi
        rcases hi' with rfl | rfl | rfl | rfl | rfl | rfl | rfl | rfl | rfl | rfl
        · have hun : L 7 = false := by
            cases h : L 7
            · rfl
            · exact absurd (hcl 7 h 0 (by decide)) (by rw [hLi]; decide)
          have hz := E0.out hun
          refine wpOp_doG 0 (by rfl) (by rfl) ?_
          refine wp_load_mid 28 (.tmp 3) rfl s 0 rfl (stH 7 (cA, 0) nilS) _ (Blk.all hz.s) Tryd.underlying28 rfl infoSt ?_
          simp only [Act.put, List.setIfInBounds_toArray, List.set_cons_zero, List.set_cons_succ]
          have hb : Below wx.heap.size wx wx := Below.refl _ _
          show I (putL L 0) _ _
          exact (HI.out (putL L 0) _ _).2 ⟨_, _, _, _, _, _, _, _, _, vo9, q9, rfl, HS.out.later hb, fun h => (E0.out ((putL_ne (i := 0) (by decide)).symm.trans h)).later hb, E1.out.later hb, E2.out.later hb, E3.out.later hb, E4.out.later hb, fun _ => rfl, fun h => (by first | exact F1.out ((putL_ne (i := 0) (by decide)).symm.trans h) | rfl), fun h => absurd (hcl 2 ((putL_ne (i := 0) (by decide)).symm.trans h) 0 (by decide)) (by rw [hLi]; decide), fun h => absurd (hcl 3 ((putL_ne (i := 0) (by decide)).symm.trans h) 0 (by decide)) (by rw [hLi]; decide), fun h => absurd (hcl 4 ((putL_ne (i := 0) (by decide)).symm.trans h) 0 (by decide)) (by rw [hLi]; decide), fun h => absurd (hcl 5 ((putL_ne (i := 0) (by decide)).symm.trans h) 0 (by decide)) (by rw [hLi]; decide), fun h => absurd (hcl 6 ((putL_ne (i := 0) (by decide)).symm.trans h) 0 (by decide)) (by rw [hLi]; decide), fun h => absurd (hcl 7 ((putL_ne (i := 0) (by decide)).symm.trans h) 0 (by decide)) (by rw [hLi]; decide), fun h => absurd (hcl 8 ((putL_ne (i := 0) (by decide)).symm.trans h) 0 (by decide)) (by rw [hLi]; decide), fun h => absurd (hcl 9 ((putL_ne (i := 0) (by decide)).symm.trans h) 0 (by decide)) (by rw [hLi]; decide)⟩
        · refine wpOp_doG 1 (by rfl) (by rfl) ?_
          go_wp2_with fail
          refine (who_any ⟨#[98]⟩ wx).mono ?_
          rintro e9 wn ⟨rfl, hb⟩
          show I (putL L 1) _ _
          exact (HI.out (putL L 1) _ _).2 ⟨_, _, _, _, _, _, _, _, _, vo9, q9, rfl, HS.out.later hb, fun h => (E0.out ((putL_ne (i := 1) (by decide)).symm.trans h)).later hb, E1.out.later hb, E2.out.later hb, E3.out.later hb, E4.out.later hb, fun h => (by first | exact F0.out ((putL_ne (i := 1) (by decide)).symm.trans h) | rfl), fun _ => rfl, fun h => absurd (hcl 2 ((putL_ne (i := 1) (by decide)).symm.trans h) 1 (by decide)) (by rw [hLi]; decide), fun h => absurd (hcl 3 ((putL_ne (i := 1) (by decide)).symm.trans h) 1 (by decide)) (by rw [hLi]; decide), fun h => absurd (hcl 4 ((putL_ne (i := 1) (by decide)).symm.trans h) 1 (by decide)) (by rw [hLi]; decide), fun h => absurd (hcl 5 ((putL_ne (i := 1) (by decide)).symm.trans h) 1 (by decide)) (by rw [hLi]; decide), fun h => absurd (hcl 6 ((putL_ne (i := 1) (by decide)).symm.trans h) 1 (by decide)) (by rw [hLi]; decide), fun h => absurd (hcl 7 ((putL_ne (i := 1) (by decide)).symm.trans h) 1 (by decide)) (by rw [hLi]; decide), fun h => absurd (hcl 8 ((putL_ne (i := 1) (by decide)).symm.trans h) 1 (by decide)) (by rw [hLi]; decide), fun h => absurd (hcl 9 ((putL_ne (i := 1) (by decide)).symm.trans h) 1 (by decide)) (by rw [hLi]; decide)⟩
        · have f0 := F0.out (hanc 0 (by decide))
          have f1 := F1.out (hanc 1 (by decide))
          have g0 := f0
          have g1 := f1
          subst g0 g1
          refine wpOp_doG 2 (by rfl) (by rfl) ?_
          go_wp2_with fail
          refine (HK.out.yes 7 (cA, 0) cB 12 nilS [] wx (HT.out.later HS.out) (vsl_nil0 _) sz0 (by decide) HM.out mayFB (okX_7 _)).mono ?_
          rintro e9 wn ⟨vo, rfl, ho9, hb⟩
          have ho9 := ho9.base HS.out.size
          rw [ou3] at ho9
          rw [nx3]
          show I (putL L 2) _ _
          exact (HI.out (putL L 2) _ _).2 ⟨_, _, _, _, _, _, _, _, _, vo, q9, rfl, HS.out.later hb, fun h => (E0.out ((putL_ne (i := 2) (by decide)).symm.trans h)).later hb, E1.out.later hb, E2.out.later hb, E3.out.later hb, E4.out.later hb, fun h => (by first | exact F0.out ((putL_ne (i := 2) (by decide)).symm.trans h) | rfl), fun h => (by first | exact F1.out ((putL_ne (i := 2) (by decide)).symm.trans h) | rfl), fun _ => ⟨rfl, ho9⟩, fun h => absurd (hcl 3 ((putL_ne (i := 2) (by decide)).symm.trans h) 2 (by decide)) (by rw [hLi]; decide), fun h => absurd (hcl 4 ((putL_ne (i := 2) (by decide)).symm.trans h) 2 (by decide)) (by rw [hLi]; decide), fun h => absurd (hcl 5 ((putL_ne (i := 2) (by decide)).symm.trans h) 2 (by decide)) (by rw [hLi]; decide), fun h => absurd (hcl 6 ((putL_ne (i := 2) (by decide)).symm.trans h) 2 (by decide)) (by rw [hLi]; decide), fun h => absurd (hcl 7 ((putL_ne (i := 2) (by decide)).symm.trans h) 2 (by decide)) (by rw [hLi]; decide), fun h => absurd (hcl 8 ((putL_ne (i := 2) (by decide)).symm.trans h) 2 (by decide)) (by rw [hLi]; decide), fun h => absurd (hcl 9 ((putL_ne (i := 2) (by decide)).symm.trans h) 2 (by decide)) (by rw [hLi]; decide)⟩
        · have f0 := F0.out (hanc 0 (by decide))
          have f1 := F1.out (hanc 1 (by decide))
          have f2 := F2.out (hanc 2 (by decide))
          have f := f2.1
          subst f
          refine YieldsIf.wpOp (S := fun _ => True) (v := .tuple #[.agg (stH 7 (cA, 0) nilS).toArray, vo9, .bool true]) (by rfl) (.inl ⟨rfl, fun w _ => rfl⟩) trivial ?_
          simp only [Act.put, List.setIfInBounds_toArray, List.set_cons_zero, List.set_cons_succ]
          have hb : Below wx.heap.size wx wx := Below.refl _ _
          show I (putL L 3) _ _
          exact (HI.out (putL L 3) _ _).2 ⟨_, _, _, _, _, _, _, _, _, vo9, q9, rfl, HS.out.later hb, fun h => (E0.out ((putL_ne (i := 3) (by decide)).symm.trans h)).later hb, E1.out.later hb, E2.out.later hb, E3.out.later hb, E4.out.later hb, fun h => (by first | exact F0.out ((putL_ne (i := 3) (by decide)).symm.trans h) | rfl), fun h => (by first | exact F1.out ((putL_ne (i := 3) (by decide)).symm.trans h) | rfl), fun h => (fun q => ⟨(by first | exact q.1 | rfl), q.2.later hb⟩) (F2.out ((putL_ne (i := 3) (by decide)).symm.trans h)), fun _ => rfl, fun h => absurd (hcl 4 ((putL_ne (i := 3) (by decide)).symm.trans h) 3 (by decide)) (by rw [hLi]; decide), fun h => absurd (hcl 5 ((putL_ne (i := 3) (by decide)).symm.trans h) 3 (by decide)) (by rw [hLi]; decide), fun h => absurd (hcl 6 ((putL_ne (i := 3) (by decide)).symm.trans h) 3 (by decide)) (by rw [hLi]; decide), fun h => absurd (hcl 7 ((putL_ne (i := 3) (by decide)).symm.trans h) 3 (by decide)) (by rw [hLi]; decide), fun h => absurd (hcl 8 ((putL_ne (i := 3) (by decide)).symm.trans h) 3 (by decide)) (by rw [hLi]; decide), fun h => absurd (hcl 9 ((putL_ne (i := 3) (by decide)).symm.trans h) 3 (by decide)) (by rw [hLi]; decide)⟩
        · have f0 := F0.out (hanc 0 (by decide))
          have f1 := F1.out (hanc 1 (by decide))
          have f2 := F2.out (hanc 2 (by decide))
          have f3 := F3.out (hanc 3 (by decide))
          have f := f3
          subst f
          refine YieldsIf.wpOp (S := fun _ => True) (v := .agg (stH 7 (cA, 0) nilS).toArray) (by rfl) (.inl ⟨rfl, fun w _ => by go_simp⟩) trivial ?_
          simp only [Act.put, List.setIfInBounds_toArray, List.set_cons_zero, List.set_cons_succ]
          have hb : Below wx.heap.size wx wx := Below.refl _ _
          show I (putL L 4) _ _
          exact (HI.out (putL L 4) _ _).2 ⟨_, _, _, _, _, _, _, _, _, vo9, q9, rfl, HS.out.later hb, fun h => (E0.out ((putL_ne (i := 4) (by decide)).symm.trans h)).later hb, E1.out.later hb, E2.out.later hb, E3.out.later hb, E4.out.later hb, fun h => (by first | exact F0.out ((putL_ne (i := 4) (by decide)).symm.trans h) | rfl), fun h => (by first | exact F1.out ((putL_ne (i := 4) (by decide)).symm.trans h) | rfl), fun h => (fun q => ⟨(by first | exact q.1 | rfl), q.2.later hb⟩) (F2.out ((putL_ne (i := 4) (by decide)).symm.trans h)), fun h => (by first | exact F3.out ((putL_ne (i := 4) (by decide)).symm.trans h) | rfl), fun _ => rfl, fun h => (by first | exact F5.out ((putL_ne (i := 4) (by decide)).symm.trans h) | rfl), fun h => (by first | exact F6.out ((putL_ne (i := 4) (by decide)).symm.trans h) | rfl), fun h => absurd (hcl 7 ((putL_ne (i := 4) (by decide)).symm.trans h) 4 (by decide)) (by rw [hLi]; decide), fun h => absurd (hcl 8 ((putL_ne (i := 4) (by decide)).symm.trans h) 4 (by decide)) (by rw [hLi]; decide), fun h => absurd (hcl 9 ((putL_ne (i := 4) (by decide)).symm.trans h) 4 (by decide)) (by rw [hLi]; decide)⟩
        · have f0 := F0.out (hanc 0 (by decide))
          have f1 := F1.out (hanc 1 (by decide))
          have f2 := F2.out (hanc 2 (by decide))
          have f3 := F3.out (hanc 3 (by decide))
          have f := f3
          subst f
          refine YieldsIf.wpOp (S := fun _ => True) (v := vo9) (by rfl) (.inl ⟨rfl, fun w _ => by go_simp⟩) trivial ?_
          simp only [Act.put, List.setIfInBounds_toArray, List.set_cons_zero, List.set_cons_succ]
          have hb : Below wx.heap.size wx wx := Below.refl _ _
          show I (putL L 5) _ _
          exact (HI.out (putL L 5) _ _).2 ⟨_, _, _, _, _, _, _, _, _, vo9, q9, rfl, HS.out.later hb, fun h => (E0.out ((putL_ne (i := 5) (by decide)).symm.trans h)).later hb, E1.out.later hb, E2.out.later hb, E3.out.later hb, E4.out.later hb, fun h => (by first | exact F0.out ((putL_ne (i := 5) (by decide)).symm.trans h) | rfl), fun h => (by first | exact F1.out ((putL_ne (i := 5) (by decide)).symm.trans h) | rfl), fun h => (fun q => ⟨(by first | exact q.1 | rfl), q.2.later hb⟩) (F2.out ((putL_ne (i := 5) (by decide)).symm.trans h)), fun h => (by first | exact F3.out ((putL_ne (i := 5) (by decide)).symm.trans h) | rfl), fun h => (by first | exact F4.out ((putL_ne (i := 5) (by decide)).symm.trans h) | rfl), fun _ => rfl, fun h => (by first | exact F6.out ((putL_ne (i := 5) (by decide)).symm.trans h) | rfl), fun h => (fun q => q.later hb) (F7.out ((putL_ne (i := 5) (by decide)).symm.trans h)), fun h => absurd (hcl 8 ((putL_ne (i := 5) (by decide)).symm.trans h) 5 (by decide)) (by rw [hLi]; decide), fun h => (by first | exact F9.out ((putL_ne (i := 5) (by decide)).symm.trans h) | rfl)⟩
        · have f0 := F0.out (hanc 0 (by decide))
          have f1 := F1.out (hanc 1 (by decide))
          have f2 := F2.out (hanc 2 (by decide))
          have f3 := F3.out (hanc 3 (by decide))
          have f := f3
          subst f
          refine YieldsIf.wpOp (S := fun _ => True) (v := .bool true) (by rfl) (.inl ⟨rfl, fun w _ => by go_simp⟩) trivial ?_
          simp only [Act.put, List.setIfInBounds_toArray, List.set_cons_zero, List.set_cons_succ]
          have hb : Below wx.heap.size wx wx := Below.refl _ _
          show I (putL L 6) _ _
          exact (HI.out (putL L 6) _ _).2 ⟨_, _, _, _, _, _, _, _, _, vo9, q9, rfl, HS.out.later hb, fun h => (E0.out ((putL_ne (i := 6) (by decide)).symm.trans h)).later hb, E1.out.later hb, E2.out.later hb, E3.out.later hb, E4.out.later hb, fun h => (by first | exact F0.out ((putL_ne (i := 6) (by decide)).symm.trans h) | rfl), fun h => (by first | exact F1.out ((putL_ne (i := 6) (by decide)).symm.trans h) | rfl), fun h => (fun q => ⟨(by first | exact q.1 | rfl), q.2.later hb⟩) (F2.out ((putL_ne (i := 6) (by decide)).symm.trans h)), fun h => (by first | exact F3.out ((putL_ne (i := 6) (by decide)).symm.trans h) | rfl), fun h => (by first | exact F4.out ((putL_ne (i := 6) (by decide)).symm.trans h) | rfl), fun h => (by first | exact F5.out ((putL_ne (i := 6) (by decide)).symm.trans h) | rfl), fun _ => rfl, fun h => (fun q => q.later hb) (F7.out ((putL_ne (i := 6) (by decide)).symm.trans h)), fun h => (by first | exact F8.out ((putL_ne (i := 6) (by decide)).symm.trans h) | rfl), fun h => absurd (hcl 9 ((putL_ne (i := 6) (by decide)).symm.trans h) 6 (by decide)) (by rw [hLi]; decide)⟩
        · have f0 := F0.out (hanc 0 (by decide))
          have f1 := F1.out (hanc 1 (by decide))
          have f2 := F2.out (hanc 2 (by decide))
          have f3 := F3.out (hanc 3 (by decide))
          have f4 := F4.out (hanc 4 (by decide))
          have hun : L 7 = false := hLi
          have hz := E0.out hun
          have f := f4
          subst f
          refine wpOp_doG 7 (by rfl) (by rfl) ?_
          refine wpo_storeB 28 (.tmp 3) (.tmp 40) s 0 (stH 7 (cA, 0) nilS) (stH 7 (cA, 0) nilS) 28 infoSt (show 0 + 6 ≤ 6 by decide) (stH_one _ _ rfl) rfl rfl rfl hz.s ?_
          intro wn BP ho
          replace BP : Blk wn s (stH 7 (cA, 0) nilS) 28 := BP
          have BS := hz.s
          simp only [Act.put, List.setIfInBounds_toArray, List.set_cons_zero, List.set_cons_succ]
          show I (putL L 7) _ _
          exact (HI.out (putL L 7) _ _).2 ⟨_, _, _, _, _, _, _, _, _, vo9, q9, rfl, below_oth HS.out ho hz.z hz.z HS.out.size, fun h => (by rw [putL_self] at h; cases h), E1.out.oth ho BS (by decide), E2.out.oth ho BS (by decide), E3.out.oth ho BS (by decide), E4.out.oth ho BS (by decide), fun h => (by first | exact F0.out ((putL_ne (i := 7) (by decide)).symm.trans h) | rfl), fun h => (by first | exact F1.out ((putL_ne (i := 7) (by decide)).symm.trans h) | rfl), fun h => (fun q => ⟨(by first | exact q.1 | rfl), q.2.oth ho BS (by decide)⟩) (F2.out ((putL_ne (i := 7) (by decide)).symm.trans h)), fun h => (by first | exact F3.out ((putL_ne (i := 7) (by decide)).symm.trans h) | rfl), fun h => (by first | exact F4.out ((putL_ne (i := 7) (by decide)).symm.trans h) | rfl), fun h => (by first | exact F5.out ((putL_ne (i := 7) (by decide)).symm.trans h) | rfl), fun h => (by first | exact F6.out ((putL_ne (i := 7) (by decide)).symm.trans h) | rfl), fun _ => ⟨BP, hz.z⟩, fun h => absurd (hcl 8 ((putL_ne (i := 7) (by decide)).symm.trans h) 7 (by decide)) (by rw [hLi]; decide), fun h => absurd (hcl 9 ((putL_ne (i := 7) (by decide)).symm.trans h) 7 (by decide)) (by rw [hLi]; decide)⟩
        · have f0 := F0.out (hanc 0 (by decide))
          have f1 := F1.out (hanc 1 (by decide))
          have f2 := F2.out (hanc 2 (by decide))
          have f3 := F3.out (hanc 3 (by decide))
          have f4 := F4.out (hanc 4 (by decide))
          have f5 := F5.out (hanc 5 (by decide))
          have f7 := F7.out (hanc 7 (by decide))
          refine YieldsIf.wpOp (S := fun _ => True) (v := t41) (by rfl) (.inl ⟨rfl, fun w _ => rfl⟩) trivial ?_
          simp only [Act.put, List.setIfInBounds_toArray, List.set_cons_zero, List.set_cons_succ]
          have hb : Below wx.heap.size wx wx := Below.refl _ _
          show I (putL L 8) _ _
          exact (HI.out (putL L 8) _ _).2 ⟨_, _, _, _, _, _, _, _, _, vo9, q9, rfl, HS.out.later hb, fun h => (E0.out ((putL_ne (i := 8) (by decide)).symm.trans h)).later hb, E1.out.later hb, E2.out.later hb, E3.out.later hb, E4.out.later hb, fun h => (by first | exact F0.out ((putL_ne (i := 8) (by decide)).symm.trans h) | rfl), fun h => (by first | exact F1.out ((putL_ne (i := 8) (by decide)).symm.trans h) | rfl), fun h => (fun q => ⟨(by first | exact q.1 | rfl), q.2.later hb⟩) (F2.out ((putL_ne (i := 8) (by decide)).symm.trans h)), fun h => (by first | exact F3.out ((putL_ne (i := 8) (by decide)).symm.trans h) | rfl), fun h => (by first | exact F4.out ((putL_ne (i := 8) (by decide)).symm.trans h) | rfl), fun h => (by first | exact F5.out ((putL_ne (i := 8) (by decide)).symm.trans h) | rfl), fun h => (by first | exact F6.out ((putL_ne (i := 8) (by decide)).symm.trans h) | rfl), fun h => (fun q => q.later hb) (F7.out ((putL_ne (i := 8) (by decide)).symm.trans h)), fun _ => f5, fun h => (by first | exact F9.out ((putL_ne (i := 8) (by decide)).symm.trans h) | rfl)⟩
        · have f0 := F0.out (hanc 0 (by decide))
          have f1 := F1.out (hanc 1 (by decide))
          have f2 := F2.out (hanc 2 (by decide))
          have f3 := F3.out (hanc 3 (by decide))
          have f4 := F4.out (hanc 4 (by decide))
          have f6 := F6.out (hanc 6 (by decide))
          have f7 := F7.out (hanc 7 (by decide))
          refine YieldsIf.wpOp (S := fun _ => True) (v := t42) (by rfl) (.inl ⟨rfl, fun w _ => rfl⟩) trivial ?_
          simp only [Act.put, List.setIfInBounds_toArray, List.set_cons_zero, List.set_cons_succ]
          have hb : Below wx.heap.size wx wx := Below.refl _ _
          show I (putL L 9) _ _
          exact (HI.out (putL L 9) _ _).2 ⟨_, _, _, _, _, _, _, _, _, vo9, q9, rfl, HS.out.later hb, fun h => (E0.out ((putL_ne (i := 9) (by decide)).symm.trans h)).later hb, E1.out.later hb, E2.out.later hb, E3.out.later hb, E4.out.later hb, fun h => (by first | exact F0.out ((putL_ne (i := 9) (by decide)).symm.trans h) | rfl), fun h => (by first | exact F1.out ((putL_ne (i := 9) (by decide)).symm.trans h) | rfl), fun h => (fun q => ⟨(by first | exact q.1 | rfl), q.2.later hb⟩) (F2.out ((putL_ne (i := 9) (by decide)).symm.trans h)), fun h => (by first | exact F3.out ((putL_ne (i := 9) (by decide)).symm.trans h) | rfl), fun h => (by first | exact F4.out ((putL_ne (i := 9) (by decide)).symm.trans h) | rfl), fun h => (by first | exact F5.out ((putL_ne (i := 9) (by decide)).symm.trans h) | rfl), fun h => (by first | exact F6.out ((putL_ne (i := 9) (by decide)).symm.trans h) | rfl), fun h => (fun q => q.later hb) (F7.out ((putL_ne (i := 9) (by decide)).symm.trans h)), fun h => (by first | exact F8.out ((putL_ne (i := 9) (by decide)).symm.trans h) | rfl), fun _ => f6⟩
      · intro L act wx hall hIa
        obtain ⟨t37, t38, t39, t36, t40, t41, t42, t9, t10, vo9, q9, rfl, HS, E0, E1, E2, E3, E4, F0, F1, F2, F3, F4, F5, F6, F7, F8, F9⟩ := (HI.out _ _ _).1 hIa
        have f0 := F0.out (hall 0 (by decide))
        have f1 := F1.out (hall 1 (by decide))
        have f2 := F2.out (hall 2 (by decide))
        have f3 := F3.out (hall 3 (by decide))
        have f4 := F4.out (hall 4 (by decide))
        have f5 := F5.out (hall 5 (by decide))
        have f6 := F6.out (hall 6 (by decide))
        have f7 := F7.out (hall 7 (by decide))
        have f8 := F8.out (hall 8 (by decide))
        have f9 := F9.out (hall 9 (by decide))
        clear hIa HI F0 F1 F2 F3 F4 F5 F6 F7 F8 F9
        show K9 _ _
        apply hK9
        clear hK9
        have ho := f2.2
        rw [← f8] at ho
        have HO2 : Hid (OwnV wx w.heap.size t9 [yesV false]) := ho
        have HP3 : Hid (Below w.heap.size w wx ∧ Hh 7 w wx s (cA, 0)) := ⟨HS.out, f7⟩
        have G20 := E1
        have G21 := E2
        have G22 := E3
        have G23 := E4
        clear ho HS E0 E1 E2 E3 E4 f0 f1 f2 f3 f4 f5 f6 f7 f8 f9
        generalize wx = w6 at HP3 G20 G21 G22 G23 HO2 ⊢
        go_wp2_with fail
        have HZ9 : Hid (s < w6.heap.size) := HP3.out.2.s.lt
        obtain ⟨x4, nxe⟩ : ∃ x, nxH 7 (cA, 0) ⟨cA, 12, []⟩ = x := ⟨_, rfl⟩
        have HX4 : Hid (nxH 7 (cA, 0) ⟨cA, 12, []⟩ = x4) := nxe
        clear nxe
        rename_i K9 hK9
        obtain ⟨I, hI⟩ : ∃ I : (Nat → Bool) → Act → World → Prop, ∀ L act wx, I L act wx ↔ (fun (L : Nat → Bool) (act : Act) (wx : World) => ∃ (t44 : Value) (t45 : Value) (t46 : Value) (t43 : Value) (t47 : Value) (t48 : Value) (t49 : Value) (t11 : Value) (t12 : Value) (t13 : Value) (vo9 : Value) (q9 : Nat), act = ⟨#[Value.bool false, vy, vn, Value.pointer (some ⟨s, 0, none⟩), Value.bool true, t5, t6, t7, t8, t9, t10, t11, t12, t13, Value.agg #[Value.int .i64 3, Value.int .i64 1, Value.string ⟨#[]⟩], vy, Value.agg #[Value.int .i64 3, Value.int .i64 0, Value.string ⟨#[]⟩], vn, Value.tuple #[Value.agg #[Value.int .i64 7, Value.int .i64 0, Value.int .i64 0, Value.string noB, Value.int .i64 0, nilS], Value.bool true], Value.tuple #[Value.agg #[Value.int .i64 7, Value.int .i64 0, Value.int .i64 0, Value.string noB, Value.int .i64 0, nilS], Value.bool true], Value.agg #[Value.int .i64 7, Value.int .i64 0, Value.int .i64 0, Value.string noB, Value.int .i64 0, nilS], Value.bool true, t22, t23, t24, t25, t26, t27, t28, t29, t30, t31, t32, t33, t34, t35, t36, t37, t38, t39, t40, t41, t42, t43, t44, t45, t46, t47, t48, t49, undef, undef, undef, undef, undef, undef, undef, undef, undef, undef, undef, undef, undef, undef, undef, undef, undef, undef], []⟩ ∧ Hid (StW w wx) ∧ Hid (Hh 7 w wx s (cA, 0)) ∧ Hid (L 7 = true → L 8 = false → Blk wx q9 (stC 0 noV nilS) 28) ∧ Hid (Stay w6 wx) ∧ Hid (OwnV wx w.heap.size vy [yesV true]) ∧ Hid (OwnV wx w.heap.size vn [yesV false]) ∧ Hid (OwnV wx w.heap.size t5 [yesV true]) ∧ Hid (OwnV wx w.heap.size t7 [yesV false]) ∧ Hid (OwnV wx w.heap.size t9 [yesV false]) ∧ Hid (L 0 = true → t44 = .agg (stH 7 (cA, 0) nilS).toArray) ∧ Hid (L 1 = true → t45 = .agg #[.int .i64 2, .int .i64 0, .string ⟨#[97]⟩]) ∧ Hid (L 2 = true → t46 = .tuple #[.agg (stH 7 x4 nilS).toArray, vo9, .bool true] ∧ OwnV wx w.heap.size vo9 [yesV true]) ∧ Hid (L 3 = true → t43 = .tuple #[.agg (stH 7 x4 nilS).toArray, vo9, .bool true]) ∧ Hid (L 4 = true → t47 = .agg (stH 7 x4 nilS).toArray) ∧ Hid (L 5 = true → t48 = vo9) ∧ Hid (L 6 = true → t49 = .bool true) ∧ Hid (L 7 = true → t11 = .pointer (some ⟨q9, 0, none⟩) ∧ w.heap.size ≤ q9 ∧ w6.heap.size ≤ q9) ∧ Hid (L 8 = true → Hh 7 w wx q9 x4) ∧ Hid (L 9 = true → t12 = vo9) ∧ Hid (L 10 = true → t13 = .bool true)) L act wx := ⟨_, fun _ _ _ => Iff.rfl⟩
        dsimp only at hI
        have HI : Hid (∀ L act wx, I L act wx ↔ _) := hI
        clear hI
        refine wp_region_inv mixed [[], [], [0, 1], [0, 1, 2], [0, 1, 2, 3], [0, 1, 2, 3], [0, 1, 2, 3], [], [0, 1, 2, 3, 4, 7], [0, 1, 2, 3, 4, 5, 7, 8], [0, 1, 2, 3, 4, 6, 7, 8]] (by kernel_rfl) I ?_ ?_ ?_
        · refine (HI.out _ _ _).2 ⟨_, _, _, _, _, _, _, _, _, _, undef, 0, rfl, ?_, ?_, ?_, ?_, ?_, ?_, ?_, ?_, ?_, fun h => Bool.noConfusion h, fun h => Bool.noConfusion h, fun h => Bool.noConfusion h, fun h => Bool.noConfusion h, fun h => Bool.noConfusion h, fun h => Bool.noConfusion h, fun h => Bool.noConfusion h, fun h => Bool.noConfusion h, fun h => Bool.noConfusion h, fun h => Bool.noConfusion h, fun h => Bool.noConfusion h⟩
          · exact below_next HP3.out.1 (Stay.drew _)
          · exact HP3.out.2.later (Stay.drew _)
          · exact fun h => Bool.noConfusion h
          · exact Stay.drew _
          · exact G20.out.later (Stay.drew _)
          · exact G21.out.later (Stay.drew _)
          · exact G22.out.later (Stay.drew _)
          · exact G23.out.later (Stay.drew _)
          · exact HO2.out.later (Stay.drew _)
        · intro i hi L act wx hIa hLi hcl hanc
          obtain ⟨t44, t45, t46, t43, t47, t48, t49, t11, t12, t13, vo9, q9, rfl, HS, E0, E1, E2, E3, E4, E5, E6, E7, F0, F1, F2, F3, F4, F5, F6, F7, F8, F9, F10⟩ := (HI.out _ _ _).1 hIa
          clear hIa
          have hi' : i = 0 ∨ i = 1 ∨ i = 2 ∨ i = 3 ∨ i = 4 ∨ i = 5 ∨ i = 6 ∨ i = 7 ∨ i = 8 ∨ i = 9 ∨ i = 10 := by have hi : i < 11 := hi; omega
          clear hi
          rcases hi' with rfl | rfl | rfl | rfl | rfl | rfl | rfl | rfl | rfl | rfl | rfl
          · have hz := E0.out
            refine wpOp_doG 0 (by rfl) (by rfl) ?_
            refine wp_load_mid 28 (.tmp 3) rfl s 0 rfl (stH 7 (cA, 0) nilS) _ (Blk.all hz.s) Tryd.underlying28 rfl infoSt ?_
            simp only [Act.put, List.setIfInBounds_toArray, List.set_cons_zero, List.set_cons_succ]
            have hb : Below wx.heap.size wx wx := Below.refl _ _
            show I (putL L 0) _ _
            exact (HI.out (putL L 0) _ _).2 ⟨_, _, _, _, _, _, _, _, _, _, vo9, q9, rfl, HS.out.later hb, E0.out.later hb, fun h h' => (E1.out ((putL_ne (i := 0) (by decide)).symm.trans h) ((putL_ne (i := 0) (by decide)).symm.trans h')).later hb, below_next E2.out hb, E3.out.later hb, E4.out.later hb, E5.out.later hb, E6.out.later hb, E7.out.later hb, fun _ => rfl, fun h => (by first | exact F1.out ((putL_ne (i := 0) (by decide)).symm.trans h) | rfl), fun h => absurd (hcl 2 ((putL_ne (i := 0) (by decide)).symm.trans h) 0 (by decide)) (by rw [hLi]; decide), fun h => absurd (hcl 3 ((putL_ne (i := 0) (by decide)).symm.trans h) 0 (by decide)) (by rw [hLi]; decide), fun h => absurd (hcl 4 ((putL_ne (i := 0) (by decide)).symm.trans h) 0 (by decide)) (by rw [hLi]; decide), fun h => absurd (hcl 5 ((putL_ne (i := 0) (by decide)).symm.trans h) 0 (by decide)) (by rw [hLi]; decide), fun h => absurd (hcl 6 ((putL_ne (i := 0) (by decide)).symm.trans h) 0 (by decide)) (by rw [hLi]; decide), fun h => (by first | exact F7.out ((putL_ne (i := 0) (by decide)).symm.trans h) | rfl), fun h => absurd (hcl 8 ((putL_ne (i := 0) (by decide)).symm.trans h) 0 (by decide)) (by rw [hLi]; decide), fun h => absurd (hcl 9 ((putL_ne (i := 0) (by decide)).symm.trans h) 0 (by decide)) (by rw [hLi]; decide), fun h => absurd (hcl 10 ((putL_ne (i := 0) (by decide)).symm.trans h) 0 (by decide)) (by rw [hLi]; decide)⟩
          · refine wpOp_doG 1 (by rfl) (by rfl) ?_
            go_wp2_with fail
            refine (who_any ⟨#[97]⟩ wx).mono ?_
            rintro e9 wn ⟨rfl, hb⟩
            show I (putL L 1) _ _
            exact (HI.out (putL L 1) _ _).2 ⟨_, _, _, _, _, _, _, _, _, _, vo9, q9, rfl, HS.out.later hb, E0.out.later hb, fun h h' => (E1.out ((putL_ne (i := 1) (by decide)).symm.trans h) ((putL_ne (i := 1) (by decide)).symm.trans h')).later hb, below_next E2.out hb, E3.out.later hb, E4.out.later hb, E5.out.later hb, E6.out.later hb, E7.out.later hb, fun h => (by first | exact F0.out ((putL_ne (i := 1) (by decide)).symm.trans h) | rfl), fun _ => rfl, fun h => absurd (hcl 2 ((putL_ne (i := 1) (by decide)).symm.trans h) 1 (by decide)) (by rw [hLi]; decide), fun h => absurd (hcl 3 ((putL_ne (i := 1) (by decide)).symm.trans h) 1 (by decide)) (by rw [hLi]; decide), fun h => absurd (hcl 4 ((putL_ne (i := 1) (by decide)).symm.trans h) 1 (by decide)) (by rw [hLi]; decide), fun h => absurd (hcl 5 ((putL_ne (i := 1) (by decide)).symm.trans h) 1 (by decide)) (by rw [hLi]; decide), fun h => absurd (hcl 6 ((putL_ne (i := 1) (by decide)).symm.trans h) 1 (by decide)) (by rw [hLi]; decide), fun h => (by first | exact F7.out ((putL_ne (i := 1) (by decide)).symm.trans h) | rfl), fun h => absurd (hcl 8 ((putL_ne (i := 1) (by decide)).symm.trans h) 1 (by decide)) (by rw [hLi]; decide), fun h => absurd (hcl 9 ((putL_ne (i := 1) (by decide)).symm.trans h) 1 (by decide)) (by rw [hLi]; decide), fun h => absurd (hcl 10 ((putL_ne (i := 1) (by decide)).symm.trans h) 1 (by decide)) (by rw [hLi]; decide)⟩
          · have f0 := F0.out (hanc 0 (by decide))
            have f1 := F1.out (hanc 1 (by decide))
            have g0 := f0
            have g1 := f1
            subst g0 g1
            refine wpOp_doG 2 (by rfl) (by rfl) ?_
            go_wp2_with fail
            refine (HK.out.yes 7 (cA, 0) cA 12 nilS [] wx (HT.out.later HS.out) (vsl_nil0 _) sz0 (by decide) HM.out mayFA (okX_7 _)).mono ?_
            rintro e9 wn ⟨vo, rfl, ho9, hb⟩
            have ho9 := ho9.base HS.out.size
            rw [ou4] at ho9
            rw [HX4.out]
            show I (putL L 2) _ _
            exact (HI.out (putL L 2) _ _).2 ⟨_, _, _, _, _, _, _, _, _, _, vo, q9, rfl, HS.out.later hb, E0.out.later hb, fun h h' => (E1.out ((putL_ne (i := 2) (by decide)).symm.trans h) ((putL_ne (i := 2) (by decide)).symm.trans h')).later hb, below_next E2.out hb, E3.out.later hb, E4.out.later hb, E5.out.later hb, E6.out.later hb, E7.out.later hb, fun h => (by first | exact F0.out ((putL_ne (i := 2) (by decide)).symm.trans h) | rfl), fun h => (by first | exact F1.out ((putL_ne (i := 2) (by decide)).symm.trans h) | rfl), fun _ => ⟨rfl, ho9⟩, fun h => absurd (hcl 3 ((putL_ne (i := 2) (by decide)).symm.trans h) 2 (by decide)) (by rw [hLi]; decide), fun h => absurd (hcl 4 ((putL_ne (i := 2) (by decide)).symm.trans h) 2 (by decide)) (by rw [hLi]; decide), fun h => absurd (hcl 5 ((putL_ne (i := 2) (by decide)).symm.trans h) 2 (by decide)) (by rw [hLi]; decide), fun h => absurd (hcl 6 ((putL_ne (i := 2) (by decide)).symm.trans h) 2 (by decide)) (by rw [hLi]; decide), fun h => (by first | exact F7.out ((putL_ne (i := 2) (by decide)).symm.trans h) | rfl), fun h => absurd (hcl 8 ((putL_ne (i := 2) (by decide)).symm.trans h) 2 (by decide)) (by rw [hLi]; decide), fun h => absurd (hcl 9 ((putL_ne (i := 2) (by decide)).symm.trans h) 2 (by decide)) (by rw [hLi]; decide), fun h => absurd (hcl 10 ((putL_ne (i := 2) (by decide)).symm.trans h) 2 (by decide)) (by rw [hLi]; decide)⟩
          · have f0 := F0.out (hanc 0 (by decide))
            have f1 := F1.out (hanc 1 (by decide))
            have f2 := F2.out (hanc 2 (by decide))
            have f := f2.1
            subst f
            refine YieldsIf.wpOp (S := fun _ => True) (v := .tuple #[.agg (stH 7 x4 nilS).toArray, vo9, .bool true]) (by rfl) (.inl ⟨rfl, fun w _ => rfl⟩) trivial ?_
            simp only [Act.put, List.setIfInBounds_toArray, List.set_cons_zero, List.set_cons_succ]
            have hb : Below wx.heap.size wx wx := Below.refl _ _
            show I (putL L 3) _ _
            exact (HI.out (putL L 3) _ _).2 ⟨_, _, _, _, _, _, _, _, _, _, vo9, q9, rfl, HS.out.later hb, E0.out.later hb, fun h h' => (E1.out ((putL_ne (i := 3) (by decide)).symm.trans h) ((putL_ne (i := 3) (by decide)).symm.trans h')).later hb, below_next E2.out hb, E3.out.later hb, E4.out.later hb, E5.out.later hb, E6.out.later hb, E7.out.later hb, fun h => (by first | exact F0.out ((putL_ne (i := 3) (by decide)).symm.trans h) | rfl), fun h => (by first | exact F1.out ((putL_ne (i := 3) (by decide)).symm.trans h) | rfl), fun h => (fun q => ⟨(by first | exact q.1 | rfl), q.2.later hb⟩) (F2.out ((putL_ne (i := 3) (by decide)).symm.trans h)), fun _ => rfl, fun h => absurd (hcl 4 ((putL_ne (i := 3) (by decide)).symm.trans h) 3 (by decide)) (by rw [hLi]; decide), fun h => absurd (hcl 5 ((putL_ne (i := 3) (by decide)).symm.trans h) 3 (by decide)) (by rw [hLi]; decide), fun h => absurd (hcl 6 ((putL_ne (i := 3) (by decide)).symm.trans h) 3 (by decide)) (by rw [hLi]; decide), fun h => (by first | exact F7.out ((putL_ne (i := 3) (by decide)).symm.trans h) | rfl), fun h => absurd (hcl 8 ((putL_ne (i := 3) (by decide)).symm.trans h) 3 (by decide)) (by rw [hLi]; decide), fun h => absurd (hcl 9 ((putL_ne (i := 3) (by decide)).symm.trans h) 3 (by decide)) (by rw [hLi]; decide), fun h => absurd (hcl 10 ((putL_ne (i := 3) (by decide)).symm.trans h) 3 (by decide)) (by rw [hLi]; decide)⟩
          · have f0 := F0.out (hanc 0 (by decide))
            have f1 := F1.out (hanc 1 (by decide))
            have f2 := F2.out (hanc 2 (by decide))
            have f3 := F3.out (hanc 3 (by decide))
            have f := f3
            subst f
            refine YieldsIf.wpOp (S := fun _ => True) (v := .agg (stH 7 x4 nilS).toArray) (by rfl) (.inl ⟨rfl, fun w _ => by go_simp⟩) trivial ?_
            simp only [Act.put, List.setIfInBounds_toArray, List.set_cons_zero, List.set_cons_succ]
            have hb : Below wx.heap.size wx wx := Below.refl _ _
            show I (putL L 4) _ _
            exact (HI.out (putL L 4) _ _).2 ⟨_, _, _, _, _, _, _, _, _, _, vo9, q9, rfl, HS.out.later hb, E0.out.later hb, fun h h' => (E1.out ((putL_ne (i := 4) (by decide)).symm.trans h) ((putL_ne (i := 4) (by decide)).symm.trans h')).later hb, below_next E2.out hb, E3.out.later hb, E4.out.later hb, E5.out.later hb, E6.out.later hb, E7.out.later hb, fun h => (by first | exact F0.out ((putL_ne (i := 4) (by decide)).symm.trans h) | rfl), fun h => (by first | exact F1.out ((putL_ne (i := 4) (by decide)).symm.trans h) | rfl), fun h => (fun q => ⟨(by first | exact q.1 | rfl), q.2.later hb⟩) (F2.out ((putL_ne (i := 4) (by decide)).symm.trans h)), fun h => (by first | exact F3.out ((putL_ne (i := 4) (by decide)).symm.trans h) | rfl), fun _ => rfl, fun h => (by first | exact F5.out ((putL_ne (i := 4) (by decide)).symm.trans h) | rfl), fun h => (by first | exact F6.out ((putL_ne (i := 4) (by decide)).symm.trans h) | rfl), fun h => (by first | exact F7.out ((putL_ne (i := 4) (by decide)).symm.trans h) | rfl), fun h => absurd (hcl 8 ((putL_ne (i := 4) (by decide)).symm.trans h) 4 (by decide)) (by rw [hLi]; decide), fun h => absurd (hcl 9 ((putL_ne (i := 4) (by decide)).symm.trans h) 4 (by decide)) (by rw [hLi]; decide), fun h => absurd (hcl 10 ((putL_ne (i := 4) (by decide)).symm.trans h) 4 (by decide)) (by rw [hLi]; decide)⟩
          · have f0 := F0.out (hanc 0 (by decide))
            have f1 := F1.out (hanc 1 (by decide))
            have f2 := F2.out (hanc 2 (by decide))
            have f3 := F3.out (hanc 3 (by decide))
            have f := f3
            subst f
            refine YieldsIf.wpOp (S := fun _ => True) (v := vo9) (by rfl) (.inl ⟨rfl, fun w _ => by go_simp⟩) trivial ?_
            simp only [Act.put, List.setIfInBounds_toArray, List.set_cons_zero, List.set_cons_succ]
            have hb : Below wx.heap.size wx wx := Below.refl _ _
            show I (putL L 5) _ _
            exact (HI.out (putL L 5) _ _).2 ⟨_, _, _, _, _, _, _, _, _, _, vo9, q9, rfl, HS.out.later hb, E0.out.later hb, fun h h' => (E1.out ((putL_ne (i := 5) (by decide)).symm.trans h) ((putL_ne (i := 5) (by decide)).symm.trans h')).later hb, below_next E2.out hb, E3.out.later hb, E4.out.later hb, E5.out.later hb, E6.out.later hb, E7.out.later hb, fun h => (by first | exact F0.out ((putL_ne (i := 5) (by decide)).symm.trans h) | rfl), fun h => (by first | exact F1.out ((putL_ne (i := 5) (by decide)).symm.trans h) | rfl), fun h => (fun q => ⟨(by first | exact q.1 | rfl), q.2.later hb⟩) (F2.out ((putL_ne (i := 5) (by decide)).symm.trans h)), fun h => (by first | exact F3.out ((putL_ne (i := 5) (by decide)).symm.trans h) | rfl), fun h => (by first | exact F4.out ((putL_ne (i := 5) (by decide)).symm.trans h) | rfl), fun _ => rfl, fun h => (by first | exact F6.out ((putL_ne (i := 5) (by decide)).symm.trans h) | rfl), fun h => (by first | exact F7.out ((putL_ne (i := 5) (by decide)).symm.trans h) | rfl), fun h => (fun q => q.later hb) (F8.out ((putL_ne (i := 5) (by decide)).symm.trans h)), fun h => absurd (hcl 9 ((putL_ne (i := 5) (by decide)).symm.trans h) 5 (by decide)) (by rw [hLi]; decide), fun h => (by first | exact F10.out ((putL_ne (i := 5) (by decide)).symm.trans h) | rfl)⟩
          · have f0 := F0.out (hanc 0 (by decide))
            have f1 := F1.out (hanc 1 (by decide))
            have f2 := F2.out (hanc 2 (by decide))
            have f3 := F3.out (hanc 3 (by decide))
            have f := f3
            subst f
            refine YieldsIf.wpOp (S := fun _ => True) (v := .bool true) (by rfl) (.inl ⟨rfl, fun w _ => by go_simp⟩) trivial ?_
            simp only [Act.put, List.setIfInBounds_toArray, List.set_cons_zero, List.set_cons_succ]
            have hb : Below wx.heap.size wx wx := Below.refl _ _
            show I (putL L 6) _ _
            exact (HI.out (putL L 6) _ _).2 ⟨_, _, _, _, _, _, _, _, _, _, vo9, q9, rfl, HS.out.later hb, E0.out.later hb, fun h h' => (E1.out ((putL_ne (i := 6) (by decide)).symm.trans h) ((putL_ne (i := 6) (by decide)).symm.trans h')).later hb, below_next E2.out hb, E3.out.later hb, E4.out.later hb, E5.out.later hb, E6.out.later hb, E7.out.later hb, fun h => (by first | exact F0.out ((putL_ne (i := 6) (by decide)).symm.trans h) | rfl), fun h => (by first | exact F1.out ((putL_ne (i := 6) (by decide)).symm.trans h) | rfl), fun h => (fun q => ⟨(by first | exact q.1 | rfl), q.2.later hb⟩) (F2.out ((putL_ne (i := 6) (by decide)).symm.trans h)), fun h => (by first | exact F3.out ((putL_ne (i := 6) (by decide)).symm.trans h) | rfl), fun h => (by first | exact F4.out ((putL_ne (i := 6) (by decide)).symm.trans h) | rfl), fun h => (by first | exact F5.out ((putL_ne (i := 6) (by decide)).symm.trans h) | rfl), fun _ => rfl, fun h => (by first | exact F7.out ((putL_ne (i := 6) (by decide)).symm.trans h) | rfl), fun h => (fun q => q.later hb) (F8.out ((putL_ne (i := 6) (by decide)).symm.trans h)), fun h => (by first | exact F9.out ((putL_ne (i := 6) (by decide)).symm.trans h) | rfl), fun h => absurd (hcl 10 ((putL_ne (i := 6) (by decide)).symm.trans h) 6 (by decide)) (by rw [hLi]; decide)⟩
          · refine wpOp_doG 7 (by rfl) (by rfl) ?_
            go_wp2_with fail
            have BO := Blk.new wx (stC 0 noV nilS) 28
            have hb := below_box wx (.cells (stC 0 noV nilS).toArray 28)
            change Blk (wx.alloc (.cells #[.int .i64 0, .int .i64 0, .int .i64 0, .string ⟨#[]⟩, .int .i64 0, .slice none 0 0] 28)) _ _ _ at BO
            change Below _ wx (wx.alloc (.cells #[.int .i64 0, .int .i64 0, .int .i64 0, .string ⟨#[]⟩, .int .i64 0, .slice none 0 0] 28)) at hb
            show I (putL L 7) _ _
            exact (HI.out (putL L 7) _ _).2 ⟨_, _, _, _, _, _, _, _, _, _, vo9, wx.heap.size, rfl, HS.out.later hb, E0.out.later hb, fun _ _ => BO, below_next E2.out hb, E3.out.later hb, E4.out.later hb, E5.out.later hb, E6.out.later hb, E7.out.later hb, fun h => (by first | exact F0.out ((putL_ne (i := 7) (by decide)).symm.trans h) | rfl), fun h => (by first | exact F1.out ((putL_ne (i := 7) (by decide)).symm.trans h) | rfl), fun h => (fun q => ⟨(by first | exact q.1 | rfl), q.2.later hb⟩) (F2.out ((putL_ne (i := 7) (by decide)).symm.trans h)), fun h => (by first | exact F3.out ((putL_ne (i := 7) (by decide)).symm.trans h) | rfl), fun h => (by first | exact F4.out ((putL_ne (i := 7) (by decide)).symm.trans h) | rfl), fun h => (by first | exact F5.out ((putL_ne (i := 7) (by decide)).symm.trans h) | rfl), fun h => (by first | exact F6.out ((putL_ne (i := 7) (by decide)).symm.trans h) | rfl), fun _ => ⟨rfl, HS.out.size, E2.out.size⟩, fun h => absurd (hcl 8 ((putL_ne (i := 7) (by decide)).symm.trans h) 7 (by decide)) (by rw [hLi]; decide), fun h => absurd (hcl 9 ((putL_ne (i := 7) (by decide)).symm.trans h) 7 (by decide)) (by rw [hLi]; decide), fun h => absurd (hcl 10 ((putL_ne (i := 7) (by decide)).symm.trans h) 7 (by decide)) (by rw [hLi]; decide)⟩
          · have f0 := F0.out (hanc 0 (by decide))
            have f1 := F1.out (hanc 1 (by decide))
            have f2 := F2.out (hanc 2 (by decide))
            have f3 := F3.out (hanc 3 (by decide))
            have f4 := F4.out (hanc 4 (by decide))
            have f7 := F7.out (hanc 7 (by decide))
            have BS := E1.out (hanc 7 (by decide)) hLi
            have f := f4
            subst f
            obtain ⟨fa, hq9⟩ := f7
            subst fa
            refine wpOp_doG 8 (by rfl) (by rfl) ?_
            refine wpo_storeB 28 (.tmp 11) (.tmp 47) q9 0 (stH 7 x4 nilS) (stC 0 noV nilS) 28 infoSt (show 0 + 6 ≤ 6 by decide) (stH_one _ _ rfl) rfl rfl rfl BS ?_
            intro wn BP ho
            replace BP : Blk wn q9 (stH 7 x4 nilS) 28 := BP
            simp only [Act.put, List.setIfInBounds_toArray, List.set_cons_zero, List.set_cons_succ]
            show I (putL L 8) _ _
            exact (HI.out (putL L 8) _ _).2 ⟨_, _, _, _, _, _, _, _, _, _, vo9, q9, rfl, below_oth HS.out ho hq9.1 hq9.1 HS.out.size, E0.out.oth ho (by have := HZ9.out; have := hq9.2; omega), fun _ h => (by rw [putL_self] at h; cases h), below_oth E2.out ho hq9.2 hq9.2 E2.out.size, E3.out.oth ho BS (by decide), E4.out.oth ho BS (by decide), E5.out.oth ho BS (by decide), E6.out.oth ho BS (by decide), E7.out.oth ho BS (by decide), fun h => (by first | exact F0.out ((putL_ne (i := 8) (by decide)).symm.trans h) | rfl), fun h => (by first | exact F1.out ((putL_ne (i := 8) (by decide)).symm.trans h) | rfl), fun h => (fun q => ⟨(by first | exact q.1 | rfl), q.2.oth ho BS (by decide)⟩) (F2.out ((putL_ne (i := 8) (by decide)).symm.trans h)), fun h => (by first | exact F3.out ((putL_ne (i := 8) (by decide)).symm.trans h) | rfl), fun h => (by first | exact F4.out ((putL_ne (i := 8) (by decide)).symm.trans h) | rfl), fun h => (by first | exact F5.out ((putL_ne (i := 8) (by decide)).symm.trans h) | rfl), fun h => (by first | exact F6.out ((putL_ne (i := 8) (by decide)).symm.trans h) | rfl), fun h => (by first | exact F7.out ((putL_ne (i := 8) (by decide)).symm.trans h) | rfl), fun _ => ⟨BP, hq9.1⟩, fun h => absurd (hcl 9 ((putL_ne (i := 8) (by decide)).symm.trans h) 8 (by decide)) (by rw [hLi]; decide), fun h => absurd (hcl 10 ((putL_ne (i := 8) (by decide)).symm.trans h) 8 (by decide)) (by rw [hLi]; decide)⟩
          · have f0 := F0.out (hanc 0 (by decide))
            have f1 := F1.out (hanc 1 (by decide))
            have f2 := F2.out (hanc 2 (by decide))
            have f3 := F3.out (hanc 3 (by decide))
            have f4 := F4.out (hanc 4 (by decide))
            have f5 := F5.out (hanc 5 (by decide))
            have f7 := F7.out (hanc 7 (by decide))
            have f8 := F8.out (hanc 8 (by decide))
            refine YieldsIf.wpOp (S := fun _ => True) (v := t48) (by rfl) (.inl ⟨rfl, fun w _ => rfl⟩) trivial ?_
            simp only [Act.put, List.setIfInBounds_toArray, List.set_cons_zero, List.set_cons_succ]
            have hb : Below wx.heap.size wx wx := Below.refl _ _
            show I (putL L 9) _ _
            exact (HI.out (putL L 9) _ _).2 ⟨_, _, _, _, _, _, _, _, _, _, vo9, q9, rfl, HS.out.later hb, E0.out.later hb, fun h h' => (E1.out ((putL_ne (i := 9) (by decide)).symm.trans h) ((putL_ne (i := 9) (by decide)).symm.trans h')).later hb, below_next E2.out hb, E3.out.later hb, E4.out.later hb, E5.out.later hb, E6.out.later hb, E7.out.later hb, fun h => (by first | exact F0.out ((putL_ne (i := 9) (by decide)).symm.trans h) | rfl), fun h => (by first | exact F1.out ((putL_ne (i := 9) (by decide)).symm.trans h) | rfl), fun h => (fun q => ⟨(by first | exact q.1 | rfl), q.2.later hb⟩) (F2.out ((putL_ne (i := 9) (by decide)).symm.trans h)), fun h => (by first | exact F3.out ((putL_ne (i := 9) (by decide)).symm.trans h) | rfl), fun h => (by first | exact F4.out ((putL_ne (i := 9) (by decide)).symm.trans h) | rfl), fun h => (by first | exact F5.out ((putL_ne (i := 9) (by decide)).symm.trans h) | rfl), fun h => (by first | exact F6.out ((putL_ne (i := 9) (by decide)).symm.trans h) | rfl), fun h => (by first | exact F7.out ((putL_ne (i := 9) (by decide)).symm.trans h) | rfl), fun h => (fun q => q.later hb) (F8.out ((putL_ne (i := 9) (by decide)).symm.trans h)), fun _ => f5, fun h => (by first | exact F10.out ((putL_ne (i := 9) (by decide)).symm.trans h) | rfl)⟩
          · have f0 := F0.out (hanc 0 (by decide))
            have f1 := F1.out (hanc 1 (by decide))
            have f2 := F2.out (hanc 2 (by decide))
            have f3 := F3.out (hanc 3 (by decide))
            have f4 := F4.out (hanc 4 (by decide))
            have f6 := F6.out (hanc 6 (by decide))
            have f7 := F7.out (hanc 7 (by decide))
            have f8 := F8.out (hanc 8 (by decide))
            refine YieldsIf.wpOp (S := fun _ => True) (v := t49) (by rfl) (.inl ⟨rfl, fun w _ => rfl⟩) trivial ?_
            simp only [Act.put, List.setIfInBounds_toArray, List.set_cons_zero, List.set_cons_succ]
            have hb : Below wx.heap.size wx wx := Below.refl _ _
            show I (putL L 10) _ _
            exact (HI.out (putL L 10) _ _).2 ⟨_, _, _, _, _, _, _, _, _, _, vo9, q9, rfl, HS.out.later hb, E0.out.later hb, fun h h' => (E1.out ((putL_ne (i := 10) (by decide)).symm.trans h) ((putL_ne (i := 10) (by decide)).symm.trans h')).later hb, below_next E2.out hb, E3.out.later hb, E4.out.later hb, E5.out.later hb, E6.out.later hb, E7.out.later hb, fun h => (by first | exact F0.out ((putL_ne (i := 10) (by decide)).symm.trans h) | rfl), fun h => (by first | exact F1.out ((putL_ne (i := 10) (by decide)).symm.trans h) | rfl), fun h => (fun q => ⟨(by first | exact q.1 | rfl), q.2.later hb⟩) (F2.out ((putL_ne (i := 10) (by decide)).symm.trans h)), fun h => (by first | exact F3.out ((putL_ne (i := 10) (by decide)).symm.trans h) | rfl), fun h => (by first | exact F4.out ((putL_ne (i := 10) (by decide)).symm.trans h) | rfl), fun h => (by first | exact F5.out ((putL_ne (i := 10) (by decide)).symm.trans h) | rfl), fun h => (by first | exact F6.out ((putL_ne (i := 10) (by decide)).symm.trans h) | rfl), fun h => (by first | exact F7.out ((putL_ne (i := 10) (by decide)).symm.trans h) | rfl), fun h => (fun q => q.later hb) (F8.out ((putL_ne (i := 10) (by decide)).symm.trans h)), fun h => (by first | exact F9.out ((putL_ne (i := 10) (by decide)).symm.trans h) | rfl), fun _ => f6⟩
        · intro L act wx hall hIa
          obtain ⟨t44, t45, t46, t43, t47, t48, t49, t11, t12, t13, vo9, q9, rfl, HS, E0, E1, E2, E3, E4, E5, E6, E7, F0, F1, F2, F3, F4, F5, F6, F7, F8, F9, F10⟩ := (HI.out _ _ _).1 hIa
          have f0 := F0.out (hall 0 (by decide))
          have f1 := F1.out (hall 1 (by decide))
          have f2 := F2.out (hall 2 (by decide))
          have f3 := F3.out (hall 3 (by decide))
          have f4 := F4.out (hall 4 (by decide))
          have f5 := F5.out (hall 5 (by decide))
          have f6 := F6.out (hall 6 (by decide))
          have f7 := F7.out (hall 7 (by decide))
          have f8 := F8.out (hall 8 (by decide))
          have f9 := F9.out (hall 9 (by decide))
          have f10 := F10.out (hall 10 (by decide))
          clear hIa HI F0 F1 F2 F3 F4 F5 F6 F7 F8 F9 F10
          show K9 _ _
          apply hK9
          clear hK9
          have ho := f2.2
          rw [← f9] at ho
          have HO3 : Hid (OwnV wx w.heap.size t12 [yesV true]) := ho
          have HB9 : Hid (Below w.heap.size w wx) := HS.out
          have G30 := E3
          have G31 := E4
          have G32 := E5
          have G33 := E6
          have G34 := E7
          clear ho HS E0 E1 E2 E3 E4 E5 E6 E7 f0 f1 f2 f3 f4 f5 f6 f7 f8 f9 f10
          generalize wx = w7 at HB9 G30 G31 G32 G33 G34 HO3 ⊢
          go_wp2_with fail
          refine (same_any t5 vy [yesV true] [yesV true] w7 (G32.out.vsl) (G30.out.vsl) (by simp)).mono ?_
          rintro e u1 ⟨rfl, hb1⟩
          rw [sameL_self]
          have HB1 : Hid (Below w7.heap.size w7 u1) := hb1
          clear hb1
          go_wp2_with fail
          refine (same_any t7 vn [yesV false] [yesV false] _ (G33.out.vsl.later HB1.out) (G31.out.vsl.later HB1.out) (by simp)).mono ?_
          rintro e u2 ⟨rfl, hb2⟩
          rw [sameL_self]
          have HB2 : Hid (Below w7.heap.size w7 u2) := below_next HB1.out hb2
          clear hb2
          go_wp2_with fail
          refine (same_any t9 vn [yesV false] [yesV false] _ (G34.out.vsl.later HB2.out) (G31.out.vsl.later HB2.out) (by simp)).mono ?_
          rintro e u3 ⟨rfl, hb3⟩
          rw [sameL_self]
          have HB3 : Hid (Below w7.heap.size w7 u3) := below_next HB2.out hb3
          clear hb3
          go_wp2_with fail
          refine (same_any t12 vy [yesV true] [yesV true] _ (HO3.out.vsl.later HB3.out) (G30.out.vsl.later HB3.out) (by simp)).mono ?_
          rintro e u4 ⟨rfl, hb4⟩
          rw [sameL_self]
          have HB4 : Hid (Below w7.heap.size w7 u4) := below_next HB3.out hb4
          clear hb4
          go_wp2
          go_ret
          exact ⟨rfl, below_next HB9.out HB4.out⟩
end Go.Proofs.YtpboleifllcehaaDoor
