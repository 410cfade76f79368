/- The example holds. Condition: the table of signs lies in memory. -/
import Derived.Test.YthgafmhpajikdaaDoorKS
import Derived.Test.YthgafmhpajikdaaDoorGR
namespace Go.Proofs.YthgafmhpajikdaaDoor
open Go.RowKit Go.PlainAid Ln Go.Sort
set_option linter.unusedVariables false
set_option linter.unusedSimpArgs false

/-- a state lies here, its list is held -/
structure Hq (m : Int) (w wr : World) (z : Nat) (vl : Value) (L : List Val) : Prop where
  s : Blk wr z (stC m noV vl) 28
  l : HeldV wr w.heap.size vl L
  z : w.heap.size ≤ z
theorem Hq.later {m : Int} {w wr wn : World} {z : Nat} {vl : Value} {L : List Val} (h : Hq m w wr z vl L) (hb : Below wr.heap.size wr wn) : Hq m w wn z vl L := ⟨h.s.later hb, h.l.later hb, h.z⟩
theorem Hq.oth {m : Int} {w wr wn : World} {z p : Nat} {vl : Value} {L : List Val} {c : List Value} (h : Hq m w wr z vl L) (ho : Oth p p wr wn) (hb : Blk wr p c 28) (hp : z ≠ p) : Hq m w wn z vl L := ⟨h.s.oth ho hp hp, h.l.oth ho hb (by decide), h.z⟩
def StW (w wx : World) : Prop := Below w.heap.size w wx
theorem StW.later {w wx wy : World} (h : StW w wx) (hb : Below wx.heap.size wx wy) : StW w wy := below_next h hb
theorem may_push {m : Int} (hm : ownQ m = true) {y : Val} (h : nV y = true) : mayD m ⟨vN 1, 9, [y]⟩ = true := by
  have e1 : nV (vN 1) = true := by kernel_rfl
  have key : ∀ m, fi m 9 = true → (fr m 9).inn = [2] → mayD m ⟨vN 1, 9, [y]⟩ = true := by
    intro m e2 e3
    show (nV (vN 1) && (fi m 9 && fitsL (fr m 9).inn [y])) = true
    rw [e1, e2, e3, Bool.true_and, Bool.true_and]
    refine fitsL_all rfl fun i hi => ?_
    have e : i = 0 := by simpa using hi
    subst e
    rw [show nth [2] 0 = 2 from rfl, takesB_n (by decide)]
    exact h
  rcases (ownQ_iff m).1 hm with rfl | rfl
  · exact key 5 (by kernel_rfl) (by kernel_rfl)
  · exact key 6 (by kernel_rfl) (by kernel_rfl)
theorem may_pop {m : Int} (hm : ownQ m = true) : mayD m ⟨vN 1, 10, []⟩ = true := by
  rcases (ownQ_iff m).1 hm with rfl | rfl <;> kernel_rfl
theorem nx_push (m : Int) (l : List Val) (y : Val) : nxQ m l ⟨vN 1, 9, [y]⟩ = l ++ [y] := nxQ_9 rfl
theorem ou_push (m : Int) (l : List Val) (y : Val) : outQ m l ⟨vN 1, 9, [y]⟩ = [] := outQ_9 rfl
theorem nx_pop (m : Int) (l : List Val) : nxQ m l ⟨vN 1, 10, []⟩ = popQ m l := nxQ_10 rfl
theorem ou_pop (m : Int) (l : List Val) : outQ m l ⟨vN 1, 10, []⟩ = [topQ m l] := outQ_10 rfl
theorem kn1 (m : Int) : nxQ m [] ⟨vN 1, 9, [vN 1]⟩ = [vN 1] := nx_push m [] _
theorem kn2 (m : Int) : nxQ m [vN 1] ⟨vN 1, 9, [vN 2]⟩ = [vN 1, vN 2] := nx_push m _ _
theorem nV1 : nV (vN 1) = true := by kernel_rfl
theorem nV2 : nV (vN 2) = true := by kernel_rfl
set_option maxRecDepth 100000 in
set_option maxHeartbeats 16000000 in
theorem two_any (K : QueueOK) (m : Int) (hm : ownQ m = true) (w : World) (ht : Tb w) : Calls Tryd.prog 20 #[.int .i64 m] w fun e w' => ∃ vo, e = .returned vo ∧ OwnV w' w.heap.size vo [topQ m [vN 1, vN 2]] ∧ Below w.heap.size w w' := by
  have mixed : Tryd.prog.follows .mixedOrders = true := by kernel_rfl
  have HT : Hid (Tb w) := ht
  have HK : Hid QueueOK := K
  have HM : Hid (ownQ m = true) := hm
  clear ht
  have h9 := fun w => K.new m w
  rw [hm, if_pos rfl] at h9
  simp only [stC, noV] at h9
  clear K hm
  go_enter Tryd.func20, Tryd.ntmps20
  go_wp2_with (go_at_call 7; refine (h9 _).mono ?_; rintro e w2 ⟨rfl, hb2⟩)
  have hb3 := below_box w2 (.cells (stC m noV nilS).toArray 28)
  have HH0 : Hid (Hq m w (w2.alloc (.cells (stC m noV nilS).toArray 28)) w2.heap.size nilS []) := ⟨Blk.new w2 _ _, HeldV.nil _ _, hb2.size⟩
  have HB0 : Hid (Below w.heap.size w (w2.alloc (.cells (stC m noV nilS).toArray 28))) := below_next hb2 hb3
  change Hid (Hq m w (w2.alloc (.cells #[.int .i64 m, .int .i64 0, .int .i64 0, .string noB, .int .i64 0, .slice none 0 0] 28)) _ _ _) at HH0
  change Hid (Below _ w (w2.alloc (.cells #[.int .i64 m, .int .i64 0, .int .i64 0, .string noB, .int .i64 0, .slice none 0 0] 28))) at HB0
  generalize w2.alloc (.cells #[.int .i64 m, .int .i64 0, .int .i64 0, .string noB, .int .i64 0, .slice none 0 0] 28) = w3 at HH0 HB0 ⊢
  obtain ⟨s, hs⟩ : ∃ s, w2.heap.size = s := ⟨_, rfl⟩
  rw [hs] at HH0
  simp only [hs]
  clear hs hb2 hb3 h9
  have HP0 : Hid (Below w.heap.size w w3 ∧ Hq m w w3 s nilS []) := ⟨HB0.out, HH0.out⟩
  clear HB0 HH0
  rename_i K9 hK9
  obtain ⟨I, hI⟩ : ∃ I : (Nat → Bool) → Act → World → Prop, ∀ L act wx, I L act wx ↔ (fun (L : Nat → Bool) (act : Act) (wx : World) => ∃ (t14 : Value) (t15 : Value) (t16 : Value) (t17 : Value) (t18 : Value) (t13 : Value) (t19 : Value) (t20 : Value) (t21 : Value) (al9 : Option Addr) (cl9 : Nat) (nl9 : Nat) (vo9 : Value) (q9 : Nat), act = ⟨#[Value.int .i64 m, undef, Value.slice none 0 0, Value.pointer (some ⟨s, 0, none⟩), Value.bool true, undef, undef, undef, Value.tuple #[Value.agg #[Value.int .i64 m, Value.int .i64 0, Value.int .i64 0, Value.string noB, Value.int .i64 0, nilS], Value.bool true], Value.int .i64 m, Value.tuple #[Value.agg #[Value.int .i64 m, Value.int .i64 0, Value.int .i64 0, Value.string noB, Value.int .i64 0, nilS], Value.bool true], Value.agg #[Value.int .i64 m, Value.int .i64 0, Value.int .i64 0, Value.string noB, Value.int .i64 0, nilS], Value.bool true, t13, t14, t15, t16, t17, t18, t19, t20, t21, undef, undef, undef, undef, undef, undef, undef, undef, undef, undef, undef, undef, undef, undef, undef, undef, undef], []⟩ ∧ Hid (StW w wx) ∧ Hid (L 9 = false → Hq m w wx s nilS []) ∧ Hid (L 0 = true → t14 = .agg #[.int .i64 m, .int .i64 0, .int .i64 0, .string noB, .int .i64 0, nilS]) ∧ Hid (L 1 = true → t15 = .agg #[.int .i64 1, .int .i64 1, .string noB]) ∧ Hid (L 2 = true → t16 = .agg #[.int .i64 1, .int .i64 1, .string noB]) ∧ Hid (L 3 = true → ∃ q8 : Nat, t17 = .slice (some ⟨q8, 0, none⟩) 1 1 ∧ OwnV wx w.heap.size t17 [(vN 1)]) ∧ Hid (L 4 = true → t18 = .tuple #[.agg (stC m noV (.slice al9 nl9 cl9)).toArray, vo9, .bool true] ∧ OwnV wx w.heap.size vo9 [] ∧ HeldV wx w.heap.size (.slice al9 nl9 cl9) [vN 1]) ∧ Hid (L 5 = true → t13 = .tuple #[.agg (stC m noV (.slice al9 nl9 cl9)).toArray, vo9, .bool true]) ∧ Hid (L 6 = true → t19 = .agg (stC m noV (.slice al9 nl9 cl9)).toArray) ∧ Hid (L 7 = true → t20 = vo9) ∧ Hid (L 8 = true → t21 = .bool true) ∧ Hid (L 9 = true → Hq m w wx s (.slice al9 nl9 cl9) [vN 1])) L act wx := ⟨_, fun _ _ _ => Iff.rfl⟩
  dsimp only at hI
  have HI : Hid (∀ L act wx, I L act wx ↔ _) := hI
  clear hI
  refine wp_region_inv mixed [[], [], [], [2], [0, 1, 2, 3], [0, 1, 2, 3, 4], [0, 1, 2, 3, 4, 5], [0, 1, 2, 3, 4, 5], [0, 1, 2, 3, 4, 5], [0, 1, 2, 3, 4, 5, 6]] (by kernel_rfl) I ?_ ?_ ?_
  · refine (HI.out _ _ _).2 ⟨_, _, _, _, _, _, _, _, _, none, 0, 0, undef, 0, rfl, ?_, ?_, fun h => Bool.noConfusion h, fun h => Bool.noConfusion h, fun h => Bool.noConfusion h, fun h => Bool.noConfusion h, fun h => Bool.noConfusion h, fun h => Bool.noConfusion h, fun h => Bool.noConfusion h, fun h => Bool.noConfusion h, fun h => Bool.noConfusion h, fun h => Bool.noConfusion h⟩
    · exact below_next HP0.out.1 (Stay.drew _)
    · exact fun _ => HP0.out.2.later (Stay.drew _)
  · intro i hi L act wx hIa hLi hcl hanc
    obtain ⟨t14, t15, t16, t17, t18, t13, t19, t20, t21, al9, cl9, nl9, vo9, q9, rfl, HS, E0, F0, F1, F2, F3, F4, F5, F6, F7, F8, F9⟩ := (HI.out _ _ _).1 hIa
    clear hIa
    have hi' : i = 0 ∨ i = 1 ∨ i = 2 ∨ i = 3 ∨ i = 4 ∨ i = 5 ∨ i = 6 ∨ i = 7 ∨ i = 8 ∨ i = 9 := by have hi : i < 10 := hi; omega
    clear hi
    rcases hi' with rfl | rfl | rfl | rfl | rfl | rfl | rfl | rfl | rfl | rfl
    · have hun : L 9 = false := by
        cases h : L 9
        · rfl
        · exact absurd (hcl 9 h 0 (by decide)) (by rw [hLi]; decide)
      have hz := E0.out hun
      refine wpOp_doG 0 (by rfl) (by rfl) ?_
      refine wp_load_mid 28 (.tmp 3) rfl s 0 rfl (stC m noV nilS) _ (Blk.all hz.s) Tryd.underlying28 rfl infoSt ?_
      simp only [Act.put, List.setIfInBounds_toArray, List.set_cons_zero, List.set_cons_succ]
      have hb : Below wx.heap.size wx wx := Below.refl _ _
      show I (putL L 0) _ _
      exact (HI.out (putL L 0) _ _).2 ⟨_, _, _, _, _, _, _, _, _, al9, cl9, nl9, vo9, q9, rfl, HS.out.later hb, fun h => (E0.out ((putL_ne (i := 0) (by decide)).symm.trans h)).later hb, fun _ => rfl, fun h => (by first | exact F1.out ((putL_ne (i := 0) (by decide)).symm.trans h) | rfl), fun h => (by first | exact F2.out ((putL_ne (i := 0) (by decide)).symm.trans h) | rfl), fun h => (fun q => q.imp fun _ k => ⟨k.1, k.2.later hb⟩) (F3.out ((putL_ne (i := 0) (by decide)).symm.trans h)), fun h => absurd (hcl 4 ((putL_ne (i := 0) (by decide)).symm.trans h) 0 (by decide)) (by rw [hLi]; decide), fun h => absurd (hcl 5 ((putL_ne (i := 0) (by decide)).symm.trans h) 0 (by decide)) (by rw [hLi]; decide), fun h => absurd (hcl 6 ((putL_ne (i := 0) (by decide)).symm.trans h) 0 (by decide)) (by rw [hLi]; decide), fun h => absurd (hcl 7 ((putL_ne (i := 0) (by decide)).symm.trans h) 0 (by decide)) (by rw [hLi]; decide), fun h => absurd (hcl 8 ((putL_ne (i := 0) (by decide)).symm.trans h) 0 (by decide)) (by rw [hLi]; decide), fun h => absurd (hcl 9 ((putL_ne (i := 0) (by decide)).symm.trans h) 0 (by decide)) (by rw [hLi]; decide)⟩
    · refine wpOp_doG 1 (by rfl) (by rfl) ?_
      go_wp2_with fail
      refine (num_any 1 wx).mono ?_
      rintro e wn ⟨rfl, hb⟩
      show I (putL L 1) _ _
      exact (HI.out (putL L 1) _ _).2 ⟨_, _, _, _, _, _, _, _, _, al9, cl9, nl9, vo9, q9, rfl, HS.out.later hb, fun h => (E0.out ((putL_ne (i := 1) (by decide)).symm.trans h)).later hb, fun h => (by first | exact F0.out ((putL_ne (i := 1) (by decide)).symm.trans h) | rfl), fun _ => rfl, fun h => (by first | exact F2.out ((putL_ne (i := 1) (by decide)).symm.trans h) | rfl), fun h => (fun q => q.imp fun _ k => ⟨k.1, k.2.later hb⟩) (F3.out ((putL_ne (i := 1) (by decide)).symm.trans h)), fun h => absurd (hcl 4 ((putL_ne (i := 1) (by decide)).symm.trans h) 1 (by decide)) (by rw [hLi]; decide), fun h => absurd (hcl 5 ((putL_ne (i := 1) (by decide)).symm.trans h) 1 (by decide)) (by rw [hLi]; decide), fun h => absurd (hcl 6 ((putL_ne (i := 1) (by decide)).symm.trans h) 1 (by decide)) (by rw [hLi]; decide), fun h => absurd (hcl 7 ((putL_ne (i := 1) (by decide)).symm.trans h) 1 (by decide)) (by rw [hLi]; decide), fun h => absurd (hcl 8 ((putL_ne (i := 1) (by decide)).symm.trans h) 1 (by decide)) (by rw [hLi]; decide), fun h => absurd (hcl 9 ((putL_ne (i := 1) (by decide)).symm.trans h) 1 (by decide)) (by rw [hLi]; decide)⟩
    · refine wpOp_doG 2 (by rfl) (by rfl) ?_
      go_wp2_with fail
      refine (num_any 1 wx).mono ?_
      rintro e wn ⟨rfl, hb⟩
      show I (putL L 2) _ _
      exact (HI.out (putL L 2) _ _).2 ⟨_, _, _, _, _, _, _, _, _, al9, cl9, nl9, vo9, q9, rfl, HS.out.later hb, fun h => (E0.out ((putL_ne (i := 2) (by decide)).symm.trans h)).later hb, fun h => (by first | exact F0.out ((putL_ne (i := 2) (by decide)).symm.trans h) | rfl), fun h => (by first | exact F1.out ((putL_ne (i := 2) (by decide)).symm.trans h) | rfl), fun _ => rfl, fun h => absurd (hcl 3 ((putL_ne (i := 2) (by decide)).symm.trans h) 2 (by decide)) (by rw [hLi]; decide), fun h => absurd (hcl 4 ((putL_ne (i := 2) (by decide)).symm.trans h) 2 (by decide)) (by rw [hLi]; decide), fun h => absurd (hcl 5 ((putL_ne (i := 2) (by decide)).symm.trans h) 2 (by decide)) (by rw [hLi]; decide), fun h => absurd (hcl 6 ((putL_ne (i := 2) (by decide)).symm.trans h) 2 (by decide)) (by rw [hLi]; decide), fun h => absurd (hcl 7 ((putL_ne (i := 2) (by decide)).symm.trans h) 2 (by decide)) (by rw [hLi]; decide), fun h => absurd (hcl 8 ((putL_ne (i := 2) (by decide)).symm.trans h) 2 (by decide)) (by rw [hLi]; decide), fun h => absurd (hcl 9 ((putL_ne (i := 2) (by decide)).symm.trans h) 2 (by decide)) (by rw [hLi]; decide)⟩
    · have f2 := F2.out (hanc 2 (by decide))
      have f := f2
      subst f
      refine wpOp_doG 3 (by rfl) (by rfl) ?_
      go_wp2_with fail
      have HV9 := own_one wx w.heap.size HS.out.size (vN 1)
      have hb := below_box wx (.cells (encV (vN 1)).toArray 25)
      change OwnV (wx.alloc (.cells #[.int .i64 1, .int .i64 1, .string noB] 25)) _ _ _ at HV9
      change Below _ wx (wx.alloc (.cells #[.int .i64 1, .int .i64 1, .string noB] 25)) at hb
      show I (putL L 3) _ _
      exact (HI.out (putL L 3) _ _).2 ⟨_, _, _, _, _, _, _, _, _, al9, cl9, nl9, vo9, q9, rfl, HS.out.later hb, fun h => (E0.out ((putL_ne (i := 3) (by decide)).symm.trans h)).later hb, fun h => (by first | exact F0.out ((putL_ne (i := 3) (by decide)).symm.trans h) | rfl), fun h => (by first | exact F1.out ((putL_ne (i := 3) (by decide)).symm.trans h) | rfl), fun h => (by first | exact F2.out ((putL_ne (i := 3) (by decide)).symm.trans h) | rfl), fun _ => ⟨_, rfl, HV9⟩, fun h => absurd (hcl 4 ((putL_ne (i := 3) (by decide)).symm.trans h) 3 (by decide)) (by rw [hLi]; decide), fun h => absurd (hcl 5 ((putL_ne (i := 3) (by decide)).symm.trans h) 3 (by decide)) (by rw [hLi]; decide), fun h => absurd (hcl 6 ((putL_ne (i := 3) (by decide)).symm.trans h) 3 (by decide)) (by rw [hLi]; decide), fun h => absurd (hcl 7 ((putL_ne (i := 3) (by decide)).symm.trans h) 3 (by decide)) (by rw [hLi]; decide), fun h => absurd (hcl 8 ((putL_ne (i := 3) (by decide)).symm.trans h) 3 (by decide)) (by rw [hLi]; decide), fun h => absurd (hcl 9 ((putL_ne (i := 3) (by decide)).symm.trans h) 3 (by decide)) (by rw [hLi]; decide)⟩
    · have f0 := F0.out (hanc 0 (by decide))
      have f1 := F1.out (hanc 1 (by decide))
      have f2 := F2.out (hanc 2 (by decide))
      have f3 := F3.out (hanc 3 (by decide))
      have hun : L 9 = false := by
        cases h : L 9
        · rfl
        · exact absurd (hcl 9 h 4 (by decide)) (by rw [hLi]; decide)
      have hz := E0.out hun
      have g0 := f0
      have g1 := f1
      subst g0 g1
      obtain ⟨q8, g3, hv8⟩ := f3
      subst g3
      refine wpOp_doG 4 (by rfl) (by rfl) ?_
      go_wp2_with fail
      refine (HK.out.yes m w.heap.size (vN 1) nilS [] 9 (.slice (some ⟨q8, 0, none⟩) 1 1) [(vN 1)] wx HM.out HS.out.size (HT.out.later HS.out) hz.l (by simp) hv8.vsl (sz1 _ (Nat.zero_le _)) (Nat.zero_le _) (may_push HM.out nV1)).mono ?_
      rintro e wn ⟨vo, vl9, rfl, ho9, hl9, -, hb⟩
      have ho9 := ho9.base HS.out.size
      rw [kn1] at hl9
      rw [ou_push] at ho9
      obtain ⟨al8, cl8, hf9⟩ := hl9.form
      obtain ⟨nl8, hn9⟩ : ∃ nl8, ([vN 1]).length = nl8 := ⟨_, rfl⟩
      rw [hn9] at hf9
      subst hf9
      clear hn9
      show I (putL L 4) _ _
      exact (HI.out (putL L 4) _ _).2 ⟨_, _, _, _, _, _, _, _, _, al8, cl8, nl8, vo, q9, rfl, HS.out.later hb, fun h => (E0.out ((putL_ne (i := 4) (by decide)).symm.trans h)).later hb, fun h => (by first | exact F0.out ((putL_ne (i := 4) (by decide)).symm.trans h) | rfl), fun h => (by first | exact F1.out ((putL_ne (i := 4) (by decide)).symm.trans h) | rfl), fun h => (by first | exact F2.out ((putL_ne (i := 4) (by decide)).symm.trans h) | rfl), fun h => (fun q => q.imp fun _ k => ⟨k.1, k.2.later hb⟩) (F3.out ((putL_ne (i := 4) (by decide)).symm.trans h)), fun _ => ⟨rfl, ho9, hl9⟩, fun h => absurd (hcl 5 ((putL_ne (i := 4) (by decide)).symm.trans h) 4 (by decide)) (by rw [hLi]; decide), fun h => absurd (hcl 6 ((putL_ne (i := 4) (by decide)).symm.trans h) 4 (by decide)) (by rw [hLi]; decide), fun h => absurd (hcl 7 ((putL_ne (i := 4) (by decide)).symm.trans h) 4 (by decide)) (by rw [hLi]; decide), fun h => absurd (hcl 8 ((putL_ne (i := 4) (by decide)).symm.trans h) 4 (by decide)) (by rw [hLi]; decide), fun h => absurd (hcl 9 ((putL_ne (i := 4) (by decide)).symm.trans h) 4 (by decide)) (by rw [hLi]; decide)⟩
    · have f0 := F0.out (hanc 0 (by decide))
      have f1 := F1.out (hanc 1 (by decide))
      have f2 := F2.out (hanc 2 (by decide))
      have f3 := F3.out (hanc 3 (by decide))
      have f4 := F4.out (hanc 4 (by decide))
      have f := f4.1
      subst f
      refine YieldsIf.wpOp (S := fun _ => True) (v := .tuple #[.agg (stC m noV (.slice al9 nl9 cl9)).toArray, vo9, .bool true]) (by rfl) (.inl ⟨rfl, fun w _ => rfl⟩) trivial ?_
      simp only [Act.put, List.setIfInBounds_toArray, List.set_cons_zero, List.set_cons_succ]
      have hb : Below wx.heap.size wx wx := Below.refl _ _
      show I (putL L 5) _ _
      exact (HI.out (putL L 5) _ _).2 ⟨_, _, _, _, _, _, _, _, _, al9, cl9, nl9, vo9, q9, rfl, HS.out.later hb, fun h => (E0.out ((putL_ne (i := 5) (by decide)).symm.trans h)).later hb, fun h => (by first | exact F0.out ((putL_ne (i := 5) (by decide)).symm.trans h) | rfl), fun h => (by first | exact F1.out ((putL_ne (i := 5) (by decide)).symm.trans h) | rfl), fun h => (by first | exact F2.out ((putL_ne (i := 5) (by decide)).symm.trans h) | rfl), fun h => (fun q => q.imp fun _ k => ⟨k.1, k.2.later hb⟩) (F3.out ((putL_ne (i := 5) (by decide)).symm.trans h)), fun h => (fun q => ⟨q.1, q.2.1.later hb, q.2.2.later hb⟩) (F4.out ((putL_ne (i := 5) (by decide)).symm.trans h)), fun _ => rfl, fun h => absurd (hcl 6 ((putL_ne (i := 5) (by decide)).symm.trans h) 5 (by decide)) (by rw [hLi]; decide), fun h => absurd (hcl 7 ((putL_ne (i := 5) (by decide)).symm.trans h) 5 (by decide)) (by rw [hLi]; decide), fun h => absurd (hcl 8 ((putL_ne (i := 5) (by decide)).symm.trans h) 5 (by decide)) (by rw [hLi]; decide), fun h => absurd (hcl 9 ((putL_ne (i := 5) (by decide)).symm.trans h) 5 (by decide)) (by rw [hLi]; decide)⟩
    · have f0 := F0.out (hanc 0 (by decide))
      have f1 := F1.out (hanc 1 (by decide))
      have f2 := F2.out (hanc 2 (by decide))
      have f3 := F3.out (hanc 3 (by decide))
      have f4 := F4.out (hanc 4 (by decide))
      have f5 := F5.out (hanc 5 (by decide))
      have f := f5
      subst f
      refine YieldsIf.wpOp (S := fun _ => True) (v := .agg (stC m noV (.slice al9 nl9 cl9)).toArray) (by rfl) (.inl ⟨rfl, fun w _ => by go_simp⟩) trivial ?_
      simp only [Act.put, List.setIfInBounds_toArray, List.set_cons_zero, List.set_cons_succ]
      have hb : Below wx.heap.size wx wx := Below.refl _ _
      show I (putL L 6) _ _
      exact (HI.out (putL L 6) _ _).2 ⟨_, _, _, _, _, _, _, _, _, al9, cl9, nl9, vo9, q9, rfl, HS.out.later hb, fun h => (E0.out ((putL_ne (i := 6) (by decide)).symm.trans h)).later hb, fun h => (by first | exact F0.out ((putL_ne (i := 6) (by decide)).symm.trans h) | rfl), fun h => (by first | exact F1.out ((putL_ne (i := 6) (by decide)).symm.trans h) | rfl), fun h => (by first | exact F2.out ((putL_ne (i := 6) (by decide)).symm.trans h) | rfl), fun h => (fun q => q.imp fun _ k => ⟨k.1, k.2.later hb⟩) (F3.out ((putL_ne (i := 6) (by decide)).symm.trans h)), fun h => (fun q => ⟨q.1, q.2.1.later hb, q.2.2.later hb⟩) (F4.out ((putL_ne (i := 6) (by decide)).symm.trans h)), fun h => (by first | exact F5.out ((putL_ne (i := 6) (by decide)).symm.trans h) | rfl), fun _ => rfl, fun h => (by first | exact F7.out ((putL_ne (i := 6) (by decide)).symm.trans h) | rfl), fun h => (by first | exact F8.out ((putL_ne (i := 6) (by decide)).symm.trans h) | rfl), fun h => absurd (hcl 9 ((putL_ne (i := 6) (by decide)).symm.trans h) 6 (by decide)) (by rw [hLi]; decide)⟩
    · have f0 := F0.out (hanc 0 (by decide))
      have f1 := F1.out (hanc 1 (by decide))
      have f2 := F2.out (hanc 2 (by decide))
      have f3 := F3.out (hanc 3 (by decide))
      have f4 := F4.out (hanc 4 (by decide))
      have f5 := F5.out (hanc 5 (by decide))
      have f := f5
      subst f
      refine YieldsIf.wpOp (S := fun _ => True) (v := vo9) (by rfl) (.inl ⟨rfl, fun w _ => by go_simp⟩) trivial ?_
      simp only [Act.put, List.setIfInBounds_toArray, List.set_cons_zero, List.set_cons_succ]
      have hb : Below wx.heap.size wx wx := Below.refl _ _
      show I (putL L 7) _ _
      exact (HI.out (putL L 7) _ _).2 ⟨_, _, _, _, _, _, _, _, _, al9, cl9, nl9, vo9, q9, rfl, HS.out.later hb, fun h => (E0.out ((putL_ne (i := 7) (by decide)).symm.trans h)).later hb, fun h => (by first | exact F0.out ((putL_ne (i := 7) (by decide)).symm.trans h) | rfl), fun h => (by first | exact F1.out ((putL_ne (i := 7) (by decide)).symm.trans h) | rfl), fun h => (by first | exact F2.out ((putL_ne (i := 7) (by decide)).symm.trans h) | rfl), fun h => (fun q => q.imp fun _ k => ⟨k.1, k.2.later hb⟩) (F3.out ((putL_ne (i := 7) (by decide)).symm.trans h)), fun h => (fun q => ⟨q.1, q.2.1.later hb, q.2.2.later hb⟩) (F4.out ((putL_ne (i := 7) (by decide)).symm.trans h)), fun h => (by first | exact F5.out ((putL_ne (i := 7) (by decide)).symm.trans h) | rfl), fun h => (by first | exact F6.out ((putL_ne (i := 7) (by decide)).symm.trans h) | rfl), fun _ => rfl, fun h => (by first | exact F8.out ((putL_ne (i := 7) (by decide)).symm.trans h) | rfl), fun h => (fun q => q.later hb) (F9.out ((putL_ne (i := 7) (by decide)).symm.trans h))⟩
    · have f0 := F0.out (hanc 0 (by decide))
      have f1 := F1.out (hanc 1 (by decide))
      have f2 := F2.out (hanc 2 (by decide))
      have f3 := F3.out (hanc 3 (by decide))
      have f4 := F4.out (hanc 4 (by decide))
      have f5 := F5.out (hanc 5 (by decide))
      have f := f5
      subst f
      refine YieldsIf.wpOp (S := fun _ => True) (v := .bool true) (by rfl) (.inl ⟨rfl, fun w _ => by go_simp⟩) trivial ?_
      simp only [Act.put, List.setIfInBounds_toArray, List.set_cons_zero, List.set_cons_succ]
      have hb : Below wx.heap.size wx wx := Below.refl _ _
      show I (putL L 8) _ _
      exact (HI.out (putL L 8) _ _).2 ⟨_, _, _, _, _, _, _, _, _, al9, cl9, nl9, vo9, q9, rfl, HS.out.later hb, fun h => (E0.out ((putL_ne (i := 8) (by decide)).symm.trans h)).later hb, fun h => (by first | exact F0.out ((putL_ne (i := 8) (by decide)).symm.trans h) | rfl), fun h => (by first | exact F1.out ((putL_ne (i := 8) (by decide)).symm.trans h) | rfl), fun h => (by first | exact F2.out ((putL_ne (i := 8) (by decide)).symm.trans h) | rfl), fun h => (fun q => q.imp fun _ k => ⟨k.1, k.2.later hb⟩) (F3.out ((putL_ne (i := 8) (by decide)).symm.trans h)), fun h => (fun q => ⟨q.1, q.2.1.later hb, q.2.2.later hb⟩) (F4.out ((putL_ne (i := 8) (by decide)).symm.trans h)), fun h => (by first | exact F5.out ((putL_ne (i := 8) (by decide)).symm.trans h) | rfl), fun h => (by first | exact F6.out ((putL_ne (i := 8) (by decide)).symm.trans h) | rfl), fun h => (by first | exact F7.out ((putL_ne (i := 8) (by decide)).symm.trans h) | rfl), fun _ => rfl, fun h => (fun q => q.later hb) (F9.out ((putL_ne (i := 8) (by decide)).symm.trans h))⟩
    · have f0 := F0.out (hanc 0 (by decide))
      have f1 := F1.out (hanc 1 (by decide))
      have f2 := F2.out (hanc 2 (by decide))
      have f3 := F3.out (hanc 3 (by decide))
      have f4 := F4.out (hanc 4 (by decide))
      have f5 := F5.out (hanc 5 (by decide))
      have f6 := F6.out (hanc 6 (by decide))
      have hun : L 9 = false := hLi
      have hz := E0.out hun
      have f := f6
      subst f
      refine wpOp_doG 9 (by rfl) (by rfl) ?_
      refine wpo_storeB 28 (.tmp 3) (.tmp 19) s 0 (stC m noV (.slice al9 nl9 cl9)) (stC m noV nilS) 28 infoSt (show 0 + 6 ≤ 6 by decide) (stC_one _ _ rfl) rfl rfl rfl hz.s ?_
      intro wn BP ho
      replace BP : Blk wn s (stC m noV (.slice al9 nl9 cl9)) 28 := BP
      have BS := hz.s
      simp only [Act.put, List.setIfInBounds_toArray, List.set_cons_zero, List.set_cons_succ]
      show I (putL L 9) _ _
      exact (HI.out (putL L 9) _ _).2 ⟨_, _, _, _, _, _, _, _, _, al9, cl9, nl9, vo9, q9, rfl, below_oth HS.out ho hz.z hz.z HS.out.size, fun h => (by rw [putL_self] at h; cases h), fun h => (by first | exact F0.out ((putL_ne (i := 9) (by decide)).symm.trans h) | rfl), fun h => (by first | exact F1.out ((putL_ne (i := 9) (by decide)).symm.trans h) | rfl), fun h => (by first | exact F2.out ((putL_ne (i := 9) (by decide)).symm.trans h) | rfl), fun h => (fun q => q.imp fun _ k => ⟨k.1, k.2.oth ho BS (by decide)⟩) (F3.out ((putL_ne (i := 9) (by decide)).symm.trans h)), fun h => (fun q => ⟨q.1, q.2.1.oth ho BS (by decide), q.2.2.oth ho BS (by decide)⟩) (F4.out ((putL_ne (i := 9) (by decide)).symm.trans h)), fun h => (by first | exact F5.out ((putL_ne (i := 9) (by decide)).symm.trans h) | rfl), fun h => (by first | exact F6.out ((putL_ne (i := 9) (by decide)).symm.trans h) | rfl), fun h => (by first | exact F7.out ((putL_ne (i := 9) (by decide)).symm.trans h) | rfl), fun h => (by first | exact F8.out ((putL_ne (i := 9) (by decide)).symm.trans h) | rfl), fun _ => ⟨BP, f4.2.2.oth ho BS (by decide), hz.z⟩⟩
  · intro L act wx hall hIa
    obtain ⟨t14, t15, t16, t17, t18, t13, t19, t20, t21, al9, cl9, nl9, vo9, q9, rfl, HS, E0, F0, F1, F2, F3, F4, F5, F6, F7, F8, F9⟩ := (HI.out _ _ _).1 hIa
    have f0 := F0.out (hall 0 (by decide))
    have f1 := F1.out (hall 1 (by decide))
    have f2 := F2.out (hall 2 (by decide))
    have f3 := F3.out (hall 3 (by decide))
    have f4 := F4.out (hall 4 (by decide))
    have f5 := F5.out (hall 5 (by decide))
    have f6 := F6.out (hall 6 (by decide))
    have f7 := F7.out (hall 7 (by decide))
    have f8 := F8.out (hall 8 (by decide))
    have f9 := F9.out (hall 9 (by decide))
    clear hIa HI F0 F1 F2 F3 F4 F5 F6 F7 F8 F9
    show K9 _ _
    apply hK9
    clear hK9
    obtain ⟨va1, hva1⟩ : ∃ v, Value.slice al9 nl9 cl9 = v := ⟨_, rfl⟩
    have fz := f9
    rw [hva1] at fz
    have HP1 : Hid (Below w.heap.size w wx ∧ Hq m w wx s va1 [vN 1]) := ⟨HS.out, fz⟩
    generalize wx = w4 at HP1 ⊢
    clear fz hva1 HS E0 f0 f1 f2 f3 f4 f5 f6 f7 f8 f9
    go_wp2_with fail
    rename_i K9 hK9
    obtain ⟨I, hI⟩ : ∃ I : (Nat → Bool) → Act → World → Prop, ∀ L act wx, I L act wx ↔ (fun (L : Nat → Bool) (act : Act) (wx : World) => ∃ (t23 : Value) (t24 : Value) (t25 : Value) (t26 : Value) (t27 : Value) (t22 : Value) (t28 : Value) (t29 : Value) (t30 : Value) (al9 : Option Addr) (cl9 : Nat) (nl9 : Nat) (vo9 : Value) (q9 : Nat), act = ⟨#[Value.int .i64 m, undef, Value.slice none 0 0, Value.pointer (some ⟨s, 0, none⟩), Value.bool true, undef, undef, undef, Value.tuple #[Value.agg #[Value.int .i64 m, Value.int .i64 0, Value.int .i64 0, Value.string noB, Value.int .i64 0, nilS], Value.bool true], Value.int .i64 m, Value.tuple #[Value.agg #[Value.int .i64 m, Value.int .i64 0, Value.int .i64 0, Value.string noB, Value.int .i64 0, nilS], Value.bool true], Value.agg #[Value.int .i64 m, Value.int .i64 0, Value.int .i64 0, Value.string noB, Value.int .i64 0, nilS], Value.bool true, t13, t14, t15, t16, t17, t18, t19, t20, t21, t22, t23, t24, t25, t26, t27, t28, t29, t30, undef, undef, undef, undef, undef, undef, undef, undef], []⟩ ∧ Hid (StW w wx) ∧ Hid (L 9 = false → Hq m w wx s va1 [vN 1]) ∧ Hid (L 0 = true → t23 = .agg #[.int .i64 m, .int .i64 0, .int .i64 0, .string noB, .int .i64 0, va1]) ∧ Hid (L 1 = true → t24 = .agg #[.int .i64 1, .int .i64 1, .string noB]) ∧ Hid (L 2 = true → t25 = .agg #[.int .i64 1, .int .i64 2, .string noB]) ∧ Hid (L 3 = true → ∃ q8 : Nat, t26 = .slice (some ⟨q8, 0, none⟩) 1 1 ∧ OwnV wx w.heap.size t26 [(vN 2)]) ∧ Hid (L 4 = true → t27 = .tuple #[.agg (stC m noV (.slice al9 nl9 cl9)).toArray, vo9, .bool true] ∧ OwnV wx w.heap.size vo9 [] ∧ HeldV wx w.heap.size (.slice al9 nl9 cl9) [vN 1, vN 2]) ∧ Hid (L 5 = true → t22 = .tuple #[.agg (stC m noV (.slice al9 nl9 cl9)).toArray, vo9, .bool true]) ∧ Hid (L 6 = true → t28 = .agg (stC m noV (.slice al9 nl9 cl9)).toArray) ∧ Hid (L 7 = true → t29 = vo9) ∧ Hid (L 8 = true → t30 = .bool true) ∧ Hid (L 9 = true → Hq m w wx s (.slice al9 nl9 cl9) [vN 1, vN 2])) L act wx := ⟨_, fun _ _ _ => Iff.rfl⟩
    dsimp only at hI
    have HI : Hid (∀ L act wx, I L act wx ↔ _) := hI
    clear hI
    refine wp_region_inv mixed [[], [], [], [2], [0, 1, 2, 3], [0, 1, 2, 3, 4], [0, 1, 2, 3, 4, 5], [0, 1, 2, 3, 4, 5], [0, 1, 2, 3, 4, 5], [0, 1, 2, 3, 4, 5, 6]] (by kernel_rfl) I ?_ ?_ ?_
    · refine (HI.out _ _ _).2 ⟨_, _, _, _, _, _, _, _, _, none, 0, 0, undef, 0, rfl, ?_, ?_, fun h => Bool.noConfusion h, fun h => Bool.noConfusion h, fun h => Bool.noConfusion h, fun h => Bool.noConfusion h, fun h => Bool.noConfusion h, fun h => Bool.noConfusion h, fun h => Bool.noConfusion h, fun h => Bool.noConfusion h, fun h => Bool.noConfusion h, fun h => Bool.noConfusion h⟩
      · exact below_next HP1.out.1 (Stay.drew _)
      · exact fun _ => HP1.out.2.later (Stay.drew _)
    · intro i hi L act wx hIa hLi hcl hanc
      obtain ⟨t23, t24, t25, t26, t27, t22, t28, t29, t30, al9, cl9, nl9, vo9, q9, rfl, HS, E0, F0, F1, F2, F3, F4, F5, F6, F7, F8, F9⟩ := (HI.out _ _ _).1 hIa
      clear hIa
      have hi' : i = 0 ∨ i = 1 ∨ i = 2 ∨ i = 3 ∨ i = 4 ∨ i = 5 ∨ i = 6 ∨ i = 7 ∨ i = 8 ∨ i = 9 := by have hi : i < 10 := hi; omega
      clear hi
      rcases hi' with rfl | rfl | rfl | rfl | rfl | rfl | rfl | rfl | rfl | rfl
      · have hun : L 9 = false := by
          cases h : L 9
          · rfl
          · exact absurd (hcl 9 h 0 (by decide)) (by rw [hLi]; decide)
        have hz := E0.out hun
        refine wpOp_doG 0 (by rfl) (by rfl) ?_
        refine wp_load_mid 28 (.tmp 3) rfl s 0 rfl (stC m noV va1) _ (Blk.all hz.s) Tryd.underlying28 rfl infoSt ?_
        simp only [Act.put, List.setIfInBounds_toArray, List.set_cons_zero, List.set_cons_succ]
        have hb : Below wx.heap.size wx wx := Below.refl _ _
        show I (putL L 0) _ _
        exact (HI.out (putL L 0) _ _).2 ⟨_, _, _, _, _, _, _, _, _, al9, cl9, nl9, vo9, q9, rfl, HS.out.later hb, fun h => (E0.out ((putL_ne (i := 0) (by decide)).symm.trans h)).later hb, fun _ => rfl, fun h => (by first | exact F1.out ((putL_ne (i := 0) (by decide)).symm.trans h) | rfl), fun h => (by first | exact F2.out ((putL_ne (i := 0) (by decide)).symm.trans h) | rfl), fun h => (fun q => q.imp fun _ k => ⟨k.1, k.2.later hb⟩) (F3.out ((putL_ne (i := 0) (by decide)).symm.trans h)), fun h => absurd (hcl 4 ((putL_ne (i := 0) (by decide)).symm.trans h) 0 (by decide)) (by rw [hLi]; decide), fun h => absurd (hcl 5 ((putL_ne (i := 0) (by decide)).symm.trans h) 0 (by decide)) (by rw [hLi]; decide), fun h => absurd (hcl 6 ((putL_ne (i := 0) (by decide)).symm.trans h) 0 (by decide)) (by rw [hLi]; decide), fun h => absurd (hcl 7 ((putL_ne (i := 0) (by decide)).symm.trans h) 0 (by decide)) (by rw [hLi]; decide), fun h => absurd (hcl 8 ((putL_ne (i := 0) (by decide)).symm.trans h) 0 (by decide)) (by rw [hLi]; decide), fun h => absurd (hcl 9 ((putL_ne (i := 0) (by decide)).symm.trans h) 0 (by decide)) (by rw [hLi]; decide)⟩
      · refine wpOp_doG 1 (by rfl) (by rfl) ?_
        go_wp2_with fail
        refine (num_any 1 wx).mono ?_
        rintro e wn ⟨rfl, hb⟩
        show I (putL L 1) _ _
        exact (HI.out (putL L 1) _ _).2 ⟨_, _, _, _, _, _, _, _, _, al9, cl9, nl9, vo9, q9, rfl, HS.out.later hb, fun h => (E0.out ((putL_ne (i := 1) (by decide)).symm.trans h)).later hb, fun h => (by first | exact F0.out ((putL_ne (i := 1) (by decide)).symm.trans h) | rfl), fun _ => rfl, fun h => (by first | exact F2.out ((putL_ne (i := 1) (by decide)).symm.trans h) | rfl), fun h => (fun q => q.imp fun _ k => ⟨k.1, k.2.later hb⟩) (F3.out ((putL_ne (i := 1) (by decide)).symm.trans h)), fun h => absurd (hcl 4 ((putL_ne (i := 1) (by decide)).symm.trans h) 1 (by decide)) (by rw [hLi]; decide), fun h => absurd (hcl 5 ((putL_ne (i := 1) (by decide)).symm.trans h) 1 (by decide)) (by rw [hLi]; decide), fun h => absurd (hcl 6 ((putL_ne (i := 1) (by decide)).symm.trans h) 1 (by decide)) (by rw [hLi]; decide), fun h => absurd (hcl 7 ((putL_ne (i := 1) (by decide)).symm.trans h) 1 (by decide)) (by rw [hLi]; decide), fun h => absurd (hcl 8 ((putL_ne (i := 1) (by decide)).symm.trans h) 1 (by decide)) (by rw [hLi]; decide), fun h => absurd (hcl 9 ((putL_ne (i := 1) (by decide)).symm.trans h) 1 (by decide)) (by rw [hLi]; decide)⟩
      · refine wpOp_doG 2 (by rfl) (by rfl) ?_
        go_wp2_with fail
        refine (num_any 2 wx).mono ?_
        rintro e wn ⟨rfl, hb⟩
        show I (putL L 2) _ _
        exact (HI.out (putL L 2) _ _).2 ⟨_, _, _, _, _, _, _, _, _, al9, cl9, nl9, vo9, q9, rfl, HS.out.later hb, fun h => (E0.out ((putL_ne (i := 2) (by decide)).symm.trans h)).later hb, fun h => (by first | exact F0.out ((putL_ne (i := 2) (by decide)).symm.trans h) | rfl), fun h => (by first | exact F1.out ((putL_ne (i := 2) (by decide)).symm.trans h) | rfl), fun _ => rfl, fun h => absurd (hcl 3 ((putL_ne (i := 2) (by decide)).symm.trans h) 2 (by decide)) (by rw [hLi]; decide), fun h => absurd (hcl 4 ((putL_ne (i := 2) (by decide)).symm.trans h) 2 (by decide)) (by rw [hLi]; decide), fun h => absurd (hcl 5 ((putL_ne (i := 2) (by decide)).symm.trans h) 2 (by decide)) (by rw [hLi]; decide), fun h => absurd (hcl 6 ((putL_ne (i := 2) (by decide)).symm.trans h) 2 (by decide)) (by rw [hLi]; decide), fun h => absurd (hcl 7 ((putL_ne (i := 2) (by decide)).symm.trans h) 2 (by decide)) (by rw [hLi]; decide), fun h => absurd (hcl 8 ((putL_ne (i := 2) (by decide)).symm.trans h) 2 (by decide)) (by rw [hLi]; decide), fun h => absurd (hcl 9 ((putL_ne (i := 2) (by decide)).symm.trans h) 2 (by decide)) (by rw [hLi]; decide)⟩
      · have f2 := F2.out (hanc 2 (by decide))
        have f := f2
        subst f
        refine wpOp_doG 3 (by rfl) (by rfl) ?_
        go_wp2_with fail
        have HV9 := own_one wx w.heap.size HS.out.size (vN 2)
        have hb := below_box wx (.cells (encV (vN 2)).toArray 25)
        change OwnV (wx.alloc (.cells #[.int .i64 1, .int .i64 2, .string noB] 25)) _ _ _ at HV9
        change Below _ wx (wx.alloc (.cells #[.int .i64 1, .int .i64 2, .string noB] 25)) at hb
        show I (putL L 3) _ _
        exact (HI.out (putL L 3) _ _).2 ⟨_, _, _, _, _, _, _, _, _, al9, cl9, nl9, vo9, q9, rfl, HS.out.later hb, fun h => (E0.out ((putL_ne (i := 3) (by decide)).symm.trans h)).later hb, fun h => (by first | exact F0.out ((putL_ne (i := 3) (by decide)).symm.trans h) | rfl), fun h => (by first | exact F1.out ((putL_ne (i := 3) (by decide)).symm.trans h) | rfl), fun h => (by first | exact F2.out ((putL_ne (i := 3) (by decide)).symm.trans h) | rfl), fun _ => ⟨_, rfl, HV9⟩, fun h => absurd (hcl 4 ((putL_ne (i := 3) (by decide)).symm.trans h) 3 (by decide)) (by rw [hLi]; decide), fun h => absurd (hcl 5 ((putL_ne (i := 3) (by decide)).symm.trans h) 3 (by decide)) (by rw [hLi]; decide), fun h => absurd (hcl 6 ((putL_ne (i := 3) (by decide)).symm.trans h) 3 (by decide)) (by rw [hLi]; decide), fun h => absurd (hcl 7 ((putL_ne (i := 3) (by decide)).symm.trans h) 3 (by decide)) (by rw [hLi]; decide), fun h => absurd (hcl 8 ((putL_ne (i := 3) (by decide)).symm.trans h) 3 (by decide)) (by rw [hLi]; decide), fun h => absurd (hcl 9 ((putL_ne (i := 3) (by decide)).symm.trans h) 3 (by decide)) (by rw [hLi]; decide)⟩
      · have f0 := F0.out (hanc 0 (by decide))
        have f1 := F1.out (hanc 1 (by decide))
        have f2 := F2.out (hanc 2 (by decide))
        have f3 := F3.out (hanc 3 (by decide))
        have hun : L 9 = false := by
          cases h : L 9
          · rfl
          · exact absurd (hcl 9 h 4 (by decide)) (by rw [hLi]; decide)
        have hz := E0.out hun
        have g0 := f0
        have g1 := f1
        subst g0 g1
        obtain ⟨q8, g3, hv8⟩ := f3
        subst g3
        refine wpOp_doG 4 (by rfl) (by rfl) ?_
        go_wp2_with fail
        refine (HK.out.yes m w.heap.size (vN 1) va1 [vN 1] 9 (.slice (some ⟨q8, 0, none⟩) 1 1) [(vN 2)] wx HM.out HS.out.size (HT.out.later HS.out) hz.l (by simp) hv8.vsl (sz1 _ (Nat.zero_le _)) (Nat.zero_le _) (may_push HM.out nV2)).mono ?_
        rintro e wn ⟨vo, vl9, rfl, ho9, hl9, -, hb⟩
        have ho9 := ho9.base HS.out.size
        rw [kn2] at hl9
        rw [ou_push] at ho9
        obtain ⟨al8, cl8, hf9⟩ := hl9.form
        obtain ⟨nl8, hn9⟩ : ∃ nl8, ([vN 1, vN 2]).length = nl8 := ⟨_, rfl⟩
        rw [hn9] at hf9
        subst hf9
        clear hn9
        show I (putL L 4) _ _
        exact (HI.out (putL L 4) _ _).2 ⟨_, _, _, _, _, _, _, _, _, al8, cl8, nl8, vo, q9, rfl, HS.out.later hb, fun h => (E0.out ((putL_ne (i := 4) (by decide)).symm.trans h)).later hb, fun h => (by first | exact F0.out ((putL_ne (i := 4) (by decide)).symm.trans h) | rfl), fun h => (by first | exact F1.out ((putL_ne (i := 4) (by decide)).symm.trans h) | rfl), fun h => (by first | exact F2.out ((putL_ne (i := 4) (by decide)).symm.trans h) | rfl), fun h => (fun q => q.imp fun _ k => ⟨k.1, k.2.later hb⟩) (F3.out ((putL_ne (i := 4) (by decide)).symm.trans h)), fun _ => ⟨rfl, ho9, hl9⟩, fun h => absurd (hcl 5 ((putL_ne (i := 4) (by decide)).symm.trans h) 4 (by decide)) (by rw [hLi]; decide), fun h => absurd (hcl 6 ((putL_ne (i := 4) (by decide)).symm.trans h) 4 (by decide)) (by rw [hLi]; decide), fun h => absurd (hcl 7 ((putL_ne (i := 4) (by decide)).symm.trans h) 4 (by decide)) (by rw [hLi]; decide), fun h => absurd (hcl 8 ((putL_ne (i := 4) (by decide)).symm.trans h) 4 (by decide)) (by rw [hLi]; decide), fun h => absurd (hcl 9 ((putL_ne (i := 4) (by decide)).symm.trans h) 4 (by decide)) (by rw [hLi]; decide)⟩
      · have f0 := F0.out (hanc 0 (by decide))
        have f1 := F1.out (hanc 1 (by decide))
        have f2 := F2.out (hanc 2 (by decide))
        have f3 := F3.out (hanc 3 (by decide))
        have f4 := F4.out (hanc 4 (by decide))
        have f := f4.1
        subst f
        refine YieldsIf.wpOp (S := fun _ => True) (v := .tuple #[.agg (stC m noV (.slice al9 nl9 cl9)).toArray, vo9, .bool true]) (by rfl) (.inl ⟨rfl, fun w _ => rfl⟩) trivial ?_
        simp only [Act.put, List.setIfInBounds_toArray, List.set_cons_zero, List.set_cons_succ]
        have hb : Below wx.heap.size wx wx := Below.refl _ _
        show I (putL L 5) _ _
        exact (HI.out (putL L 5) _ _).2 ⟨_, _, _, _, _, _, _, _, _, al9, cl9, nl9, vo9, q9, rfl, HS.out.later hb, fun h => (E0.out ((putL_ne (i := 5) (by decide)).symm.trans h)).later hb, fun h => (by first | exact F0.out ((putL_ne (i := 5) (by decide)).symm.trans h) | rfl), fun h => (by first | exact F1.out ((putL_ne (i := 5) (by decide)).symm.trans h) | rfl), fun h => (by first | exact F2.out ((putL_ne (i := 5) (by decide)).symm.trans h) | rfl), fun h => (fun q => q.imp fun _ k => ⟨k.1, k.2.later hb⟩) (F3.out ((putL_ne (i := 5) (by decide)).symm.trans h)), fun h => (fun q => ⟨q.1, q.2.1.later hb, q.2.2.later hb⟩) (F4.out ((putL_ne (i := 5) (by decide)).symm.trans h)), fun _ => rfl, fun h => absurd (hcl 6 ((putL_ne (i := 5) (by decide)).symm.trans h) 5 (by decide)) (by rw [hLi]; decide), fun h => absurd (hcl 7 ((putL_ne (i := 5) (by decide)).symm.trans h) 5 (by decide)) (by rw [hLi]; decide), fun h => absurd (hcl 8 ((putL_ne (i := 5) (by decide)).symm.trans h) 5 (by decide)) (by rw [hLi]; decide), fun h => absurd (hcl 9 ((putL_ne (i := 5) (by decide)).symm.trans h) 5 (by decide)) (by rw [hLi]; decide)⟩
      · have f0 := F0.out (hanc 0 (by decide))
        have f1 := F1.out (hanc 1 (by decide))
        have f2 := F2.out (hanc 2 (by decide))
        have f3 := F3.out (hanc 3 (by decide))
        have f4 := F4.out (hanc 4 (by decide))
        have f5 := F5.out (hanc 5 (by decide))
        have f := f5
        subst f
        refine YieldsIf.wpOp (S := fun _ => True) (v := .agg (stC m noV (.slice al9 nl9 cl9)).toArray) (by rfl) (.inl ⟨rfl, fun w _ => by go_simp⟩) trivial ?_
        simp only [Act.put, List.setIfInBounds_toArray, List.set_cons_zero, List.set_cons_succ]
        have hb : Below wx.heap.size wx wx := Below.refl _ _
        show I (putL L 6) _ _
        exact (HI.out (putL L 6) _ _).2 ⟨_, _, _, _, _, _, _, _, _, al9, cl9, nl9, vo9, q9, rfl, HS.out.later hb, fun h => (E0.out ((putL_ne (i := 6) (by decide)).symm.trans h)).later hb, fun h => (by first | exact F0.out ((putL_ne (i := 6) (by decide)).symm.trans h) | rfl), fun h => (by first | exact F1.out ((putL_ne (i := 6) (by decide)).symm.trans h) | rfl), fun h => (by first | exact F2.out ((putL_ne (i := 6) (by decide)).symm.trans h) | rfl), fun h => (fun q => q.imp fun _ k => ⟨k.1, k.2.later hb⟩) (F3.out ((putL_ne (i := 6) (by decide)).symm.trans h)), fun h => (fun q => ⟨q.1, q.2.1.later hb, q.2.2.later hb⟩) (F4.out ((putL_ne (i := 6) (by decide)).symm.trans h)), fun h => (by first | exact F5.out ((putL_ne (i := 6) (by decide)).symm.trans h) | rfl), fun _ => rfl, fun h => (by first | exact F7.out ((putL_ne (i := 6) (by decide)).symm.trans h) | rfl), fun h => (by first | exact F8.out ((putL_ne (i := 6) (by decide)).symm.trans h) | rfl), fun h => absurd (hcl 9 ((putL_ne (i := 6) (by decide)).symm.trans h) 6 (by decide)) (by rw [hLi]; decide)⟩
      · have f0 := F0.out (hanc 0 (by decide))
        have f1 := F1.out (hanc 1 (by decide))
        have f2 := F2.out (hanc 2 (by decide))
        have f3 := F3.out (hanc 3 (by decide))
        have f4 := F4.out (hanc 4 (by decide))
        have f5 := F5.out (hanc 5 (by decide))
        have f := f5
        subst f
        refine YieldsIf.wpOp (S := fun _ => True) (v := vo9) (by rfl) (.inl ⟨rfl, fun w _ => by go_simp⟩) trivial ?_
        simp only [Act.put, List.setIfInBounds_toArray, List.set_cons_zero, List.set_cons_succ]
        have hb : Below wx.heap.size wx wx := Below.refl _ _
        show I (putL L 7) _ _
        exact (HI.out (putL L 7) _ _).2 ⟨_, _, _, _, _, _, _, _, _, al9, cl9, nl9, vo9, q9, rfl, HS.out.later hb, fun h => (E0.out ((putL_ne (i := 7) (by decide)).symm.trans h)).later hb, fun h => (by first | exact F0.out ((putL_ne (i := 7) (by decide)).symm.trans h) | rfl), fun h => (by first | exact F1.out ((putL_ne (i := 7) (by decide)).symm.trans h) | rfl), fun h => (by first | exact F2.out ((putL_ne (i := 7) (by decide)).symm.trans h) | rfl), fun h => (fun q => q.imp fun _ k => ⟨k.1, k.2.later hb⟩) (F3.out ((putL_ne (i := 7) (by decide)).symm.trans h)), fun h => (fun q => ⟨q.1, q.2.1.later hb, q.2.2.later hb⟩) (F4.out ((putL_ne (i := 7) (by decide)).symm.trans h)), fun h => (by first | exact F5.out ((putL_ne (i := 7) (by decide)).symm.trans h) | rfl), fun h => (by first | exact F6.out ((putL_ne (i := 7) (by decide)).symm.trans h) | rfl), fun _ => rfl, fun h => (by first | exact F8.out ((putL_ne (i := 7) (by decide)).symm.trans h) | rfl), fun h => (fun q => q.later hb) (F9.out ((putL_ne (i := 7) (by decide)).symm.trans h))⟩
      · have f0 := F0.out (hanc 0 (by decide))
        have f1 := F1.out (hanc 1 (by decide))
        have f2 := F2.out (hanc 2 (by decide))
        have f3 := F3.out (hanc 3 (by decide))
        have f4 := F4.out (hanc 4 (by decide))
        have f5 := F5.out (hanc 5 (by decide))
        have f := f5
        subst f
        refine YieldsIf.wpOp (S := fun _ => True) (v := .bool true) (by rfl) (.inl ⟨rfl, fun w _ => by go_simp⟩) trivial ?_
        simp only [Act.put, List.setIfInBounds_toArray, List.set_cons_zero, List.set_cons_succ]
        have hb : Below wx.heap.size wx wx := Below.refl _ _
        show I (putL L 8) _ _
        exact (HI.out (putL L 8) _ _).2 ⟨_, _, _, _, _, _, _, _, _, al9, cl9, nl9, vo9, q9, rfl, HS.out.later hb, fun h => (E0.out ((putL_ne (i := 8) (by decide)).symm.trans h)).later hb, fun h => (by first | exact F0.out ((putL_ne (i := 8) (by decide)).symm.trans h) | rfl), fun h => (by first | exact F1.out ((putL_ne (i := 8) (by decide)).symm.trans h) | rfl), fun h => (by first | exact F2.out ((putL_ne (i := 8) (by decide)).symm.trans h) | rfl), fun h => (fun q => q.imp fun _ k => ⟨k.1, k.2.later hb⟩) (F3.out ((putL_ne (i := 8) (by decide)).symm.trans h)), fun h => (fun q => ⟨q.1, q.2.1.later hb, q.2.2.later hb⟩) (F4.out ((putL_ne (i := 8) (by decide)).symm.trans h)), fun h => (by first | exact F5.out ((putL_ne (i := 8) (by decide)).symm.trans h) | rfl), fun h => (by first | exact F6.out ((putL_ne (i := 8) (by decide)).symm.trans h) | rfl), fun h => (by first | exact F7.out ((putL_ne (i := 8) (by decide)).symm.trans h) | rfl), fun _ => rfl, fun h => (fun q => q.later hb) (F9.out ((putL_ne (i := 8) (by decide)).symm.trans h))⟩
      · have f0 := F0.out (hanc 0 (by decide))
        have f1 := F1.out (hanc 1 (by decide))
        have f2 := F2.out (hanc 2 (by decide))
        have f3 := F3.out (hanc 3 (by decide))
        have f4 := F4.out (hanc 4 (by decide))
        have f5 := F5.out (hanc 5 (by decide))
        have f6 := F6.out (hanc 6 (by decide))
        have hun : L 9 = false := hLi
        have hz := E0.out hun
        have f := f6
        subst f
        refine wpOp_doG 9 (by rfl) (by rfl) ?_
        refine wpo_storeB 28 (.tmp 3) (.tmp 28) s 0 (stC m noV (.slice al9 nl9 cl9)) (stC m noV va1) 28 infoSt (show 0 + 6 ≤ 6 by decide) (stC_one _ _ rfl) rfl rfl rfl hz.s ?_
        intro wn BP ho
        replace BP : Blk wn s (stC m noV (.slice al9 nl9 cl9)) 28 := BP
        have BS := hz.s
        simp only [Act.put, List.setIfInBounds_toArray, List.set_cons_zero, List.set_cons_succ]
        show I (putL L 9) _ _
        exact (HI.out (putL L 9) _ _).2 ⟨_, _, _, _, _, _, _, _, _, al9, cl9, nl9, vo9, q9, rfl, below_oth HS.out ho hz.z hz.z HS.out.size, fun h => (by rw [putL_self] at h; cases h), fun h => (by first | exact F0.out ((putL_ne (i := 9) (by decide)).symm.trans h) | rfl), fun h => (by first | exact F1.out ((putL_ne (i := 9) (by decide)).symm.trans h) | rfl), fun h => (by first | exact F2.out ((putL_ne (i := 9) (by decide)).symm.trans h) | rfl), fun h => (fun q => q.imp fun _ k => ⟨k.1, k.2.oth ho BS (by decide)⟩) (F3.out ((putL_ne (i := 9) (by decide)).symm.trans h)), fun h => (fun q => ⟨q.1, q.2.1.oth ho BS (by decide), q.2.2.oth ho BS (by decide)⟩) (F4.out ((putL_ne (i := 9) (by decide)).symm.trans h)), fun h => (by first | exact F5.out ((putL_ne (i := 9) (by decide)).symm.trans h) | rfl), fun h => (by first | exact F6.out ((putL_ne (i := 9) (by decide)).symm.trans h) | rfl), fun h => (by first | exact F7.out ((putL_ne (i := 9) (by decide)).symm.trans h) | rfl), fun h => (by first | exact F8.out ((putL_ne (i := 9) (by decide)).symm.trans h) | rfl), fun _ => ⟨BP, f4.2.2.oth ho BS (by decide), hz.z⟩⟩
    · intro L act wx hall hIa
      obtain ⟨t23, t24, t25, t26, t27, t22, t28, t29, t30, al9, cl9, nl9, vo9, q9, rfl, HS, E0, F0, F1, F2, F3, F4, F5, F6, F7, F8, F9⟩ := (HI.out _ _ _).1 hIa
      have f0 := F0.out (hall 0 (by decide))
      have f1 := F1.out (hall 1 (by decide))
      have f2 := F2.out (hall 2 (by decide))
      have f3 := F3.out (hall 3 (by decide))
      have f4 := F4.out (hall 4 (by decide))
      have f5 := F5.out (hall 5 (by decide))
      have f6 := F6.out (hall 6 (by decide))
      have f7 := F7.out (hall 7 (by decide))
      have f8 := F8.out (hall 8 (by decide))
      have f9 := F9.out (hall 9 (by decide))
      clear hIa HI F0 F1 F2 F3 F4 F5 F6 F7 F8 F9
      show K9 _ _
      apply hK9
      clear hK9
      obtain ⟨va2, hva1⟩ : ∃ v, Value.slice al9 nl9 cl9 = v := ⟨_, rfl⟩
      have fz := f9
      rw [hva1] at fz
      have HP2 : Hid (Below w.heap.size w wx ∧ Hq m w wx s va2 [vN 1, vN 2]) := ⟨HS.out, fz⟩
      generalize wx = w5 at HP2 ⊢
      clear fz hva1 HS E0 f0 f1 f2 f3 f4 f5 f6 f7 f8 f9
      go_wp2_with fail
      rename_i K9 hK9
      have HZ9 : Hid (s < w5.heap.size) := HP2.out.2.s.lt
      obtain ⟨I, hI⟩ : ∃ I : (Nat → Bool) → Act → World → Prop, ∀ L act wx, I L act wx ↔ (fun (L : Nat → Bool) (act : Act) (wx : World) => ∃ (t32 : Value) (t33 : Value) (t34 : Value) (t31 : Value) (t35 : Value) (t36 : Value) (t37 : Value) (t5 : Value) (t6 : Value) (t7 : Value) (al9 : Option Addr) (cl9 : Nat) (nl9 : Nat) (vo9 : Value) (q9 : Nat), act = ⟨#[Value.int .i64 m, undef, Value.slice none 0 0, Value.pointer (some ⟨s, 0, none⟩), Value.bool true, t5, t6, t7, Value.tuple #[Value.agg #[Value.int .i64 m, Value.int .i64 0, Value.int .i64 0, Value.string noB, Value.int .i64 0, nilS], Value.bool true], Value.int .i64 m, Value.tuple #[Value.agg #[Value.int .i64 m, Value.int .i64 0, Value.int .i64 0, Value.string noB, Value.int .i64 0, nilS], Value.bool true], Value.agg #[Value.int .i64 m, Value.int .i64 0, Value.int .i64 0, Value.string noB, Value.int .i64 0, nilS], Value.bool true, t13, t14, t15, t16, t17, t18, t19, t20, t21, t22, t23, t24, t25, t26, t27, t28, t29, t30, t31, t32, t33, t34, t35, t36, t37, undef], []⟩ ∧ Hid (StW w wx) ∧ Hid (Hq m w wx s va2 [vN 1, vN 2]) ∧ Hid (L 7 = true → L 8 = false → Blk wx q9 (stC 0 noV nilS) 28) ∧ Hid (Stay w5 wx) ∧ Hid (L 0 = true → t32 = .agg #[.int .i64 m, .int .i64 0, .int .i64 0, .string noB, .int .i64 0, va2]) ∧ Hid (L 1 = true → t33 = .agg #[.int .i64 1, .int .i64 1, .string noB]) ∧ Hid (L 2 = true → t34 = .tuple #[.agg (stC m noV (.slice al9 nl9 cl9)).toArray, vo9, .bool true] ∧ OwnV wx w.heap.size vo9 [topQ m [vN 1, vN 2]] ∧ HeldV wx w.heap.size (.slice al9 nl9 cl9) (popQ m [vN 1, vN 2])) ∧ Hid (L 3 = true → t31 = .tuple #[.agg (stC m noV (.slice al9 nl9 cl9)).toArray, vo9, .bool true]) ∧ Hid (L 4 = true → t35 = .agg (stC m noV (.slice al9 nl9 cl9)).toArray) ∧ Hid (L 5 = true → t36 = vo9) ∧ Hid (L 6 = true → t37 = .bool true) ∧ Hid (L 7 = true → t5 = .pointer (some ⟨q9, 0, none⟩) ∧ w.heap.size ≤ q9 ∧ w5.heap.size ≤ q9) ∧ Hid (L 8 = true → Hq m w wx q9 (.slice al9 nl9 cl9) (popQ m [vN 1, vN 2])) ∧ Hid (L 9 = true → t6 = vo9) ∧ Hid (L 10 = true → t7 = .bool true)) L act wx := ⟨_, fun _ _ _ => Iff.rfl⟩
      dsimp only at hI
      have HI : Hid (∀ L act wx, I L act wx ↔ _) := hI
      clear hI
      refine wp_region_inv mixed [[], [], [0, 1], [0, 1, 2], [0, 1, 2, 3], [0, 1, 2, 3], [0, 1, 2, 3], [], [0, 1, 2, 3, 4, 7], [0, 1, 2, 3, 4, 5, 7, 8], [0, 1, 2, 3, 4, 6, 7, 8]] (by kernel_rfl) I ?_ ?_ ?_
      · refine (HI.out _ _ _).2 ⟨_, _, _, _, _, _, _, _, _, _, none, 0, 0, undef, 0, rfl, ?_, ?_, ?_, ?_, fun h => Bool.noConfusion h, fun h => Bool.noConfusion h, fun h => Bool.noConfusion h, fun h => Bool.noConfusion h, fun h => Bool.noConfusion h, fun h => Bool.noConfusion h, fun h => Bool.noConfusion h, fun h => Bool.noConfusion h, fun h => Bool.noConfusion h, fun h => Bool.noConfusion h, fun h => Bool.noConfusion h⟩
        · exact below_next HP2.out.1 (Stay.drew _)
        · exact HP2.out.2.later (Stay.drew _)
        · exact fun h => Bool.noConfusion h
        · exact Stay.drew _
      · intro i hi L act wx hIa hLi hcl hanc
        obtain ⟨t32, t33, t34, t31, t35, t36, t37, t5, t6, t7, al9, cl9, nl9, vo9, q9, rfl, HS, E0, E1, E2, F0, F1, F2, F3, F4, F5, F6, F7, F8, F9, F10⟩ := (HI.out _ _ _).1 hIa
        clear hIa
        have hi' : i = 0 ∨ i = 1 ∨ i = 2 ∨ i = 3 ∨ i = 4 ∨ i = 5 ∨ i = 6 ∨ i = 7 ∨ i = 8 ∨ i = 9 ∨ i = 10 := by have hi : i < 11 := hi; omega
        clear hi
        rcases hi' with rfl | rfl | rfl | rfl | rfl | rfl | rfl | rfl | rfl | rfl | rfl
        · have hz := E0.out
          refine wpOp_doG 0 (by rfl) (by rfl) ?_
          refine wp_load_mid 28 (.tmp 3) rfl s 0 rfl (stC m noV va2) _ (Blk.all hz.s) Tryd.underlying28 rfl infoSt ?_
          simp only [Act.put, List.setIfInBounds_toArray, List.set_cons_zero, List.set_cons_succ]
          have hb : Below wx.heap.size wx wx := Below.refl _ _
          show I (putL L 0) _ _
          exact (HI.out (putL L 0) _ _).2 ⟨_, _, _, _, _, _, _, _, _, _, al9, cl9, nl9, vo9, q9, rfl, HS.out.later hb, E0.out.later hb, fun h h' => (E1.out ((putL_ne (i := 0) (by decide)).symm.trans h) ((putL_ne (i := 0) (by decide)).symm.trans h')).later hb, below_next E2.out hb, fun _ => rfl, fun h => (by first | exact F1.out ((putL_ne (i := 0) (by decide)).symm.trans h) | rfl), fun h => absurd (hcl 2 ((putL_ne (i := 0) (by decide)).symm.trans h) 0 (by decide)) (by rw [hLi]; decide), fun h => absurd (hcl 3 ((putL_ne (i := 0) (by decide)).symm.trans h) 0 (by decide)) (by rw [hLi]; decide), fun h => absurd (hcl 4 ((putL_ne (i := 0) (by decide)).symm.trans h) 0 (by decide)) (by rw [hLi]; decide), fun h => absurd (hcl 5 ((putL_ne (i := 0) (by decide)).symm.trans h) 0 (by decide)) (by rw [hLi]; decide), fun h => absurd (hcl 6 ((putL_ne (i := 0) (by decide)).symm.trans h) 0 (by decide)) (by rw [hLi]; decide), fun h => (by first | exact F7.out ((putL_ne (i := 0) (by decide)).symm.trans h) | rfl), fun h => absurd (hcl 8 ((putL_ne (i := 0) (by decide)).symm.trans h) 0 (by decide)) (by rw [hLi]; decide), fun h => absurd (hcl 9 ((putL_ne (i := 0) (by decide)).symm.trans h) 0 (by decide)) (by rw [hLi]; decide), fun h => absurd (hcl 10 ((putL_ne (i := 0) (by decide)).symm.trans h) 0 (by decide)) (by rw [hLi]; decide)⟩
        · refine wpOp_doG 1 (by rfl) (by rfl) ?_
          go_wp2_with fail
          refine (num_any 1 wx).mono ?_
          rintro e wn ⟨rfl, hb⟩
          show I (putL L 1) _ _
          exact (HI.out (putL L 1) _ _).2 ⟨_, _, _, _, _, _, _, _, _, _, al9, cl9, nl9, vo9, q9, rfl, HS.out.later hb, E0.out.later hb, fun h h' => (E1.out ((putL_ne (i := 1) (by decide)).symm.trans h) ((putL_ne (i := 1) (by decide)).symm.trans h')).later hb, below_next E2.out hb, fun h => (by first | exact F0.out ((putL_ne (i := 1) (by decide)).symm.trans h) | rfl), fun _ => rfl, fun h => absurd (hcl 2 ((putL_ne (i := 1) (by decide)).symm.trans h) 1 (by decide)) (by rw [hLi]; decide), fun h => absurd (hcl 3 ((putL_ne (i := 1) (by decide)).symm.trans h) 1 (by decide)) (by rw [hLi]; decide), fun h => absurd (hcl 4 ((putL_ne (i := 1) (by decide)).symm.trans h) 1 (by decide)) (by rw [hLi]; decide), fun h => absurd (hcl 5 ((putL_ne (i := 1) (by decide)).symm.trans h) 1 (by decide)) (by rw [hLi]; decide), fun h => absurd (hcl 6 ((putL_ne (i := 1) (by decide)).symm.trans h) 1 (by decide)) (by rw [hLi]; decide), fun h => (by first | exact F7.out ((putL_ne (i := 1) (by decide)).symm.trans h) | rfl), fun h => absurd (hcl 8 ((putL_ne (i := 1) (by decide)).symm.trans h) 1 (by decide)) (by rw [hLi]; decide), fun h => absurd (hcl 9 ((putL_ne (i := 1) (by decide)).symm.trans h) 1 (by decide)) (by rw [hLi]; decide), fun h => absurd (hcl 10 ((putL_ne (i := 1) (by decide)).symm.trans h) 1 (by decide)) (by rw [hLi]; decide)⟩
        · have f0 := F0.out (hanc 0 (by decide))
          have f1 := F1.out (hanc 1 (by decide))
          have hz := E0.out
          have g0 := f0
          have g1 := f1
          subst g0 g1
          refine wpOp_doG 2 (by rfl) (by rfl) ?_
          go_wp2_with fail
          refine (HK.out.yes m w.heap.size (vN 1) va2 [vN 1, vN 2] 10 (.slice none 0 0) [] wx HM.out HS.out.size (HT.out.later HS.out) hz.l (by simp) (vsl_nil0 _) sz0 (Nat.zero_le _) (may_pop HM.out)).mono ?_
          rintro e wn ⟨vo, vl9, rfl, ho9, hl9, -, hb⟩
          have ho9 := ho9.base HS.out.size
          rw [nx_pop] at hl9
          rw [ou_pop] at ho9
          obtain ⟨al8, cl8, hf9⟩ := hl9.form
          obtain ⟨nl8, hn9⟩ : ∃ nl8, ((popQ m [vN 1, vN 2])).length = nl8 := ⟨_, rfl⟩
          rw [hn9] at hf9
          subst hf9
          clear hn9
          show I (putL L 2) _ _
          exact (HI.out (putL L 2) _ _).2 ⟨_, _, _, _, _, _, _, _, _, _, al8, cl8, nl8, vo, q9, rfl, HS.out.later hb, E0.out.later hb, fun h h' => (E1.out ((putL_ne (i := 2) (by decide)).symm.trans h) ((putL_ne (i := 2) (by decide)).symm.trans h')).later hb, below_next E2.out hb, fun h => (by first | exact F0.out ((putL_ne (i := 2) (by decide)).symm.trans h) | rfl), fun h => (by first | exact F1.out ((putL_ne (i := 2) (by decide)).symm.trans h) | rfl), fun _ => ⟨rfl, ho9, hl9⟩, fun h => absurd (hcl 3 ((putL_ne (i := 2) (by decide)).symm.trans h) 2 (by decide)) (by rw [hLi]; decide), fun h => absurd (hcl 4 ((putL_ne (i := 2) (by decide)).symm.trans h) 2 (by decide)) (by rw [hLi]; decide), fun h => absurd (hcl 5 ((putL_ne (i := 2) (by decide)).symm.trans h) 2 (by decide)) (by rw [hLi]; decide), fun h => absurd (hcl 6 ((putL_ne (i := 2) (by decide)).symm.trans h) 2 (by decide)) (by rw [hLi]; decide), fun h => (by first | exact F7.out ((putL_ne (i := 2) (by decide)).symm.trans h) | rfl), fun h => absurd (hcl 8 ((putL_ne (i := 2) (by decide)).symm.trans h) 2 (by decide)) (by rw [hLi]; decide), fun h => absurd (hcl 9 ((putL_ne (i := 2) (by decide)).symm.trans h) 2 (by decide)) (by rw [hLi]; decide), fun h => absurd (hcl 10 ((putL_ne (i := 2) (by decide)).symm.trans h) 2 (by decide)) (by rw [hLi]; decide)⟩
        · have f0 := F0.out (hanc 0 (by decide))
          have f1 := F1.out (hanc 1 (by decide))
          have f2 := F2.out (hanc 2 (by decide))
          have f := f2.1
          subst f
          refine YieldsIf.wpOp (S := fun _ => True) (v := .tuple #[.agg (stC m noV (.slice al9 nl9 cl9)).toArray, vo9, .bool true]) (by rfl) (.inl ⟨rfl, fun w _ => rfl⟩) trivial ?_
          simp only [Act.put, List.setIfInBounds_toArray, List.set_cons_zero, List.set_cons_succ]
          have hb : Below wx.heap.size wx wx := Below.refl _ _
          show I (putL L 3) _ _
          exact (HI.out (putL L 3) _ _).2 ⟨_, _, _, _, _, _, _, _, _, _, al9, cl9, nl9, vo9, q9, rfl, HS.out.later hb, E0.out.later hb, fun h h' => (E1.out ((putL_ne (i := 3) (by decide)).symm.trans h) ((putL_ne (i := 3) (by decide)).symm.trans h')).later hb, below_next E2.out hb, fun h => (by first | exact F0.out ((putL_ne (i := 3) (by decide)).symm.trans h) | rfl), fun h => (by first | exact F1.out ((putL_ne (i := 3) (by decide)).symm.trans h) | rfl), fun h => (fun q => ⟨q.1, q.2.1.later hb, q.2.2.later hb⟩) (F2.out ((putL_ne (i := 3) (by decide)).symm.trans h)), fun _ => rfl, fun h => absurd (hcl 4 ((putL_ne (i := 3) (by decide)).symm.trans h) 3 (by decide)) (by rw [hLi]; decide), fun h => absurd (hcl 5 ((putL_ne (i := 3) (by decide)).symm.trans h) 3 (by decide)) (by rw [hLi]; decide), fun h => absurd (hcl 6 ((putL_ne (i := 3) (by decide)).symm.trans h) 3 (by decide)) (by rw [hLi]; decide), fun h => (by first | exact F7.out ((putL_ne (i := 3) (by decide)).symm.trans h) | rfl), fun h => absurd (hcl 8 ((putL_ne (i := 3) (by decide)).symm.trans h) 3 (by decide)) (by rw [hLi]; decide), fun h => absurd (hcl 9 ((putL_ne (i := 3) (by decide)).symm.trans h) 3 (by decide)) (by rw [hLi]; decide), fun h => absurd (hcl 10 ((putL_ne (i := 3) (by decide)).symm.trans h) 3 (by decide)) (by rw [hLi]; decide)⟩
        · have f0 := F0.out (hanc 0 (by decide))
          have f1 := F1.out (hanc 1 (by decide))
          have f2 := F2.out (hanc 2 (by decide))
          have f3 := F3.out (hanc 3 (by decide))
          have f := f3
          subst f
          refine YieldsIf.wpOp (S := fun _ => True) (v := .agg (stC m noV (.slice al9 nl9 cl9)).toArray) (by rfl) (.inl ⟨rfl, fun w _ => by go_simp⟩) trivial ?_
          simp only [Act.put, List.setIfInBounds_toArray, List.set_cons_zero, List.set_cons_succ]
          have hb : Below wx.heap.size wx wx := Below.refl _ _
          show I (putL L 4) _ _
          exact (HI.out (putL L 4) _ _).2 ⟨_, _, _, _, _, _, _, _, _, _, al9, cl9, nl9, vo9, q9, rfl, HS.out.later hb, E0.out.later hb, fun h h' => (E1.out ((putL_ne (i := 4) (by decide)).symm.trans h) ((putL_ne (i := 4) (by decide)).symm.trans h')).later hb, below_next E2.out hb, fun h => (by first | exact F0.out ((putL_ne (i := 4) (by decide)).symm.trans h) | rfl), fun h => (by first | exact F1.out ((putL_ne (i := 4) (by decide)).symm.trans h) | rfl), fun h => (fun q => ⟨q.1, q.2.1.later hb, q.2.2.later hb⟩) (F2.out ((putL_ne (i := 4) (by decide)).symm.trans h)), fun h => (by first | exact F3.out ((putL_ne (i := 4) (by decide)).symm.trans h) | rfl), fun _ => rfl, fun h => (by first | exact F5.out ((putL_ne (i := 4) (by decide)).symm.trans h) | rfl), fun h => (by first | exact F6.out ((putL_ne (i := 4) (by decide)).symm.trans h) | rfl), fun h => (by first | exact F7.out ((putL_ne (i := 4) (by decide)).symm.trans h) | rfl), fun h => absurd (hcl 8 ((putL_ne (i := 4) (by decide)).symm.trans h) 4 (by decide)) (by rw [hLi]; decide), fun h => absurd (hcl 9 ((putL_ne (i := 4) (by decide)).symm.trans h) 4 (by decide)) (by rw [hLi]; decide), fun h => absurd (hcl 10 ((putL_ne (i := 4) (by decide)).symm.trans h) 4 (by decide)) (by rw [hLi]; decide)⟩
        · have f0 := F0.out (hanc 0 (by decide))
          have f1 := F1.out (hanc 1 (by decide))
          have f2 := F2.out (hanc 2 (by decide))
          have f3 := F3.out (hanc 3 (by decide))
          have f := f3
          subst f
          refine YieldsIf.wpOp (S := fun _ => True) (v := vo9) (by rfl) (.inl ⟨rfl, fun w _ => by go_simp⟩) trivial ?_
          simp only [Act.put, List.setIfInBounds_toArray, List.set_cons_zero, List.set_cons_succ]
          have hb : Below wx.heap.size wx wx := Below.refl _ _
          show I (putL L 5) _ _
          exact (HI.out (putL L 5) _ _).2 ⟨_, _, _, _, _, _, _, _, _, _, al9, cl9, nl9, vo9, q9, rfl, HS.out.later hb, E0.out.later hb, fun h h' => (E1.out ((putL_ne (i := 5) (by decide)).symm.trans h) ((putL_ne (i := 5) (by decide)).symm.trans h')).later hb, below_next E2.out hb, fun h => (by first | exact F0.out ((putL_ne (i := 5) (by decide)).symm.trans h) | rfl), fun h => (by first | exact F1.out ((putL_ne (i := 5) (by decide)).symm.trans h) | rfl), fun h => (fun q => ⟨q.1, q.2.1.later hb, q.2.2.later hb⟩) (F2.out ((putL_ne (i := 5) (by decide)).symm.trans h)), fun h => (by first | exact F3.out ((putL_ne (i := 5) (by decide)).symm.trans h) | rfl), fun h => (by first | exact F4.out ((putL_ne (i := 5) (by decide)).symm.trans h) | rfl), fun _ => rfl, fun h => (by first | exact F6.out ((putL_ne (i := 5) (by decide)).symm.trans h) | rfl), fun h => (by first | exact F7.out ((putL_ne (i := 5) (by decide)).symm.trans h) | rfl), fun h => (fun q => q.later hb) (F8.out ((putL_ne (i := 5) (by decide)).symm.trans h)), fun h => absurd (hcl 9 ((putL_ne (i := 5) (by decide)).symm.trans h) 5 (by decide)) (by rw [hLi]; decide), fun h => (by first | exact F10.out ((putL_ne (i := 5) (by decide)).symm.trans h) | rfl)⟩
        · have f0 := F0.out (hanc 0 (by decide))
          have f1 := F1.out (hanc 1 (by decide))
          have f2 := F2.out (hanc 2 (by decide))
          have f3 := F3.out (hanc 3 (by decide))
          have f := f3
          subst f
          refine YieldsIf.wpOp (S := fun _ => True) (v := .bool true) (by rfl) (.inl ⟨rfl, fun w _ => by go_simp⟩) trivial ?_
          simp only [Act.put, List.setIfInBounds_toArray, List.set_cons_zero, List.set_cons_succ]
          have hb : Below wx.heap.size wx wx := Below.refl _ _
          show I (putL L 6) _ _
          exact (HI.out (putL L 6) _ _).2 ⟨_, _, _, _, _, _, _, _, _, _, al9, cl9, nl9, vo9, q9, rfl, HS.out.later hb, E0.out.later hb, fun h h' => (E1.out ((putL_ne (i := 6) (by decide)).symm.trans h) ((putL_ne (i := 6) (by decide)).symm.trans h')).later hb, below_next E2.out hb, fun h => (by first | exact F0.out ((putL_ne (i := 6) (by decide)).symm.trans h) | rfl), fun h => (by first | exact F1.out ((putL_ne (i := 6) (by decide)).symm.trans h) | rfl), fun h => (fun q => ⟨q.1, q.2.1.later hb, q.2.2.later hb⟩) (F2.out ((putL_ne (i := 6) (by decide)).symm.trans h)), fun h => (by first | exact F3.out ((putL_ne (i := 6) (by decide)).symm.trans h) | rfl), fun h => (by first | exact F4.out ((putL_ne (i := 6) (by decide)).symm.trans h) | rfl), fun h => (by first | exact F5.out ((putL_ne (i := 6) (by decide)).symm.trans h) | rfl), fun _ => rfl, fun h => (by first | exact F7.out ((putL_ne (i := 6) (by decide)).symm.trans h) | rfl), fun h => (fun q => q.later hb) (F8.out ((putL_ne (i := 6) (by decide)).symm.trans h)), fun h => (by first | exact F9.out ((putL_ne (i := 6) (by decide)).symm.trans h) | rfl), fun h => absurd (hcl 10 ((putL_ne (i := 6) (by decide)).symm.trans h) 6 (by decide)) (by rw [hLi]; decide)⟩
        · refine wpOp_doG 7 (by rfl) (by rfl) ?_
          go_wp2_with fail
          have BO := Blk.new wx (stC 0 noV nilS) 28
          have hb := below_box wx (.cells (stC 0 noV nilS).toArray 28)
          change Blk (wx.alloc (.cells #[.int .i64 0, .int .i64 0, .int .i64 0, .string ⟨#[]⟩, .int .i64 0, .slice none 0 0] 28)) _ _ _ at BO
          change Below _ wx (wx.alloc (.cells #[.int .i64 0, .int .i64 0, .int .i64 0, .string ⟨#[]⟩, .int .i64 0, .slice none 0 0] 28)) at hb
          show I (putL L 7) _ _
          exact (HI.out (putL L 7) _ _).2 ⟨_, _, _, _, _, _, _, _, _, _, al9, cl9, nl9, vo9, wx.heap.size, rfl, HS.out.later hb, E0.out.later hb, fun _ _ => BO, below_next E2.out hb, fun h => (by first | exact F0.out ((putL_ne (i := 7) (by decide)).symm.trans h) | rfl), fun h => (by first | exact F1.out ((putL_ne (i := 7) (by decide)).symm.trans h) | rfl), fun h => (fun q => ⟨q.1, q.2.1.later hb, q.2.2.later hb⟩) (F2.out ((putL_ne (i := 7) (by decide)).symm.trans h)), fun h => (by first | exact F3.out ((putL_ne (i := 7) (by decide)).symm.trans h) | rfl), fun h => (by first | exact F4.out ((putL_ne (i := 7) (by decide)).symm.trans h) | rfl), fun h => (by first | exact F5.out ((putL_ne (i := 7) (by decide)).symm.trans h) | rfl), fun h => (by first | exact F6.out ((putL_ne (i := 7) (by decide)).symm.trans h) | rfl), fun _ => ⟨rfl, HS.out.size, E2.out.size⟩, fun h => absurd (hcl 8 ((putL_ne (i := 7) (by decide)).symm.trans h) 7 (by decide)) (by rw [hLi]; decide), fun h => absurd (hcl 9 ((putL_ne (i := 7) (by decide)).symm.trans h) 7 (by decide)) (by rw [hLi]; decide), fun h => absurd (hcl 10 ((putL_ne (i := 7) (by decide)).symm.trans h) 7 (by decide)) (by rw [hLi]; decide)⟩
        · have f0 := F0.out (hanc 0 (by decide))
          have f1 := F1.out (hanc 1 (by decide))
          have f2 := F2.out (hanc 2 (by decide))
          have f3 := F3.out (hanc 3 (by decide))
          have f4 := F4.out (hanc 4 (by decide))
          have f7 := F7.out (hanc 7 (by decide))
          have BS := E1.out (hanc 7 (by decide)) hLi
          have f := f4
          subst f
          obtain ⟨fa, hq9⟩ := f7
          subst fa
          refine wpOp_doG 8 (by rfl) (by rfl) ?_
          refine wpo_storeB 28 (.tmp 5) (.tmp 35) q9 0 (stC m noV (.slice al9 nl9 cl9)) (stC 0 noV nilS) 28 infoSt (show 0 + 6 ≤ 6 by decide) (stC_one _ _ rfl) rfl rfl rfl BS ?_
          intro wn BP ho
          replace BP : Blk wn q9 (stC m noV (.slice al9 nl9 cl9)) 28 := BP
          simp only [Act.put, List.setIfInBounds_toArray, List.set_cons_zero, List.set_cons_succ]
          show I (putL L 8) _ _
          exact (HI.out (putL L 8) _ _).2 ⟨_, _, _, _, _, _, _, _, _, _, al9, cl9, nl9, vo9, q9, rfl, below_oth HS.out ho hq9.1 hq9.1 HS.out.size, E0.out.oth ho BS (by have := HZ9.out; have := hq9.2; omega), fun _ h => (by rw [putL_self] at h; cases h), below_oth E2.out ho hq9.2 hq9.2 E2.out.size, fun h => (by first | exact F0.out ((putL_ne (i := 8) (by decide)).symm.trans h) | rfl), fun h => (by first | exact F1.out ((putL_ne (i := 8) (by decide)).symm.trans h) | rfl), fun h => (fun q => ⟨q.1, q.2.1.oth ho BS (by decide), q.2.2.oth ho BS (by decide)⟩) (F2.out ((putL_ne (i := 8) (by decide)).symm.trans h)), fun h => (by first | exact F3.out ((putL_ne (i := 8) (by decide)).symm.trans h) | rfl), fun h => (by first | exact F4.out ((putL_ne (i := 8) (by decide)).symm.trans h) | rfl), fun h => (by first | exact F5.out ((putL_ne (i := 8) (by decide)).symm.trans h) | rfl), fun h => (by first | exact F6.out ((putL_ne (i := 8) (by decide)).symm.trans h) | rfl), fun h => (by first | exact F7.out ((putL_ne (i := 8) (by decide)).symm.trans h) | rfl), fun _ => ⟨BP, f2.2.2.oth ho BS (by decide), hq9.1⟩, fun h => absurd (hcl 9 ((putL_ne (i := 8) (by decide)).symm.trans h) 8 (by decide)) (by rw [hLi]; decide), fun h => absurd (hcl 10 ((putL_ne (i := 8) (by decide)).symm.trans h) 8 (by decide)) (by rw [hLi]; decide)⟩
        · have f0 := F0.out (hanc 0 (by decide))
          have f1 := F1.out (hanc 1 (by decide))
          have f2 := F2.out (hanc 2 (by decide))
          have f3 := F3.out (hanc 3 (by decide))
          have f4 := F4.out (hanc 4 (by decide))
          have f5 := F5.out (hanc 5 (by decide))
          have f7 := F7.out (hanc 7 (by decide))
          have f8 := F8.out (hanc 8 (by decide))
          refine YieldsIf.wpOp (S := fun _ => True) (v := t36) (by rfl) (.inl ⟨rfl, fun w _ => rfl⟩) trivial ?_
          simp only [Act.put, List.setIfInBounds_toArray, List.set_cons_zero, List.set_cons_succ]
          have hb : Below wx.heap.size wx wx := Below.refl _ _
          show I (putL L 9) _ _
          exact (HI.out (putL L 9) _ _).2 ⟨_, _, _, _, _, _, _, _, _, _, al9, cl9, nl9, vo9, q9, rfl, HS.out.later hb, E0.out.later hb, fun h h' => (E1.out ((putL_ne (i := 9) (by decide)).symm.trans h) ((putL_ne (i := 9) (by decide)).symm.trans h')).later hb, below_next E2.out hb, fun h => (by first | exact F0.out ((putL_ne (i := 9) (by decide)).symm.trans h) | rfl), fun h => (by first | exact F1.out ((putL_ne (i := 9) (by decide)).symm.trans h) | rfl), fun h => (fun q => ⟨q.1, q.2.1.later hb, q.2.2.later hb⟩) (F2.out ((putL_ne (i := 9) (by decide)).symm.trans h)), fun h => (by first | exact F3.out ((putL_ne (i := 9) (by decide)).symm.trans h) | rfl), fun h => (by first | exact F4.out ((putL_ne (i := 9) (by decide)).symm.trans h) | rfl), fun h => (by first | exact F5.out ((putL_ne (i := 9) (by decide)).symm.trans h) | rfl), fun h => (by first | exact F6.out ((putL_ne (i := 9) (by decide)).symm.trans h) | rfl), fun h => (by first | exact F7.out ((putL_ne (i := 9) (by decide)).symm.trans h) | rfl), fun h => (fun q => q.later hb) (F8.out ((putL_ne (i := 9) (by decide)).symm.trans h)), fun _ => f5, fun h => (by first | exact F10.out ((putL_ne (i := 9) (by decide)).symm.trans h) | rfl)⟩
        · have f0 := F0.out (hanc 0 (by decide))
          have f1 := F1.out (hanc 1 (by decide))
          have f2 := F2.out (hanc 2 (by decide))
          have f3 := F3.out (hanc 3 (by decide))
          have f4 := F4.out (hanc 4 (by decide))
          have f6 := F6.out (hanc 6 (by decide))
          have f7 := F7.out (hanc 7 (by decide))
          have f8 := F8.out (hanc 8 (by decide))
          refine YieldsIf.wpOp (S := fun _ => True) (v := t37) (by rfl) (.inl ⟨rfl, fun w _ => rfl⟩) trivial ?_
          simp only [Act.put, List.setIfInBounds_toArray, List.set_cons_zero, List.set_cons_succ]
          have hb : Below wx.heap.size wx wx := Below.refl _ _
          show I (putL L 10) _ _
          exact (HI.out (putL L 10) _ _).2 ⟨_, _, _, _, _, _, _, _, _, _, al9, cl9, nl9, vo9, q9, rfl, HS.out.later hb, E0.out.later hb, fun h h' => (E1.out ((putL_ne (i := 10) (by decide)).symm.trans h) ((putL_ne (i := 10) (by decide)).symm.trans h')).later hb, below_next E2.out hb, fun h => (by first | exact F0.out ((putL_ne (i := 10) (by decide)).symm.trans h) | rfl), fun h => (by first | exact F1.out ((putL_ne (i := 10) (by decide)).symm.trans h) | rfl), fun h => (fun q => ⟨q.1, q.2.1.later hb, q.2.2.later hb⟩) (F2.out ((putL_ne (i := 10) (by decide)).symm.trans h)), fun h => (by first | exact F3.out ((putL_ne (i := 10) (by decide)).symm.trans h) | rfl), fun h => (by first | exact F4.out ((putL_ne (i := 10) (by decide)).symm.trans h) | rfl), fun h => (by first | exact F5.out ((putL_ne (i := 10) (by decide)).symm.trans h) | rfl), fun h => (by first | exact F6.out ((putL_ne (i := 10) (by decide)).symm.trans h) | rfl), fun h => (by first | exact F7.out ((putL_ne (i := 10) (by decide)).symm.trans h) | rfl), fun h => (fun q => q.later hb) (F8.out ((putL_ne (i := 10) (by decide)).symm.trans h)), fun h => (by first | exact F9.out ((putL_ne (i := 10) (by decide)).symm.trans h) | rfl), fun _ => f6⟩
      · intro L act wx hall hIa
        obtain ⟨t32, t33, t34, t31, t35, t36, t37, t5, t6, t7, al9, cl9, nl9, vo9, q9, rfl, HS, E0, E1, E2, F0, F1, F2, F3, F4, F5, F6, F7, F8, F9, F10⟩ := (HI.out _ _ _).1 hIa
        have f0 := F0.out (hall 0 (by decide))
        have f1 := F1.out (hall 1 (by decide))
        have f2 := F2.out (hall 2 (by decide))
        have f3 := F3.out (hall 3 (by decide))
        have f4 := F4.out (hall 4 (by decide))
        have f5 := F5.out (hall 5 (by decide))
        have f6 := F6.out (hall 6 (by decide))
        have f7 := F7.out (hall 7 (by decide))
        have f8 := F8.out (hall 8 (by decide))
        have f9 := F9.out (hall 9 (by decide))
        have f10 := F10.out (hall 10 (by decide))
        clear hIa HI F0 F1 F2 F3 F4 F5 F6 F7 F8 F9 F10
        show K9 _ _
        apply hK9
        clear hK9
        have ho := f2.2.1
        have g6 := f9
        subst g6
        clear E0 E1 E2 f0 f1 f2 f3 f4 f5 f6 f7 f8 f9 f10
        go_wp2
        go_ret
        exact ⟨_, rfl, ho, HS.out⟩
set_option maxRecDepth 100000 in
set_option maxHeartbeats 4000000 in
theorem wakes_anyQ (K : QueueOK) (w : World) (ht : Tb w) : Calls Tryd.prog 6 #[] w fun e w' => e = .returned (.bool true) ∧ Below w.heap.size w w' := by
  have H5 : Hid (∀ w', Below w.heap.size w w' → Calls Tryd.prog 20 #[.int .i64 5] w' fun e w'' => ∃ vo, e = .returned vo ∧ OwnV w'' w'.heap.size vo [vN 1] ∧ Below w'.heap.size w' w'') := fun w' hb => two_any K 5 (by kernel_rfl) w' (ht.later hb)
  have H6 : Hid (∀ w', Below w.heap.size w w' → Calls Tryd.prog 20 #[.int .i64 6] w' fun e w'' => ∃ vo, e = .returned vo ∧ OwnV w'' w'.heap.size vo [vN 2] ∧ Below w'.heap.size w' w'') := fun w' hb => two_any K 6 (by kernel_rfl) w' (ht.later hb)
  clear ht K
  go_enter Tryd.func6, Tryd.ntmps6
  go_wp2_with fail
  refine (H5.out w (Below.refl _ _)).mono ?_
  rintro e w1 ⟨v1, rfl, ho1, hb1⟩
  have HO1 : Hid (OwnV w1 w.heap.size v1 [vN 1]) := ho1
  have HB1 : Hid (Below w.heap.size w w1) := hb1
  clear ho1 hb1
  go_wp2_with fail
  refine (num_any 1 w1).mono ?_
  rintro e w2 ⟨rfl, hb2⟩
  have bx2 := below_box w2 (.cells (encV (vN 1)).toArray 25)
  have HO3 : Hid (VSl (w2.alloc (.cells #[.int .i64 1, .int .i64 1, .string noB] 25)) v1 [vN 1]) := ((HO1.out.later hb2).later bx2).vsl
  have HV3 : Hid (VSl (w2.alloc (.cells #[.int .i64 1, .int .i64 1, .string noB] 25)) (.slice (some ⟨w2.heap.size, 0, none⟩) 1 1) [vN 1]) := (own_one w2 w2.heap.size (Nat.le_refl _) (vN 1)).vsl
  have HB3 : Hid (Below w.heap.size w (w2.alloc (.cells #[.int .i64 1, .int .i64 1, .string noB] 25))) := below_next (below_next HB1.out hb2) bx2
  clear hb2 bx2 HO1 HB1
  go_wp2_with fail
  refine (same_any v1 _ [vN 1] [vN 1] _ HO3.out HV3.out (by simp)).mono ?_
  rintro e w4 ⟨rfl, hb4⟩
  rw [sameL_self]
  have HB4 : Hid (Below w.heap.size w w4) := below_next HB3.out hb4
  clear HO3 HV3 HB3 hb4
  go_wp2_with fail
  refine (H6.out w4 HB4.out).mono ?_
  rintro e w5 ⟨v2, rfl, ho5, hb5⟩
  have HO5 : Hid (OwnV w5 w4.heap.size v2 [vN 2]) := ho5
  have HB5 : Hid (Below w.heap.size w w5) := below_next HB4.out hb5
  clear ho5 hb5 HB4
  go_wp2_with fail
  refine (num_any 2 w5).mono ?_
  rintro e w6 ⟨rfl, hb6⟩
  have bx6 := below_box w6 (.cells (encV (vN 2)).toArray 25)
  have HO7 : Hid (VSl (w6.alloc (.cells #[.int .i64 1, .int .i64 2, .string noB] 25)) v2 [vN 2]) := ((HO5.out.later hb6).later bx6).vsl
  have HV7 : Hid (VSl (w6.alloc (.cells #[.int .i64 1, .int .i64 2, .string noB] 25)) (.slice (some ⟨w6.heap.size, 0, none⟩) 1 1) [vN 2]) := (own_one w6 w6.heap.size (Nat.le_refl _) (vN 2)).vsl
  have HB7 : Hid (Below w.heap.size w (w6.alloc (.cells #[.int .i64 1, .int .i64 2, .string noB] 25))) := below_next (below_next HB5.out hb6) bx6
  clear hb6 bx6 HO5 HB5
  go_wp2_with fail
  refine (same_any v2 _ [vN 2] [vN 2] _ HO7.out HV7.out (by simp)).mono ?_
  rintro e w8 ⟨rfl, hb8⟩
  rw [sameL_self]
  go_wp2
  go_ret
  exact ⟨rfl, below_next HB7.out hb8⟩
end Go.Proofs.YthgafmhpajikdaaDoor
