/- The walk of QueueAll, on what is asked of New and Step. Conditions: the table of signs lies in memory. -/
import Derived.Test.YthgafmhpajikdaaDoorKI
import Derived.Test.YthgafmhpajikdaaDoorUK
import Derived.Deep.Cut
namespace Go.Proofs.YthgafmhpajikdaaDoor
open Go.RowKit Go.PlainAid Ln Go.Sort
set_option linter.unusedVariables false
set_option linter.unusedSimpArgs false

theorem at_range {w : World} {b o : Nat} {x : Val} (h : At w b o x) : w.rangeAt b o (encV x) := by
  intro j v hj
  match j with
  | 0 => injection hj with hj; subst hj; exact h.1
  | 1 => injection hj with hj; subst hj; exact h.2.1
  | 2 => injection hj with hj; subst hj; exact h.2.2
  | _ + 3 => cases hj
theorem take_nvQ (xs : List Val) (k : Nat) (h : k < xs.length) : xs.take k ++ [nv xs k] = xs.take (k + 1) := by
  rw [List.take_add_one, List.getElem?_eq_getElem h, nv_eq xs k h]; rfl
def L2 (w wr : World) (za zb : Nat) (La Lb : List Val) : Prop := ∃ va vb, Hq 5 w wr za va La ∧ Hq 6 w wr zb vb Lb
theorem Hq.off {m : Int} {w wr wn : World} {z p : Nat} {vl : Value} {L : List Val} (h : Hq m w wr z vl L) (ho : Oth p p wr wn) (hp : z ≠ p) (hne : vl.ownBlock ≠ some p) : Hq m w wn z vl L := ⟨h.s.oth ho hp hp, h.l.off ho hne, h.z⟩
theorem fst_drop (xs : List Val) (k : Nat) (h : k < xs.length) : topQ 5 (xs.drop k) = nv xs k := by
  have e : xs.drop k = xs[k] :: xs.drop (k + 1) := List.drop_eq_getElem_cons h
  unfold topQ
  rw [e, if_neg (List.cons_ne_nil _ _), if_neg (by decide), nv_zero]
  exact (nv_eq xs k h).symm
theorem lst_take (xs : List Val) (r : Nat) (h : r < xs.length) : topQ 6 (xs.take (r + 1)) = nv xs r := by
  have hl : (xs.take (r + 1)).length = r + 1 := by rw [List.length_take]; omega
  unfold topQ
  rw [if_neg (by intro e; rw [e] at hl; simp at hl), if_pos rfl]
  unfold lastV
  rw [hl, nv_eq _ _ (by omega), nv_eq xs r h]
  simp
theorem pop_drop (xs : List Val) (k : Nat) : popQ 5 (xs.drop k) = xs.drop (k + 1) := by unfold popQ; rw [if_neg (by decide), List.drop_drop]
theorem pop_take (xs : List Val) (r : Nat) (h : r ≤ xs.length) : popQ 6 (xs.take r) = xs.take (r - 1) := by
  unfold popQ
  rw [if_pos rfl, List.take_take, List.length_take]
  congr 1
  omega
set_option maxRecDepth 100000 in
set_option maxHeartbeats 40000000 in
theorem law_allQ (K : QueueOK) (v : Value) (xs : List Val) (w : World) (ht : Tb w) (hv : VSl w v xs) : Calls Tryd.prog 5 #[v] w fun e w' => e = .returned (.bool true) ∧ Below w.heap.size w w' := by
  have mixed : Tryd.prog.follows .mixedOrders = true := by kernel_rfl
  have HT : Hid (Tb w) := ht
  have HV : Hid (VSl w v xs) := hv
  have HW : Hid (∀ w', Below w.heap.size w w' → Calls Tryd.prog 6 #[] w' fun e w'' => e = .returned (.bool true) ∧ Below w'.heap.size w' w'') := fun w' hb => wakes_anyQ K w' (ht.later hb)
  have HK : Hid QueueOK := K
  have HM5 : Hid (ownQ 5 = true) := (by kernel_rfl : ownQ 5 = true)
  have HM6 : Hid (ownQ 6 = true) := (by kernel_rfl : ownQ 6 = true)
  clear ht hv
  have h5 := fun w => K.new 5 w
  have h6 := fun w => K.new 6 w
  rw [show ownQ 5 = true by kernel_rfl, if_pos rfl] at h5
  rw [show ownQ 6 = true by kernel_rfl, if_pos rfl] at h6
  simp only [stC, noV] at h5 h6
  clear K
  obtain ⟨a, c, rfl, hc1, hc2, _⟩ := HV.out.form
  obtain ⟨n, hn⟩ : ∃ n, xs.length = n := ⟨_, rfl⟩
  have HN : Hid (xs.length = n) := hn
  rw [hn] at hc1 HV ⊢
  clear hn
  by_cases h40 : 40 < n
  · have h40' : (40 : Int) < (n : Int) := by omega
    go_enter Tryd.func5, Tryd.ntmps5
    go_wp2_with (go_at_call 6; refine (HW.out _ (Below.refl _ _)).mono ?_; rintro e w1 ⟨rfl, hb1⟩)
    go_ret
    exact ⟨rfl, hb1⟩
  have h40' : ¬ (40 : Int) < (n : Int) := by omega
  go_enter Tryd.func5, Tryd.ntmps5
  go_wp2_with fail
  refine (HW.out _ (Below.refl _ _)).mono ?_
  rintro e w1 ⟨rfl, hb1⟩
  clear HW
  go_wp2_with fail
  refine (h5 _).mono ?_
  rintro e w2 ⟨rfl, hb2⟩
  have hb12 : Below w.heap.size w w2 := below_next hb1 hb2
  have b3 := below_box w2 (.cells (stC 5 noV nilS).toArray 28)
  have HA3 : Hid (Hq 5 w (w2.alloc (.cells #[.int .i64 5, .int .i64 0, .int .i64 0, .string noB, .int .i64 0, .slice none 0 0] 28)) w2.heap.size nilS []) := ⟨Blk.new w2 (stC 5 noV nilS) _, HeldV.nil _ _, hb12.size⟩
  have HB3 : Hid (Below w.heap.size w (w2.alloc (.cells #[.int .i64 5, .int .i64 0, .int .i64 0, .string noB, .int .i64 0, .slice none 0 0] 28))) := below_next hb12 b3
  clear hb1 hb2 hb12 b3 h5
  go_wp2_with fail
  generalize w2.alloc (.cells #[.int .i64 5, .int .i64 0, .int .i64 0, .string noB, .int .i64 0, .slice none 0 0] 28) = w3 at HA3 HB3 ⊢
  obtain ⟨za, hza⟩ : ∃ za, w2.heap.size = za := ⟨_, rfl⟩
  rw [hza] at HA3
  simp only [hza]
  clear hza
  refine (h6 _).mono ?_
  rintro e w4 ⟨rfl, hb4⟩
  have HZ : Hid (za < w4.heap.size) := (HA3.out.later hb4).s.lt
  have b5 := below_box w4 (.cells (stC 6 noV nilS).toArray 28)
  have HA5 : Hid (Hq 5 w (w4.alloc (.cells #[.int .i64 6, .int .i64 0, .int .i64 0, .string noB, .int .i64 0, .slice none 0 0] 28)) za nilS []) := (HA3.out.later hb4).later b5
  have HC5 : Hid (Hq 6 w (w4.alloc (.cells #[.int .i64 6, .int .i64 0, .int .i64 0, .string noB, .int .i64 0, .slice none 0 0] 28)) w4.heap.size nilS []) := ⟨Blk.new w4 (stC 6 noV nilS) _, HeldV.nil _ _, (below_next HB3.out hb4).size⟩
  have HB5 : Hid (Below w.heap.size w (w4.alloc (.cells #[.int .i64 6, .int .i64 0, .int .i64 0, .string noB, .int .i64 0, .slice none 0 0] 28))) := below_next (below_next HB3.out hb4) b5
  clear hb4 b5 h6 HA3 HB3
  go_wp2_with fail
  generalize w4.alloc (.cells #[.int .i64 6, .int .i64 0, .int .i64 0, .string noB, .int .i64 0, .slice none 0 0] 28) = w5 at HA5 HC5 HB5 ⊢
  obtain ⟨zb, hzb⟩ : ∃ zb, w4.heap.size = zb := ⟨_, rfl⟩
  rw [hzb] at HC5 HZ
  simp only [hzb]
  clear hzb
  go_loopw [33] (fun i wr => ∃ k : Nat, k ≤ n ∧ i = .int .i64 (k : Int) ∧ (∀ j, j < k → nV (nv xs j) = true ∧ (nv xs j).2.2.size ≤ 100) ∧ L2 w wr za zb (xs.take k) (xs.take k) ∧ Below w.heap.size w wr) (fun i wr => n - (intOf i).toNat)
  case atStart => exact ⟨0, by omega, rfl, fun j h => absurd h (Nat.not_lt_zero j), ⟨nilS, nilS, HA5.out, HC5.out⟩, HB5.out⟩
  case round =>
    obtain ⟨k, hk, rfl, hall, ⟨va, vb, hsa, hsb⟩, hbw⟩ := hrel
    have HA : Hid (∀ j, j < k → nV (nv xs j) = true ∧ (nv xs j).2.2.size ≤ 100) := hall
    have HSa : Hid (Hq 5 w wr za va (xs.take k)) := hsa
    have HSb : Hid (Hq 6 w wr zb vb (xs.take k)) := hsb
    have HB : Hid (Below w.heap.size w wr) := hbw
    clear hall hsa hsb hbw HA5 HC5 HB5
    by_cases hlt : k < n
    · have hlt' : (k : Int) < (n : Int) := by omega
      obtain ⟨b, o, c', hv1, hbl, _, hat⟩ := vsl_first HV.out (by rw [HN.out]; omega)
      injection hv1 with hv1 hv2 hv3
      subst hv1 hv3
      clear hv2
      obtain ⟨c0, c1, c2⟩ := (hat k (by rw [HN.out]; exact hlt)).later hbl HB.out
      obtain ⟨y, hy⟩ : ∃ y, nv xs k = y := ⟨_, rfl⟩
      have HY : Hid (nv xs k = y) := hy
      rw [hy] at c0 c1 c2
      clear hy hat hbl
      have bx := below_box wr (.cells (encV y).toArray 25)
      have HB2 : Hid (Below w.heap.size w (wr.alloc (.cells #[.int .i64 y.1, .int .i64 y.2.1, .string y.2.2] 25))) := below_next HB.out bx
      have HSa2 : Hid (Hq 5 w (wr.alloc (.cells #[.int .i64 y.1, .int .i64 y.2.1, .string y.2.2] 25)) za va (xs.take k)) := HSa.out.later bx
      have HSb2 : Hid (Hq 6 w (wr.alloc (.cells #[.int .i64 y.1, .int .i64 y.2.1, .string y.2.2] 25)) zb vb (xs.take k)) := HSb.out.later bx
      have HQ2 : Hid (Blk (wr.alloc (.cells #[.int .i64 y.1, .int .i64 y.2.1, .string y.2.2] 25)) wr.heap.size (encV y) 25) := Blk.new wr _ _
      have HZq : Hid (zb < wr.heap.size) := HSb.out.s.lt
      clear HB bx HSa HSb
      by_cases hsz : 100 < y.2.2.size
      · have hsz' : (100 : Int) < (y.2.2.size : Int) := by omega
        go_wp2
        go_ret
        exact ⟨rfl, HB2.out⟩
      have hsz' : ¬ (100 : Int) < (y.2.2.size : Int) := by omega
      have hNm := fun w => name_any y.1 y.2.1 y.2.2 w (by omega)
      cases hny : nameB y.1 y.2.1 y.2.2
      · rw [hny] at hNm
        go_wp2_with (go_at_call 18; refine (hNm _).mono ?_; rintro e w7 ⟨rfl, hb7⟩)
        go_ret
        exact ⟨rfl, below_next HB2.out hb7⟩
      rw [hny] at hNm
      have HNy : Hid (nV y = true) := hny
      have HSy : Hid (y.2.2.size ≤ 100) := Nat.le_of_not_lt hsz
      clear hny
      go_wp2_with (go_at_call 18; refine (hNm _).mono ?_; rintro e w7 ⟨rfl, hb7⟩; have HP0 : Hid (Below w.heap.size w w7 ∧ Hq 5 w w7 za va (xs.take k)) := ⟨below_next HB2.out hb7, HSa2.out.later hb7⟩; have HSb7 : Hid (Hq 6 w w7 zb vb (xs.take k)) := HSb2.out.later hb7; have HQ7 : Hid (Blk w7 wr.heap.size (encV y) 25) := HQ2.out.later hb7; clear hb7 HB2 HSa2 HSb2 HQ2 c0 c1 c2)
      obtain ⟨q8, hq8⟩ : ∃ q, wr.heap.size = q := ⟨_, rfl⟩
      rw [hq8] at HQ7 HZq
      simp only [hq8]
      clear hq8 hNm
      rename_i K9 hK9
      have HLk : Hid ((xs.take k).length ≤ 40) := by
        show (xs.take k).length ≤ 40
        rw [List.length_take]; omega
      obtain ⟨I, hI⟩ : ∃ I : (Nat → Bool) → Act → World → Prop, ∀ L act wx, I L act wx ↔ (fun (L : Nat → Bool) (act : Act) (wx : World) => ∃ (t47 : Value) (t48 : Value) (t49 : Value) (t50 : Value) (t51 : Value) (t46 : Value) (t52 : Value) (t53 : Value) (t54 : Value) (al9 : Option Addr) (cl9 : Nat) (nl9 : Nat) (vo9 : Value) (q9 : Nat), act = ⟨#[Value.slice (some ⟨b, o, none⟩) n c, undef, u2, Value.pointer (some ⟨za, 0, none⟩), Value.bool true, Value.pointer (some ⟨zb, 0, none⟩), Value.bool true, undef, Value.pointer (some ⟨q8, 0, none⟩), undef, undef, undef, undef, undef, undef, undef, undef, undef, Value.bool true, Value.bool false, Value.slice (some ⟨b, o, none⟩) n c, Value.int .i64 (n : Int), Value.bool (decide (40 < (n : Int))), Value.tuple #[Value.agg #[Value.int .i64 5, Value.int .i64 0, Value.int .i64 0, Value.string noB, Value.int .i64 0, nilS], Value.bool true], Value.tuple #[Value.agg #[Value.int .i64 5, Value.int .i64 0, Value.int .i64 0, Value.string noB, Value.int .i64 0, nilS], Value.bool true], Value.agg #[Value.int .i64 5, Value.int .i64 0, Value.int .i64 0, Value.string noB, Value.int .i64 0, nilS], Value.bool true, Value.tuple #[Value.agg #[Value.int .i64 6, Value.int .i64 0, Value.int .i64 0, Value.string noB, Value.int .i64 0, nilS], Value.bool true], Value.tuple #[Value.agg #[Value.int .i64 6, Value.int .i64 0, Value.int .i64 0, Value.string noB, Value.int .i64 0, nilS], Value.bool true], Value.agg #[Value.int .i64 6, Value.int .i64 0, Value.int .i64 0, Value.string noB, Value.int .i64 0, nilS], Value.bool true, Value.slice (some ⟨b, o, none⟩) n c, Value.int .i64 (n : Int), Value.int .i64 (k : Int), Value.bool true, Value.pointer (some ⟨b, o + k * 3, none⟩), Value.agg #[Value.int .i64 y.1, Value.int .i64 y.2.1, Value.string y.2.2], Value.pointer (some ⟨q8, 2, none⟩), Value.string y.2.2, Value.int .i64 (y.2.2.size : Int), Value.bool false, Value.bool false, Value.agg #[Value.int .i64 y.1, Value.int .i64 y.2.1, Value.string y.2.2], Value.bool true, Value.bool false, Value.bool false, t46, t47, t48, t49, t50, t51, t52, t53, t54, u55, u56, u57, u58, u59, u60, u61, u62, u63, u64, undef, undef, undef, undef, undef, undef, undef, undef, undef, undef, undef, undef, undef, undef, undef, undef, undef, undef, undef, undef, undef, undef, undef, undef, undef, undef, undef, undef, undef, undef, undef, undef, undef, undef, undef, undef, undef, undef, undef, undef, undef, undef, undef, undef, undef, undef, undef, undef, undef, undef, undef, undef, undef, undef, undef, undef, undef, undef, undef, undef, undef, undef, undef, undef, undef, undef, undef, undef, undef, undef, undef], []⟩ ∧ Hid (StW w wx) ∧ Hid (L 9 = false → Hq 5 w wx za va (xs.take k)) ∧ Hid (Hq 6 w wx zb vb (xs.take k)) ∧ Hid (Blk wx q8 (encV y) 25) ∧ Hid (L 0 = true → t47 = .agg #[.int .i64 5, .int .i64 0, .int .i64 0, .string noB, .int .i64 0, va]) ∧ Hid (L 1 = true → t48 = .agg #[.int .i64 1, .int .i64 1, .string noB]) ∧ Hid (L 2 = true → t49 = .agg #[.int .i64 y.1, .int .i64 y.2.1, .string y.2.2]) ∧ Hid (L 3 = true → ∃ q8 : Nat, t50 = .slice (some ⟨q8, 0, none⟩) 1 1 ∧ OwnV wx w.heap.size t50 [y]) ∧ Hid (L 4 = true → t51 = .tuple #[.agg (stC 5 noV (.slice al9 nl9 cl9)).toArray, vo9, .bool true] ∧ OwnV wx w.heap.size vo9 [] ∧ HeldV wx w.heap.size (.slice al9 nl9 cl9) (xs.take k ++ [y])) ∧ Hid (L 5 = true → t46 = .tuple #[.agg (stC 5 noV (.slice al9 nl9 cl9)).toArray, vo9, .bool true]) ∧ Hid (L 6 = true → t52 = .agg (stC 5 noV (.slice al9 nl9 cl9)).toArray) ∧ Hid (L 7 = true → t53 = vo9) ∧ Hid (L 8 = true → t54 = .bool true) ∧ Hid (L 9 = true → Hq 5 w wx za (.slice al9 nl9 cl9) (xs.take k ++ [y]))) L act wx := ⟨_, fun _ _ _ => Iff.rfl⟩
      dsimp only at hI
      have HI : Hid (∀ L act wx, I L act wx ↔ _) := hI
      clear hI
      refine wp_region_inv mixed [[], [], [], [2], [0, 1, 2, 3], [0, 1, 2, 3, 4], [0, 1, 2, 3, 4, 5], [0, 1, 2, 3, 4, 5], [0, 1, 2, 3, 4, 5], [0, 1, 2, 3, 4, 5, 6]] (by kernel_rfl) I ?_ ?_ ?_
      · refine (HI.out _ _ _).2 ⟨_, _, _, _, _, _, _, _, _, none, 0, 0, undef, 0, rfl, ?_, ?_, ?_, ?_, fun h => Bool.noConfusion h, fun h => Bool.noConfusion h, fun h => Bool.noConfusion h, fun h => Bool.noConfusion h, fun h => Bool.noConfusion h, fun h => Bool.noConfusion h, fun h => Bool.noConfusion h, fun h => Bool.noConfusion h, fun h => Bool.noConfusion h, fun h => Bool.noConfusion h⟩
        · exact below_next HP0.out.1 (Stay.drew _)
        · exact fun _ => HP0.out.2.later (Stay.drew _)
        · exact HSb7.out.later (Stay.drew _)
        · exact HQ7.out.later (Stay.drew _)
      · intro i hi L act wx hIa hLi hcl hanc
        obtain ⟨t47, t48, t49, t50, t51, t46, t52, t53, t54, al9, cl9, nl9, vo9, q9, rfl, HS, E0, E1, E2, F0, F1, F2, F3, F4, F5, F6, F7, F8, F9⟩ := (HI.out _ _ _).1 hIa
        clear hIa
        have hi' : i = 0 ∨ i = 1 ∨ i = 2 ∨ i = 3 ∨ i = 4 ∨ i = 5 ∨ i = 6 ∨ i = 7 ∨ i = 8 ∨ i = 9 := by have hi : i < 10 := hi; omega
        clear hi
        rcases hi' with rfl | rfl | rfl | rfl | rfl | rfl | rfl | rfl | rfl | rfl
        · have hun : L 9 = false := by
            cases h : L 9
            · rfl
            · exact absurd (hcl 9 h 0 (by decide)) (by rw [hLi]; decide)
          have hz := E0.out hun
          refine wpOp_doG 0 (by rfl) (by rfl) ?_
          refine wp_load_mid 28 (.tmp 3) rfl za 0 rfl (stC 5 noV va) _ (Blk.all hz.s) Tryd.underlying28 rfl infoSt ?_
          simp only [Act.put, List.setIfInBounds_toArray, List.set_cons_zero, List.set_cons_succ]
          have hb : Below wx.heap.size wx wx := Below.refl _ _
          show I (putL L 0) _ _
          exact (HI.out (putL L 0) _ _).2 ⟨_, _, _, _, _, _, _, _, _, al9, cl9, nl9, vo9, q9, rfl, HS.out.later hb, fun h => (E0.out ((putL_ne (i := 0) (by decide)).symm.trans h)).later hb, E1.out.later hb, E2.out.later hb, fun _ => rfl, fun h => (by first | exact F1.out ((putL_ne (i := 0) (by decide)).symm.trans h) | rfl), fun h => (by first | exact F2.out ((putL_ne (i := 0) (by decide)).symm.trans h) | rfl), fun h => (fun q => q.imp fun _ k => ⟨k.1, k.2.later hb⟩) (F3.out ((putL_ne (i := 0) (by decide)).symm.trans h)), fun h => absurd (hcl 4 ((putL_ne (i := 0) (by decide)).symm.trans h) 0 (by decide)) (by rw [hLi]; decide), fun h => absurd (hcl 5 ((putL_ne (i := 0) (by decide)).symm.trans h) 0 (by decide)) (by rw [hLi]; decide), fun h => absurd (hcl 6 ((putL_ne (i := 0) (by decide)).symm.trans h) 0 (by decide)) (by rw [hLi]; decide), fun h => absurd (hcl 7 ((putL_ne (i := 0) (by decide)).symm.trans h) 0 (by decide)) (by rw [hLi]; decide), fun h => absurd (hcl 8 ((putL_ne (i := 0) (by decide)).symm.trans h) 0 (by decide)) (by rw [hLi]; decide), fun h => absurd (hcl 9 ((putL_ne (i := 0) (by decide)).symm.trans h) 0 (by decide)) (by rw [hLi]; decide)⟩
        · refine wpOp_doG 1 (by rfl) (by rfl) ?_
          go_wp2_with fail
          refine (num_any 1 wx).mono ?_
          rintro e wn ⟨rfl, hb⟩
          show I (putL L 1) _ _
          exact (HI.out (putL L 1) _ _).2 ⟨_, _, _, _, _, _, _, _, _, al9, cl9, nl9, vo9, q9, rfl, HS.out.later hb, fun h => (E0.out ((putL_ne (i := 1) (by decide)).symm.trans h)).later hb, E1.out.later hb, E2.out.later hb, fun h => (by first | exact F0.out ((putL_ne (i := 1) (by decide)).symm.trans h) | rfl), fun _ => rfl, fun h => (by first | exact F2.out ((putL_ne (i := 1) (by decide)).symm.trans h) | rfl), fun h => (fun q => q.imp fun _ k => ⟨k.1, k.2.later hb⟩) (F3.out ((putL_ne (i := 1) (by decide)).symm.trans h)), fun h => absurd (hcl 4 ((putL_ne (i := 1) (by decide)).symm.trans h) 1 (by decide)) (by rw [hLi]; decide), fun h => absurd (hcl 5 ((putL_ne (i := 1) (by decide)).symm.trans h) 1 (by decide)) (by rw [hLi]; decide), fun h => absurd (hcl 6 ((putL_ne (i := 1) (by decide)).symm.trans h) 1 (by decide)) (by rw [hLi]; decide), fun h => absurd (hcl 7 ((putL_ne (i := 1) (by decide)).symm.trans h) 1 (by decide)) (by rw [hLi]; decide), fun h => absurd (hcl 8 ((putL_ne (i := 1) (by decide)).symm.trans h) 1 (by decide)) (by rw [hLi]; decide), fun h => absurd (hcl 9 ((putL_ne (i := 1) (by decide)).symm.trans h) 1 (by decide)) (by rw [hLi]; decide)⟩
        · refine wpOp_doG 2 (by rfl) (by rfl) ?_
          refine wp_load_mid 25 (.tmp 8) rfl q8 0 rfl (encV y) _ (Blk.all E2.out) Tryd.underlying25 rfl infoVv ?_
          simp only [Act.put, List.setIfInBounds_toArray, List.set_cons_zero, List.set_cons_succ]
          have hb : Below wx.heap.size wx wx := Below.refl _ _
          show I (putL L 2) _ _
          exact (HI.out (putL L 2) _ _).2 ⟨_, _, _, _, _, _, _, _, _, al9, cl9, nl9, vo9, q9, rfl, HS.out.later hb, fun h => (E0.out ((putL_ne (i := 2) (by decide)).symm.trans h)).later hb, E1.out.later hb, E2.out.later hb, fun h => (by first | exact F0.out ((putL_ne (i := 2) (by decide)).symm.trans h) | rfl), fun h => (by first | exact F1.out ((putL_ne (i := 2) (by decide)).symm.trans h) | rfl), fun _ => rfl, fun h => absurd (hcl 3 ((putL_ne (i := 2) (by decide)).symm.trans h) 2 (by decide)) (by rw [hLi]; decide), fun h => absurd (hcl 4 ((putL_ne (i := 2) (by decide)).symm.trans h) 2 (by decide)) (by rw [hLi]; decide), fun h => absurd (hcl 5 ((putL_ne (i := 2) (by decide)).symm.trans h) 2 (by decide)) (by rw [hLi]; decide), fun h => absurd (hcl 6 ((putL_ne (i := 2) (by decide)).symm.trans h) 2 (by decide)) (by rw [hLi]; decide), fun h => absurd (hcl 7 ((putL_ne (i := 2) (by decide)).symm.trans h) 2 (by decide)) (by rw [hLi]; decide), fun h => absurd (hcl 8 ((putL_ne (i := 2) (by decide)).symm.trans h) 2 (by decide)) (by rw [hLi]; decide), fun h => absurd (hcl 9 ((putL_ne (i := 2) (by decide)).symm.trans h) 2 (by decide)) (by rw [hLi]; decide)⟩
        · have f2 := F2.out (hanc 2 (by decide))
          have f := f2
          subst f
          refine wpOp_doG 3 (by rfl) (by rfl) ?_
          go_wp2_with fail
          have HV9 := own_one wx w.heap.size HS.out.size y
          have hb := below_box wx (.cells (encV y).toArray 25)
          change OwnV (wx.alloc (.cells #[.int .i64 y.1, .int .i64 y.2.1, .string y.2.2] 25)) _ _ _ at HV9
          change Below _ wx (wx.alloc (.cells #[.int .i64 y.1, .int .i64 y.2.1, .string y.2.2] 25)) at hb
          show I (putL L 3) _ _
          exact (HI.out (putL L 3) _ _).2 ⟨_, _, _, _, _, _, _, _, _, al9, cl9, nl9, vo9, q9, rfl, HS.out.later hb, fun h => (E0.out ((putL_ne (i := 3) (by decide)).symm.trans h)).later hb, E1.out.later hb, E2.out.later hb, fun h => (by first | exact F0.out ((putL_ne (i := 3) (by decide)).symm.trans h) | rfl), fun h => (by first | exact F1.out ((putL_ne (i := 3) (by decide)).symm.trans h) | rfl), fun h => (by first | exact F2.out ((putL_ne (i := 3) (by decide)).symm.trans h) | rfl), fun _ => ⟨_, rfl, HV9⟩, fun h => absurd (hcl 4 ((putL_ne (i := 3) (by decide)).symm.trans h) 3 (by decide)) (by rw [hLi]; decide), fun h => absurd (hcl 5 ((putL_ne (i := 3) (by decide)).symm.trans h) 3 (by decide)) (by rw [hLi]; decide), fun h => absurd (hcl 6 ((putL_ne (i := 3) (by decide)).symm.trans h) 3 (by decide)) (by rw [hLi]; decide), fun h => absurd (hcl 7 ((putL_ne (i := 3) (by decide)).symm.trans h) 3 (by decide)) (by rw [hLi]; decide), fun h => absurd (hcl 8 ((putL_ne (i := 3) (by decide)).symm.trans h) 3 (by decide)) (by rw [hLi]; decide), fun h => absurd (hcl 9 ((putL_ne (i := 3) (by decide)).symm.trans h) 3 (by decide)) (by rw [hLi]; decide)⟩
        · have f0 := F0.out (hanc 0 (by decide))
          have f1 := F1.out (hanc 1 (by decide))
          have f2 := F2.out (hanc 2 (by decide))
          have f3 := F3.out (hanc 3 (by decide))
          have hun : L 9 = false := by
            cases h : L 9
            · rfl
            · exact absurd (hcl 9 h 4 (by decide)) (by rw [hLi]; decide)
          have hz := E0.out hun
          have g0 := f0
          have g1 := f1
          subst g0 g1
          obtain ⟨q8, g3, hv8⟩ := f3
          subst g3
          refine wpOp_doG 4 (by rfl) (by rfl) ?_
          go_wp2_with fail
          refine (HK.out.yes 5 w.heap.size (vN 1) va (xs.take k) 9 (.slice (some ⟨q8, 0, none⟩) 1 1) [y] wx HM5.out HS.out.size (HT.out.later HS.out) hz.l (by have := HLk.out; omega) hv8.vsl (sz1 _ (by have := HSy.out; omega)) (Nat.zero_le _) (may_push HM5.out HNy.out)).mono ?_
          rintro e wn ⟨vo, vl9, rfl, ho9, hl9, -, hb⟩
          have ho9 := ho9.base HS.out.size
          rw [nx_push] at hl9
          rw [ou_push] at ho9
          obtain ⟨al8, cl8, hf9⟩ := hl9.form
          obtain ⟨nl8, hn9⟩ : ∃ nl8, ((xs.take k ++ [y])).length = nl8 := ⟨_, rfl⟩
          rw [hn9] at hf9
          subst hf9
          clear hn9
          show I (putL L 4) _ _
          exact (HI.out (putL L 4) _ _).2 ⟨_, _, _, _, _, _, _, _, _, al8, cl8, nl8, vo, q9, rfl, HS.out.later hb, fun h => (E0.out ((putL_ne (i := 4) (by decide)).symm.trans h)).later hb, E1.out.later hb, E2.out.later hb, fun h => (by first | exact F0.out ((putL_ne (i := 4) (by decide)).symm.trans h) | rfl), fun h => (by first | exact F1.out ((putL_ne (i := 4) (by decide)).symm.trans h) | rfl), fun h => (by first | exact F2.out ((putL_ne (i := 4) (by decide)).symm.trans h) | rfl), fun h => (fun q => q.imp fun _ k => ⟨k.1, k.2.later hb⟩) (F3.out ((putL_ne (i := 4) (by decide)).symm.trans h)), fun _ => ⟨rfl, ho9, hl9⟩, fun h => absurd (hcl 5 ((putL_ne (i := 4) (by decide)).symm.trans h) 4 (by decide)) (by rw [hLi]; decide), fun h => absurd (hcl 6 ((putL_ne (i := 4) (by decide)).symm.trans h) 4 (by decide)) (by rw [hLi]; decide), fun h => absurd (hcl 7 ((putL_ne (i := 4) (by decide)).symm.trans h) 4 (by decide)) (by rw [hLi]; decide), fun h => absurd (hcl 8 ((putL_ne (i := 4) (by decide)).symm.trans h) 4 (by decide)) (by rw [hLi]; decide), fun h => absurd (hcl 9 ((putL_ne (i := 4) (by decide)).symm.trans h) 4 (by decide)) (by rw [hLi]; decide)⟩
        · have f0 := F0.out (hanc 0 (by decide))
          have f1 := F1.out (hanc 1 (by decide))
          have f2 := F2.out (hanc 2 (by decide))
          have f3 := F3.out (hanc 3 (by decide))
          have f4 := F4.out (hanc 4 (by decide))
          have f := f4.1
          subst f
          refine YieldsIf.wpOp (S := fun _ => True) (v := .tuple #[.agg (stC 5 noV (.slice al9 nl9 cl9)).toArray, vo9, .bool true]) (by rfl) (.inl ⟨rfl, fun w _ => rfl⟩) trivial ?_
          simp only [Act.put, List.setIfInBounds_toArray, List.set_cons_zero, List.set_cons_succ]
          have hb : Below wx.heap.size wx wx := Below.refl _ _
          show I (putL L 5) _ _
          exact (HI.out (putL L 5) _ _).2 ⟨_, _, _, _, _, _, _, _, _, al9, cl9, nl9, vo9, q9, rfl, HS.out.later hb, fun h => (E0.out ((putL_ne (i := 5) (by decide)).symm.trans h)).later hb, E1.out.later hb, E2.out.later hb, fun h => (by first | exact F0.out ((putL_ne (i := 5) (by decide)).symm.trans h) | rfl), fun h => (by first | exact F1.out ((putL_ne (i := 5) (by decide)).symm.trans h) | rfl), fun h => (by first | exact F2.out ((putL_ne (i := 5) (by decide)).symm.trans h) | rfl), fun h => (fun q => q.imp fun _ k => ⟨k.1, k.2.later hb⟩) (F3.out ((putL_ne (i := 5) (by decide)).symm.trans h)), fun h => (fun q => ⟨q.1, q.2.1.later hb, q.2.2.later hb⟩) (F4.out ((putL_ne (i := 5) (by decide)).symm.trans h)), fun _ => rfl, fun h => absurd (hcl 6 ((putL_ne (i := 5) (by decide)).symm.trans h) 5 (by decide)) (by rw [hLi]; decide), fun h => absurd (hcl 7 ((putL_ne (i := 5) (by decide)).symm.trans h) 5 (by decide)) (by rw [hLi]; decide), fun h => absurd (hcl 8 ((putL_ne (i := 5) (by decide)).symm.trans h) 5 (by decide)) (by rw [hLi]; decide), fun h => absurd (hcl 9 ((putL_ne (i := 5) (by decide)).symm.trans h) 5 (by decide)) (by rw [hLi]; decide)⟩
        · have f0 := F0.out (hanc 0 (by decide))
          have f1 := F1.out (hanc 1 (by decide))
          have f2 := F2.out (hanc 2 (by decide))
          have f3 := F3.out (hanc 3 (by decide))
          have f4 := F4.out (hanc 4 (by decide))
          have f5 := F5.out (hanc 5 (by decide))
          have f := f5
          subst f
          refine YieldsIf.wpOp (S := fun _ => True) (v := .agg (stC 5 noV (.slice al9 nl9 cl9)).toArray) (by rfl) (.inl ⟨rfl, fun w _ => by go_simp⟩) trivial ?_
          simp only [Act.put, List.setIfInBounds_toArray, List.set_cons_zero, List.set_cons_succ]
          have hb : Below wx.heap.size wx wx := Below.refl _ _
          show I (putL L 6) _ _
          exact (HI.out (putL L 6) _ _).2 ⟨_, _, _, _, _, _, _, _, _, al9, cl9, nl9, vo9, q9, rfl, HS.out.later hb, fun h => (E0.out ((putL_ne (i := 6) (by decide)).symm.trans h)).later hb, E1.out.later hb, E2.out.later hb, fun h => (by first | exact F0.out ((putL_ne (i := 6) (by decide)).symm.trans h) | rfl), fun h => (by first | exact F1.out ((putL_ne (i := 6) (by decide)).symm.trans h) | rfl), fun h => (by first | exact F2.out ((putL_ne (i := 6) (by decide)).symm.trans h) | rfl), fun h => (fun q => q.imp fun _ k => ⟨k.1, k.2.later hb⟩) (F3.out ((putL_ne (i := 6) (by decide)).symm.trans h)), fun h => (fun q => ⟨q.1, q.2.1.later hb, q.2.2.later hb⟩) (F4.out ((putL_ne (i := 6) (by decide)).symm.trans h)), fun h => (by first | exact F5.out ((putL_ne (i := 6) (by decide)).symm.trans h) | rfl), fun _ => rfl, fun h => (by first | exact F7.out ((putL_ne (i := 6) (by decide)).symm.trans h) | rfl), fun h => (by first | exact F8.out ((putL_ne (i := 6) (by decide)).symm.trans h) | rfl), fun h => absurd (hcl 9 ((putL_ne (i := 6) (by decide)).symm.trans h) 6 (by decide)) (by rw [hLi]; decide)⟩
        · have f0 := F0.out (hanc 0 (by decide))
          have f1 := F1.out (hanc 1 (by decide))
          have f2 := F2.out (hanc 2 (by decide))
          have f3 := F3.out (hanc 3 (by decide))
          have f4 := F4.out (hanc 4 (by decide))
          have f5 := F5.out (hanc 5 (by decide))
          have f := f5
          subst f
          refine YieldsIf.wpOp (S := fun _ => True) (v := vo9) (by rfl) (.inl ⟨rfl, fun w _ => by go_simp⟩) trivial ?_
          simp only [Act.put, List.setIfInBounds_toArray, List.set_cons_zero, List.set_cons_succ]
          have hb : Below wx.heap.size wx wx := Below.refl _ _
          show I (putL L 7) _ _
          exact (HI.out (putL L 7) _ _).2 ⟨_, _, _, _, _, _, _, _, _, al9, cl9, nl9, vo9, q9, rfl, HS.out.later hb, fun h => (E0.out ((putL_ne (i := 7) (by decide)).symm.trans h)).later hb, E1.out.later hb, E2.out.later hb, fun h => (by first | exact F0.out ((putL_ne (i := 7) (by decide)).symm.trans h) | rfl), fun h => (by first | exact F1.out ((putL_ne (i := 7) (by decide)).symm.trans h) | rfl), fun h => (by first | exact F2.out ((putL_ne (i := 7) (by decide)).symm.trans h) | rfl), fun h => (fun q => q.imp fun _ k => ⟨k.1, k.2.later hb⟩) (F3.out ((putL_ne (i := 7) (by decide)).symm.trans h)), fun h => (fun q => ⟨q.1, q.2.1.later hb, q.2.2.later hb⟩) (F4.out ((putL_ne (i := 7) (by decide)).symm.trans h)), fun h => (by first | exact F5.out ((putL_ne (i := 7) (by decide)).symm.trans h) | rfl), fun h => (by first | exact F6.out ((putL_ne (i := 7) (by decide)).symm.trans h) | rfl), fun _ => rfl, fun h => (by first | exact F8.out ((putL_ne (i := 7) (by decide)).symm.trans h) | rfl), fun h => (fun q => q.later hb) (F9.out ((putL_ne (i := 7) (by decide)).symm.trans h))⟩
        · have f0 := F0.out (hanc 0 (by decide))
          have f1 := F1.out (hanc 1 (by decide))
          have f2 := F2.out (hanc 2 (by decide))
          have f3 := F3.out (hanc 3 (by decide))
          have f4 := F4.out (hanc 4 (by decide))
          have f5 := F5.out (hanc 5 (by decide))
          have f := f5
          subst f
          refine YieldsIf.wpOp (S := fun _ => True) (v := .bool true) (by rfl) (.inl ⟨rfl, fun w _ => by go_simp⟩) trivial ?_
          simp only [Act.put, List.setIfInBounds_toArray, List.set_cons_zero, List.set_cons_succ]
          have hb : Below wx.heap.size wx wx := Below.refl _ _
          show I (putL L 8) _ _
          exact (HI.out (putL L 8) _ _).2 ⟨_, _, _, _, _, _, _, _, _, al9, cl9, nl9, vo9, q9, rfl, HS.out.later hb, fun h => (E0.out ((putL_ne (i := 8) (by decide)).symm.trans h)).later hb, E1.out.later hb, E2.out.later hb, fun h => (by first | exact F0.out ((putL_ne (i := 8) (by decide)).symm.trans h) | rfl), fun h => (by first | exact F1.out ((putL_ne (i := 8) (by decide)).symm.trans h) | rfl), fun h => (by first | exact F2.out ((putL_ne (i := 8) (by decide)).symm.trans h) | rfl), fun h => (fun q => q.imp fun _ k => ⟨k.1, k.2.later hb⟩) (F3.out ((putL_ne (i := 8) (by decide)).symm.trans h)), fun h => (fun q => ⟨q.1, q.2.1.later hb, q.2.2.later hb⟩) (F4.out ((putL_ne (i := 8) (by decide)).symm.trans h)), fun h => (by first | exact F5.out ((putL_ne (i := 8) (by decide)).symm.trans h) | rfl), fun h => (by first | exact F6.out ((putL_ne (i := 8) (by decide)).symm.trans h) | rfl), fun h => (by first | exact F7.out ((putL_ne (i := 8) (by decide)).symm.trans h) | rfl), fun _ => rfl, fun h => (fun q => q.later hb) (F9.out ((putL_ne (i := 8) (by decide)).symm.trans h))⟩
        · have f0 := F0.out (hanc 0 (by decide))
          have f1 := F1.out (hanc 1 (by decide))
          have f2 := F2.out (hanc 2 (by decide))
          have f3 := F3.out (hanc 3 (by decide))
          have f4 := F4.out (hanc 4 (by decide))
          have f5 := F5.out (hanc 5 (by decide))
          have f6 := F6.out (hanc 6 (by decide))
          have hun : L 9 = false := hLi
          have hz := E0.out hun
          have f := f6
          subst f
          refine wpOp_doG 9 (by rfl) (by rfl) ?_
          refine wpo_storeB 28 (.tmp 3) (.tmp 52) za 0 (stC 5 noV (.slice al9 nl9 cl9)) (stC 5 noV va) 28 infoSt (show 0 + 6 ≤ 6 by decide) (stC_one _ _ rfl) rfl rfl rfl hz.s ?_
          intro wn BP ho
          replace BP : Blk wn za (stC 5 noV (.slice al9 nl9 cl9)) 28 := BP
          have BS := hz.s
          simp only [Act.put, List.setIfInBounds_toArray, List.set_cons_zero, List.set_cons_succ]
          show I (putL L 9) _ _
          exact (HI.out (putL L 9) _ _).2 ⟨_, _, _, _, _, _, _, _, _, al9, cl9, nl9, vo9, q9, rfl, below_oth HS.out ho hz.z hz.z HS.out.size, fun h => (by rw [putL_self] at h; cases h), E1.out.oth ho hz.s (by have := HZ.out; omega), E2.out.oth ho (by have := HZ.out; have := HZq.out; omega) (by have := HZ.out; have := HZq.out; omega), fun h => (by first | exact F0.out ((putL_ne (i := 9) (by decide)).symm.trans h) | rfl), fun h => (by first | exact F1.out ((putL_ne (i := 9) (by decide)).symm.trans h) | rfl), fun h => (by first | exact F2.out ((putL_ne (i := 9) (by decide)).symm.trans h) | rfl), fun h => (fun q => q.imp fun _ k => ⟨k.1, k.2.oth ho BS (by decide)⟩) (F3.out ((putL_ne (i := 9) (by decide)).symm.trans h)), fun h => (fun q => ⟨q.1, q.2.1.oth ho BS (by decide), q.2.2.oth ho BS (by decide)⟩) (F4.out ((putL_ne (i := 9) (by decide)).symm.trans h)), fun h => (by first | exact F5.out ((putL_ne (i := 9) (by decide)).symm.trans h) | rfl), fun h => (by first | exact F6.out ((putL_ne (i := 9) (by decide)).symm.trans h) | rfl), fun h => (by first | exact F7.out ((putL_ne (i := 9) (by decide)).symm.trans h) | rfl), fun h => (by first | exact F8.out ((putL_ne (i := 9) (by decide)).symm.trans h) | rfl), fun _ => ⟨BP, f4.2.2.oth ho BS (by decide), hz.z⟩⟩
      · intro L act wx hall hIa
        obtain ⟨t47, t48, t49, t50, t51, t46, t52, t53, t54, al9, cl9, nl9, vo9, q9, rfl, HS, E0, E1, E2, F0, F1, F2, F3, F4, F5, F6, F7, F8, F9⟩ := (HI.out _ _ _).1 hIa
        have f0 := F0.out (hall 0 (by decide))
        have f1 := F1.out (hall 1 (by decide))
        have f2 := F2.out (hall 2 (by decide))
        have f3 := F3.out (hall 3 (by decide))
        have f4 := F4.out (hall 4 (by decide))
        have f5 := F5.out (hall 5 (by decide))
        have f6 := F6.out (hall 6 (by decide))
        have f7 := F7.out (hall 7 (by decide))
        have f8 := F8.out (hall 8 (by decide))
        have f9 := F9.out (hall 9 (by decide))
        clear hIa HI F0 F1 F2 F3 F4 F5 F6 F7 F8 F9
        show K9 _ _
        apply hK9
        clear hK9 K9
        obtain ⟨va1, hva1⟩ : ∃ v, Value.slice al9 nl9 cl9 = v := ⟨_, rfl⟩
        have fz := f9
        rw [hva1] at fz
        have HP1 : Hid (Below w.heap.size w wx ∧ Hq 5 w wx za va1 (xs.take k ++ [y])) := ⟨HS.out, fz⟩
        have HSb8 : Hid (Hq 6 w wx zb vb (xs.take k)) := E1.out
        have HQ8 : Hid (Blk wx q8 (encV y) 25) := E2.out
        generalize wx = w8 at HP1 HSb8 HQ8 ⊢
        clear fz hva1 HS E0 E1 E2 f0 f1 f2 f3 f4 f5 f6 f7 f8 f9
        go_wp2_with fail
        rename_i K9 hK9
        obtain ⟨I, hI⟩ : ∃ I : (Nat → Bool) → Act → World → Prop, ∀ L act wx, I L act wx ↔ (fun (L : Nat → Bool) (act : Act) (wx : World) => ∃ (t56 : Value) (t57 : Value) (t58 : Value) (t59 : Value) (t60 : Value) (t55 : Value) (t61 : Value) (t62 : Value) (t63 : Value) (al9 : Option Addr) (cl9 : Nat) (nl9 : Nat) (vo9 : Value) (q9 : Nat), act = ⟨#[Value.slice (some ⟨b, o, none⟩) n c, undef, u2, Value.pointer (some ⟨za, 0, none⟩), Value.bool true, Value.pointer (some ⟨zb, 0, none⟩), Value.bool true, undef, Value.pointer (some ⟨q8, 0, none⟩), undef, undef, undef, undef, undef, undef, undef, undef, undef, Value.bool true, Value.bool false, Value.slice (some ⟨b, o, none⟩) n c, Value.int .i64 (n : Int), Value.bool (decide (40 < (n : Int))), Value.tuple #[Value.agg #[Value.int .i64 5, Value.int .i64 0, Value.int .i64 0, Value.string noB, Value.int .i64 0, nilS], Value.bool true], Value.tuple #[Value.agg #[Value.int .i64 5, Value.int .i64 0, Value.int .i64 0, Value.string noB, Value.int .i64 0, nilS], Value.bool true], Value.agg #[Value.int .i64 5, Value.int .i64 0, Value.int .i64 0, Value.string noB, Value.int .i64 0, nilS], Value.bool true, Value.tuple #[Value.agg #[Value.int .i64 6, Value.int .i64 0, Value.int .i64 0, Value.string noB, Value.int .i64 0, nilS], Value.bool true], Value.tuple #[Value.agg #[Value.int .i64 6, Value.int .i64 0, Value.int .i64 0, Value.string noB, Value.int .i64 0, nilS], Value.bool true], Value.agg #[Value.int .i64 6, Value.int .i64 0, Value.int .i64 0, Value.string noB, Value.int .i64 0, nilS], Value.bool true, Value.slice (some ⟨b, o, none⟩) n c, Value.int .i64 (n : Int), Value.int .i64 (k : Int), Value.bool true, Value.pointer (some ⟨b, o + k * 3, none⟩), Value.agg #[Value.int .i64 y.1, Value.int .i64 y.2.1, Value.string y.2.2], Value.pointer (some ⟨q8, 2, none⟩), Value.string y.2.2, Value.int .i64 (y.2.2.size : Int), Value.bool false, Value.bool false, Value.agg #[Value.int .i64 y.1, Value.int .i64 y.2.1, Value.string y.2.2], Value.bool true, Value.bool false, Value.bool false, t46, t47, t48, t49, t50, t51, t52, t53, t54, t55, t56, t57, t58, t59, t60, t61, t62, t63, u64, undef, undef, undef, undef, undef, undef, undef, undef, undef, undef, undef, undef, undef, undef, undef, undef, undef, undef, undef, undef, undef, undef, undef, undef, undef, undef, undef, undef, undef, undef, undef, undef, undef, undef, undef, undef, undef, undef, undef, undef, undef, undef, undef, undef, undef, undef, undef, undef, undef, undef, undef, undef, undef, undef, undef, undef, undef, undef, undef, undef, undef, undef, undef, undef, undef, undef, undef, undef, undef, undef, undef], []⟩ ∧ Hid (StW w wx) ∧ Hid (L 9 = false → Hq 6 w wx zb vb (xs.take k)) ∧ Hid (Hq 5 w wx za va1 (xs.take k ++ [y])) ∧ Hid (Blk wx q8 (encV y) 25) ∧ Hid (L 0 = true → t56 = .agg #[.int .i64 6, .int .i64 0, .int .i64 0, .string noB, .int .i64 0, vb]) ∧ Hid (L 1 = true → t57 = .agg #[.int .i64 1, .int .i64 1, .string noB]) ∧ Hid (L 2 = true → t58 = .agg #[.int .i64 y.1, .int .i64 y.2.1, .string y.2.2]) ∧ Hid (L 3 = true → ∃ q8 : Nat, t59 = .slice (some ⟨q8, 0, none⟩) 1 1 ∧ OwnV wx w.heap.size t59 [y]) ∧ Hid (L 4 = true → t60 = .tuple #[.agg (stC 6 noV (.slice al9 nl9 cl9)).toArray, vo9, .bool true] ∧ OwnV wx w.heap.size vo9 [] ∧ HeldV wx w.heap.size (.slice al9 nl9 cl9) (xs.take k ++ [y])) ∧ Hid (L 5 = true → t55 = .tuple #[.agg (stC 6 noV (.slice al9 nl9 cl9)).toArray, vo9, .bool true]) ∧ Hid (L 6 = true → t61 = .agg (stC 6 noV (.slice al9 nl9 cl9)).toArray) ∧ Hid (L 7 = true → t62 = vo9) ∧ Hid (L 8 = true → t63 = .bool true) ∧ Hid (L 9 = true → Hq 6 w wx zb (.slice al9 nl9 cl9) (xs.take k ++ [y]))) L act wx := ⟨_, fun _ _ _ => Iff.rfl⟩
        dsimp only at hI
        have HI : Hid (∀ L act wx, I L act wx ↔ _) := hI
        clear hI
        refine wp_region_inv mixed [[], [], [], [2], [0, 1, 2, 3], [0, 1, 2, 3, 4], [0, 1, 2, 3, 4, 5], [0, 1, 2, 3, 4, 5], [0, 1, 2, 3, 4, 5], [0, 1, 2, 3, 4, 5, 6]] (by kernel_rfl) I ?_ ?_ ?_
        · refine (HI.out _ _ _).2 ⟨_, _, _, _, _, _, _, _, _, none, 0, 0, undef, 0, rfl, ?_, ?_, ?_, ?_, fun h => Bool.noConfusion h, fun h => Bool.noConfusion h, fun h => Bool.noConfusion h, fun h => Bool.noConfusion h, fun h => Bool.noConfusion h, fun h => Bool.noConfusion h, fun h => Bool.noConfusion h, fun h => Bool.noConfusion h, fun h => Bool.noConfusion h, fun h => Bool.noConfusion h⟩
          · exact below_next (⟨HP1.out.1, HSb8.out⟩ : _ ∧ _).1 (Stay.drew _)
          · exact fun _ => (⟨HP1.out.1, HSb8.out⟩ : _ ∧ _).2.later (Stay.drew _)
          · exact HP1.out.2.later (Stay.drew _)
          · exact HQ8.out.later (Stay.drew _)
        · intro i hi L act wx hIa hLi hcl hanc
          obtain ⟨t56, t57, t58, t59, t60, t55, t61, t62, t63, al9, cl9, nl9, vo9, q9, rfl, HS, E0, E1, E2, F0, F1, F2, F3, F4, F5, F6, F7, F8, F9⟩ := (HI.out _ _ _).1 hIa
          clear hIa
          have hi' : i = 0 ∨ i = 1 ∨ i = 2 ∨ i = 3 ∨ i = 4 ∨ i = 5 ∨ i = 6 ∨ i = 7 ∨ i = 8 ∨ i = 9 := by have hi : i < 10 := hi; omega
          clear hi
          rcases hi' with rfl | rfl | rfl | rfl | rfl | rfl | rfl | rfl | rfl | rfl
          · have hun : L 9 = false := by
              cases h : L 9
              · rfl
              · exact absurd (hcl 9 h 0 (by decide)) (by rw [hLi]; decide)
            have hz := E0.out hun
            refine wpOp_doG 0 (by rfl) (by rfl) ?_
            refine wp_load_mid 28 (.tmp 5) rfl zb 0 rfl (stC 6 noV vb) _ (Blk.all hz.s) Tryd.underlying28 rfl infoSt ?_
            simp only [Act.put, List.setIfInBounds_toArray, List.set_cons_zero, List.set_cons_succ]
            have hb : Below wx.heap.size wx wx := Below.refl _ _
            show I (putL L 0) _ _
            exact (HI.out (putL L 0) _ _).2 ⟨_, _, _, _, _, _, _, _, _, al9, cl9, nl9, vo9, q9, rfl, HS.out.later hb, fun h => (E0.out ((putL_ne (i := 0) (by decide)).symm.trans h)).later hb, E1.out.later hb, E2.out.later hb, fun _ => rfl, fun h => (by first | exact F1.out ((putL_ne (i := 0) (by decide)).symm.trans h) | rfl), fun h => (by first | exact F2.out ((putL_ne (i := 0) (by decide)).symm.trans h) | rfl), fun h => (fun q => q.imp fun _ k => ⟨k.1, k.2.later hb⟩) (F3.out ((putL_ne (i := 0) (by decide)).symm.trans h)), fun h => absurd (hcl 4 ((putL_ne (i := 0) (by decide)).symm.trans h) 0 (by decide)) (by rw [hLi]; decide), fun h => absurd (hcl 5 ((putL_ne (i := 0) (by decide)).symm.trans h) 0 (by decide)) (by rw [hLi]; decide), fun h => absurd (hcl 6 ((putL_ne (i := 0) (by decide)).symm.trans h) 0 (by decide)) (by rw [hLi]; decide), fun h => absurd (hcl 7 ((putL_ne (i := 0) (by decide)).symm.trans h) 0 (by decide)) (by rw [hLi]; decide), fun h => absurd (hcl 8 ((putL_ne (i := 0) (by decide)).symm.trans h) 0 (by decide)) (by rw [hLi]; decide), fun h => absurd (hcl 9 ((putL_ne (i := 0) (by decide)).symm.trans h) 0 (by decide)) (by rw [hLi]; decide)⟩
          · refine wpOp_doG 1 (by rfl) (by rfl) ?_
            go_wp2_with fail
            refine (num_any 1 wx).mono ?_
            rintro e wn ⟨rfl, hb⟩
            show I (putL L 1) _ _
            exact (HI.out (putL L 1) _ _).2 ⟨_, _, _, _, _, _, _, _, _, al9, cl9, nl9, vo9, q9, rfl, HS.out.later hb, fun h => (E0.out ((putL_ne (i := 1) (by decide)).symm.trans h)).later hb, E1.out.later hb, E2.out.later hb, fun h => (by first | exact F0.out ((putL_ne (i := 1) (by decide)).symm.trans h) | rfl), fun _ => rfl, fun h => (by first | exact F2.out ((putL_ne (i := 1) (by decide)).symm.trans h) | rfl), fun h => (fun q => q.imp fun _ k => ⟨k.1, k.2.later hb⟩) (F3.out ((putL_ne (i := 1) (by decide)).symm.trans h)), fun h => absurd (hcl 4 ((putL_ne (i := 1) (by decide)).symm.trans h) 1 (by decide)) (by rw [hLi]; decide), fun h => absurd (hcl 5 ((putL_ne (i := 1) (by decide)).symm.trans h) 1 (by decide)) (by rw [hLi]; decide), fun h => absurd (hcl 6 ((putL_ne (i := 1) (by decide)).symm.trans h) 1 (by decide)) (by rw [hLi]; decide), fun h => absurd (hcl 7 ((putL_ne (i := 1) (by decide)).symm.trans h) 1 (by decide)) (by rw [hLi]; decide), fun h => absurd (hcl 8 ((putL_ne (i := 1) (by decide)).symm.trans h) 1 (by decide)) (by rw [hLi]; decide), fun h => absurd (hcl 9 ((putL_ne (i := 1) (by decide)).symm.trans h) 1 (by decide)) (by rw [hLi]; decide)⟩
          · refine wpOp_doG 2 (by rfl) (by rfl) ?_
            refine wp_load_mid 25 (.tmp 8) rfl q8 0 rfl (encV y) _ (Blk.all E2.out) Tryd.underlying25 rfl infoVv ?_
            simp only [Act.put, List.setIfInBounds_toArray, List.set_cons_zero, List.set_cons_succ]
            have hb : Below wx.heap.size wx wx := Below.refl _ _
            show I (putL L 2) _ _
            exact (HI.out (putL L 2) _ _).2 ⟨_, _, _, _, _, _, _, _, _, al9, cl9, nl9, vo9, q9, rfl, HS.out.later hb, fun h => (E0.out ((putL_ne (i := 2) (by decide)).symm.trans h)).later hb, E1.out.later hb, E2.out.later hb, fun h => (by first | exact F0.out ((putL_ne (i := 2) (by decide)).symm.trans h) | rfl), fun h => (by first | exact F1.out ((putL_ne (i := 2) (by decide)).symm.trans h) | rfl), fun _ => rfl, fun h => absurd (hcl 3 ((putL_ne (i := 2) (by decide)).symm.trans h) 2 (by decide)) (by rw [hLi]; decide), fun h => absurd (hcl 4 ((putL_ne (i := 2) (by decide)).symm.trans h) 2 (by decide)) (by rw [hLi]; decide), fun h => absurd (hcl 5 ((putL_ne (i := 2) (by decide)).symm.trans h) 2 (by decide)) (by rw [hLi]; decide), fun h => absurd (hcl 6 ((putL_ne (i := 2) (by decide)).symm.trans h) 2 (by decide)) (by rw [hLi]; decide), fun h => absurd (hcl 7 ((putL_ne (i := 2) (by decide)).symm.trans h) 2 (by decide)) (by rw [hLi]; decide), fun h => absurd (hcl 8 ((putL_ne (i := 2) (by decide)).symm.trans h) 2 (by decide)) (by rw [hLi]; decide), fun h => absurd (hcl 9 ((putL_ne (i := 2) (by decide)).symm.trans h) 2 (by decide)) (by rw [hLi]; decide)⟩
          · have f2 := F2.out (hanc 2 (by decide))
            have f := f2
            subst f
            refine wpOp_doG 3 (by rfl) (by rfl) ?_
            go_wp2_with fail
            have HV9 := own_one wx w.heap.size HS.out.size y
            have hb := below_box wx (.cells (encV y).toArray 25)
            change OwnV (wx.alloc (.cells #[.int .i64 y.1, .int .i64 y.2.1, .string y.2.2] 25)) _ _ _ at HV9
            change Below _ wx (wx.alloc (.cells #[.int .i64 y.1, .int .i64 y.2.1, .string y.2.2] 25)) at hb
            show I (putL L 3) _ _
            exact (HI.out (putL L 3) _ _).2 ⟨_, _, _, _, _, _, _, _, _, al9, cl9, nl9, vo9, q9, rfl, HS.out.later hb, fun h => (E0.out ((putL_ne (i := 3) (by decide)).symm.trans h)).later hb, E1.out.later hb, E2.out.later hb, fun h => (by first | exact F0.out ((putL_ne (i := 3) (by decide)).symm.trans h) | rfl), fun h => (by first | exact F1.out ((putL_ne (i := 3) (by decide)).symm.trans h) | rfl), fun h => (by first | exact F2.out ((putL_ne (i := 3) (by decide)).symm.trans h) | rfl), fun _ => ⟨_, rfl, HV9⟩, fun h => absurd (hcl 4 ((putL_ne (i := 3) (by decide)).symm.trans h) 3 (by decide)) (by rw [hLi]; decide), fun h => absurd (hcl 5 ((putL_ne (i := 3) (by decide)).symm.trans h) 3 (by decide)) (by rw [hLi]; decide), fun h => absurd (hcl 6 ((putL_ne (i := 3) (by decide)).symm.trans h) 3 (by decide)) (by rw [hLi]; decide), fun h => absurd (hcl 7 ((putL_ne (i := 3) (by decide)).symm.trans h) 3 (by decide)) (by rw [hLi]; decide), fun h => absurd (hcl 8 ((putL_ne (i := 3) (by decide)).symm.trans h) 3 (by decide)) (by rw [hLi]; decide), fun h => absurd (hcl 9 ((putL_ne (i := 3) (by decide)).symm.trans h) 3 (by decide)) (by rw [hLi]; decide)⟩
          · have f0 := F0.out (hanc 0 (by decide))
            have f1 := F1.out (hanc 1 (by decide))
            have f2 := F2.out (hanc 2 (by decide))
            have f3 := F3.out (hanc 3 (by decide))
            have hun : L 9 = false := by
              cases h : L 9
              · rfl
              · exact absurd (hcl 9 h 4 (by decide)) (by rw [hLi]; decide)
            have hz := E0.out hun
            have g0 := f0
            have g1 := f1
            subst g0 g1
            obtain ⟨q8, g3, hv8⟩ := f3
            subst g3
            refine wpOp_doG 4 (by rfl) (by rfl) ?_
            go_wp2_with fail
            refine (HK.out.yes 6 w.heap.size (vN 1) vb (xs.take k) 9 (.slice (some ⟨q8, 0, none⟩) 1 1) [y] wx HM6.out HS.out.size (HT.out.later HS.out) hz.l (by have := HLk.out; omega) hv8.vsl (sz1 _ (by have := HSy.out; omega)) (Nat.zero_le _) (may_push HM6.out HNy.out)).mono ?_
            rintro e wn ⟨vo, vl9, rfl, ho9, hl9, -, hb⟩
            have ho9 := ho9.base HS.out.size
            rw [nx_push] at hl9
            rw [ou_push] at ho9
            obtain ⟨al8, cl8, hf9⟩ := hl9.form
            obtain ⟨nl8, hn9⟩ : ∃ nl8, ((xs.take k ++ [y])).length = nl8 := ⟨_, rfl⟩
            rw [hn9] at hf9
            subst hf9
            clear hn9
            show I (putL L 4) _ _
            exact (HI.out (putL L 4) _ _).2 ⟨_, _, _, _, _, _, _, _, _, al8, cl8, nl8, vo, q9, rfl, HS.out.later hb, fun h => (E0.out ((putL_ne (i := 4) (by decide)).symm.trans h)).later hb, E1.out.later hb, E2.out.later hb, fun h => (by first | exact F0.out ((putL_ne (i := 4) (by decide)).symm.trans h) | rfl), fun h => (by first | exact F1.out ((putL_ne (i := 4) (by decide)).symm.trans h) | rfl), fun h => (by first | exact F2.out ((putL_ne (i := 4) (by decide)).symm.trans h) | rfl), fun h => (fun q => q.imp fun _ k => ⟨k.1, k.2.later hb⟩) (F3.out ((putL_ne (i := 4) (by decide)).symm.trans h)), fun _ => ⟨rfl, ho9, hl9⟩, fun h => absurd (hcl 5 ((putL_ne (i := 4) (by decide)).symm.trans h) 4 (by decide)) (by rw [hLi]; decide), fun h => absurd (hcl 6 ((putL_ne (i := 4) (by decide)).symm.trans h) 4 (by decide)) (by rw [hLi]; decide), fun h => absurd (hcl 7 ((putL_ne (i := 4) (by decide)).symm.trans h) 4 (by decide)) (by rw [hLi]; decide), fun h => absurd (hcl 8 ((putL_ne (i := 4) (by decide)).symm.trans h) 4 (by decide)) (by rw [hLi]; decide), fun h => absurd (hcl 9 ((putL_ne (i := 4) (by decide)).symm.trans h) 4 (by decide)) (by rw [hLi]; decide)⟩
          · have f0 := F0.out (hanc 0 (by decide))
            have f1 := F1.out (hanc 1 (by decide))
            have f2 := F2.out (hanc 2 (by decide))
            have f3 := F3.out (hanc 3 (by decide))
            have f4 := F4.out (hanc 4 (by decide))
            have f := f4.1
            subst f
            refine YieldsIf.wpOp (S := fun _ => True) (v := .tuple #[.agg (stC 6 noV (.slice al9 nl9 cl9)).toArray, vo9, .bool true]) (by rfl) (.inl ⟨rfl, fun w _ => rfl⟩) trivial ?_
            simp only [Act.put, List.setIfInBounds_toArray, List.set_cons_zero, List.set_cons_succ]
            have hb : Below wx.heap.size wx wx := Below.refl _ _
            show I (putL L 5) _ _
            exact (HI.out (putL L 5) _ _).2 ⟨_, _, _, _, _, _, _, _, _, al9, cl9, nl9, vo9, q9, rfl, HS.out.later hb, fun h => (E0.out ((putL_ne (i := 5) (by decide)).symm.trans h)).later hb, E1.out.later hb, E2.out.later hb, fun h => (by first | exact F0.out ((putL_ne (i := 5) (by decide)).symm.trans h) | rfl), fun h => (by first | exact F1.out ((putL_ne (i := 5) (by decide)).symm.trans h) | rfl), fun h => (by first | exact F2.out ((putL_ne (i := 5) (by decide)).symm.trans h) | rfl), fun h => (fun q => q.imp fun _ k => ⟨k.1, k.2.later hb⟩) (F3.out ((putL_ne (i := 5) (by decide)).symm.trans h)), fun h => (fun q => ⟨q.1, q.2.1.later hb, q.2.2.later hb⟩) (F4.out ((putL_ne (i := 5) (by decide)).symm.trans h)), fun _ => rfl, fun h => absurd (hcl 6 ((putL_ne (i := 5) (by decide)).symm.trans h) 5 (by decide)) (by rw [hLi]; decide), fun h => absurd (hcl 7 ((putL_ne (i := 5) (by decide)).symm.trans h) 5 (by decide)) (by rw [hLi]; decide), fun h => absurd (hcl 8 ((putL_ne (i := 5) (by decide)).symm.trans h) 5 (by decide)) (by rw [hLi]; decide), fun h => absurd (hcl 9 ((putL_ne (i := 5) (by decide)).symm.trans h) 5 (by decide)) (by rw [hLi]; decide)⟩
          · have f0 := F0.out (hanc 0 (by decide))
            have f1 := F1.out (hanc 1 (by decide))
            have f2 := F2.out (hanc 2 (by decide))
            have f3 := F3.out (hanc 3 (by decide))
            have f4 := F4.out (hanc 4 (by decide))
            have f5 := F5.out (hanc 5 (by decide))
            have f := f5
            subst f
            refine YieldsIf.wpOp (S := fun _ => True) (v := .agg (stC 6 noV (.slice al9 nl9 cl9)).toArray) (by rfl) (.inl ⟨rfl, fun w _ => by go_simp⟩) trivial ?_
            simp only [Act.put, List.setIfInBounds_toArray, List.set_cons_zero, List.set_cons_succ]
            have hb : Below wx.heap.size wx wx := Below.refl _ _
            show I (putL L 6) _ _
            exact (HI.out (putL L 6) _ _).2 ⟨_, _, _, _, _, _, _, _, _, al9, cl9, nl9, vo9, q9, rfl, HS.out.later hb, fun h => (E0.out ((putL_ne (i := 6) (by decide)).symm.trans h)).later hb, E1.out.later hb, E2.out.later hb, fun h => (by first | exact F0.out ((putL_ne (i := 6) (by decide)).symm.trans h) | rfl), fun h => (by first | exact F1.out ((putL_ne (i := 6) (by decide)).symm.trans h) | rfl), fun h => (by first | exact F2.out ((putL_ne (i := 6) (by decide)).symm.trans h) | rfl), fun h => (fun q => q.imp fun _ k => ⟨k.1, k.2.later hb⟩) (F3.out ((putL_ne (i := 6) (by decide)).symm.trans h)), fun h => (fun q => ⟨q.1, q.2.1.later hb, q.2.2.later hb⟩) (F4.out ((putL_ne (i := 6) (by decide)).symm.trans h)), fun h => (by first | exact F5.out ((putL_ne (i := 6) (by decide)).symm.trans h) | rfl), fun _ => rfl, fun h => (by first | exact F7.out ((putL_ne (i := 6) (by decide)).symm.trans h) | rfl), fun h => (by first | exact F8.out ((putL_ne (i := 6) (by decide)).symm.trans h) | rfl), fun h => absurd (hcl 9 ((putL_ne (i := 6) (by decide)).symm.trans h) 6 (by decide)) (by rw [hLi]; decide)⟩
          · have f0 := F0.out (hanc 0 (by decide))
            have f1 := F1.out (hanc 1 (by decide))
            have f2 := F2.out (hanc 2 (by decide))
            have f3 := F3.out (hanc 3 (by decide))
            have f4 := F4.out (hanc 4 (by decide))
            have f5 := F5.out (hanc 5 (by decide))
            have f := f5
            subst f
            refine YieldsIf.wpOp (S := fun _ => True) (v := vo9) (by rfl) (.inl ⟨rfl, fun w _ => by go_simp⟩) trivial ?_
            simp only [Act.put, List.setIfInBounds_toArray, List.set_cons_zero, List.set_cons_succ]
            have hb : Below wx.heap.size wx wx := Below.refl _ _
            show I (putL L 7) _ _
            exact (HI.out (putL L 7) _ _).2 ⟨_, _, _, _, _, _, _, _, _, al9, cl9, nl9, vo9, q9, rfl, HS.out.later hb, fun h => (E0.out ((putL_ne (i := 7) (by decide)).symm.trans h)).later hb, E1.out.later hb, E2.out.later hb, fun h => (by first | exact F0.out ((putL_ne (i := 7) (by decide)).symm.trans h) | rfl), fun h => (by first | exact F1.out ((putL_ne (i := 7) (by decide)).symm.trans h) | rfl), fun h => (by first | exact F2.out ((putL_ne (i := 7) (by decide)).symm.trans h) | rfl), fun h => (fun q => q.imp fun _ k => ⟨k.1, k.2.later hb⟩) (F3.out ((putL_ne (i := 7) (by decide)).symm.trans h)), fun h => (fun q => ⟨q.1, q.2.1.later hb, q.2.2.later hb⟩) (F4.out ((putL_ne (i := 7) (by decide)).symm.trans h)), fun h => (by first | exact F5.out ((putL_ne (i := 7) (by decide)).symm.trans h) | rfl), fun h => (by first | exact F6.out ((putL_ne (i := 7) (by decide)).symm.trans h) | rfl), fun _ => rfl, fun h => (by first | exact F8.out ((putL_ne (i := 7) (by decide)).symm.trans h) | rfl), fun h => (fun q => q.later hb) (F9.out ((putL_ne (i := 7) (by decide)).symm.trans h))⟩
          · have f0 := F0.out (hanc 0 (by decide))
            have f1 := F1.out (hanc 1 (by decide))
            have f2 := F2.out (hanc 2 (by decide))
            have f3 := F3.out (hanc 3 (by decide))
            have f4 := F4.out (hanc 4 (by decide))
            have f5 := F5.out (hanc 5 (by decide))
            have f := f5
            subst f
            refine YieldsIf.wpOp (S := fun _ => True) (v := .bool true) (by rfl) (.inl ⟨rfl, fun w _ => by go_simp⟩) trivial ?_
            simp only [Act.put, List.setIfInBounds_toArray, List.set_cons_zero, List.set_cons_succ]
            have hb : Below wx.heap.size wx wx := Below.refl _ _
            show I (putL L 8) _ _
            exact (HI.out (putL L 8) _ _).2 ⟨_, _, _, _, _, _, _, _, _, al9, cl9, nl9, vo9, q9, rfl, HS.out.later hb, fun h => (E0.out ((putL_ne (i := 8) (by decide)).symm.trans h)).later hb, E1.out.later hb, E2.out.later hb, fun h => (by first | exact F0.out ((putL_ne (i := 8) (by decide)).symm.trans h) | rfl), fun h => (by first | exact F1.out ((putL_ne (i := 8) (by decide)).symm.trans h) | rfl), fun h => (by first | exact F2.out ((putL_ne (i := 8) (by decide)).symm.trans h) | rfl), fun h => (fun q => q.imp fun _ k => ⟨k.1, k.2.later hb⟩) (F3.out ((putL_ne (i := 8) (by decide)).symm.trans h)), fun h => (fun q => ⟨q.1, q.2.1.later hb, q.2.2.later hb⟩) (F4.out ((putL_ne (i := 8) (by decide)).symm.trans h)), fun h => (by first | exact F5.out ((putL_ne (i := 8) (by decide)).symm.trans h) | rfl), fun h => (by first | exact F6.out ((putL_ne (i := 8) (by decide)).symm.trans h) | rfl), fun h => (by first | exact F7.out ((putL_ne (i := 8) (by decide)).symm.trans h) | rfl), fun _ => rfl, fun h => (fun q => q.later hb) (F9.out ((putL_ne (i := 8) (by decide)).symm.trans h))⟩
          · have f0 := F0.out (hanc 0 (by decide))
            have f1 := F1.out (hanc 1 (by decide))
            have f2 := F2.out (hanc 2 (by decide))
            have f3 := F3.out (hanc 3 (by decide))
            have f4 := F4.out (hanc 4 (by decide))
            have f5 := F5.out (hanc 5 (by decide))
            have f6 := F6.out (hanc 6 (by decide))
            have hun : L 9 = false := hLi
            have hz := E0.out hun
            have f := f6
            subst f
            refine wpOp_doG 9 (by rfl) (by rfl) ?_
            refine wpo_storeB 28 (.tmp 5) (.tmp 61) zb 0 (stC 6 noV (.slice al9 nl9 cl9)) (stC 6 noV vb) 28 infoSt (show 0 + 6 ≤ 6 by decide) (stC_one _ _ rfl) rfl rfl rfl hz.s ?_
            intro wn BP ho
            replace BP : Blk wn zb (stC 6 noV (.slice al9 nl9 cl9)) 28 := BP
            have BS := hz.s
            simp only [Act.put, List.setIfInBounds_toArray, List.set_cons_zero, List.set_cons_succ]
            show I (putL L 9) _ _
            exact (HI.out (putL L 9) _ _).2 ⟨_, _, _, _, _, _, _, _, _, al9, cl9, nl9, vo9, q9, rfl, below_oth HS.out ho hz.z hz.z HS.out.size, fun h => (by rw [putL_self] at h; cases h), E1.out.oth ho hz.s (by have := HZ.out; omega), E2.out.oth ho (by have := HZq.out; omega) (by have := HZq.out; omega), fun h => (by first | exact F0.out ((putL_ne (i := 9) (by decide)).symm.trans h) | rfl), fun h => (by first | exact F1.out ((putL_ne (i := 9) (by decide)).symm.trans h) | rfl), fun h => (by first | exact F2.out ((putL_ne (i := 9) (by decide)).symm.trans h) | rfl), fun h => (fun q => q.imp fun _ k => ⟨k.1, k.2.oth ho BS (by decide)⟩) (F3.out ((putL_ne (i := 9) (by decide)).symm.trans h)), fun h => (fun q => ⟨q.1, q.2.1.oth ho BS (by decide), q.2.2.oth ho BS (by decide)⟩) (F4.out ((putL_ne (i := 9) (by decide)).symm.trans h)), fun h => (by first | exact F5.out ((putL_ne (i := 9) (by decide)).symm.trans h) | rfl), fun h => (by first | exact F6.out ((putL_ne (i := 9) (by decide)).symm.trans h) | rfl), fun h => (by first | exact F7.out ((putL_ne (i := 9) (by decide)).symm.trans h) | rfl), fun h => (by first | exact F8.out ((putL_ne (i := 9) (by decide)).symm.trans h) | rfl), fun _ => ⟨BP, f4.2.2.oth ho BS (by decide), hz.z⟩⟩
        · intro L act wx hall hIa
          obtain ⟨t56, t57, t58, t59, t60, t55, t61, t62, t63, al9, cl9, nl9, vo9, q9, rfl, HS, E0, E1, E2, F0, F1, F2, F3, F4, F5, F6, F7, F8, F9⟩ := (HI.out _ _ _).1 hIa
          have f0 := F0.out (hall 0 (by decide))
          have f1 := F1.out (hall 1 (by decide))
          have f2 := F2.out (hall 2 (by decide))
          have f3 := F3.out (hall 3 (by decide))
          have f4 := F4.out (hall 4 (by decide))
          have f5 := F5.out (hall 5 (by decide))
          have f6 := F6.out (hall 6 (by decide))
          have f7 := F7.out (hall 7 (by decide))
          have f8 := F8.out (hall 8 (by decide))
          have f9 := F9.out (hall 9 (by decide))
          clear hIa HI F0 F1 F2 F3 F4 F5 F6 F7 F8 F9
          show K9 _ _
          apply hK9
          clear hK9 K9
          have fz := f9
          have HP2 : Hid (Below w.heap.size w wx ∧ L2 w wx za zb (xs.take k ++ [y]) (xs.take k ++ [y])) := ⟨HS.out, _, _, E1.out, fz⟩
          generalize wx = w9 at HP2 ⊢
          clear fz HS E0 E1 E2 f0 f1 f2 f3 f4 f5 f6 f7 f8 f9
          go_wp2_with fail
          go_roundw
          case rel =>
            have e1 : xs.take k ++ [y] = xs.take (k + 1) := by rw [← HY.out]; exact take_nvQ xs k (by rw [HN.out]; exact hlt)
            have h2 := HP2.out.2
            rw [e1] at h2
            refine ⟨k + 1, by omega, by go_num, fun j hj => ?_, h2, HP2.out.1⟩
            by_cases e : j = k
            · subst e; rw [HY.out]; exact ⟨HNy.out, HSy.out⟩
            · exact HA.out j (by omega)
          case measure => simp [intOf]; omega
    · have ek : k = n := by omega
      subst ek
      have e0 : xs.take k = xs := List.take_of_length_le (by rw [HN.out]; omega)
      rw [e0] at HSa HSb
      have HL0 : Hid (L2 w wr za zb (xs.drop 0) (xs.take (k - 0))) := ⟨va, vb, by rw [List.drop_zero]; exact HSa.out, by rw [Nat.sub_zero, e0]; exact HSb.out⟩
      have HBw : Hid (Below w.heap.size w wr) := HB.out
      have hk40 : k ≤ 40 := by omega
      clear e0 HSa HSb HB hk hlt
      go_wp2_with fail
      go_loopw [68] (fun i wr => ∃ r : Nat, r ≤ k + 1 ∧ i = .int .i64 (r : Int) ∧ L2 w wr za zb (xs.drop r) (xs.take (k - r)) ∧ Below w.heap.size w wr) (fun i wr => k + 1 - (intOf i).toNat)
      case atStart => exact ⟨0, by omega, rfl, HL0.out, HBw.out⟩
      case round =>
        obtain ⟨r, hr, rfl, ⟨va, vb, hsa, hsb⟩, hbw⟩ := hrel
        have HSa : Hid (Hq 5 w wr za va (xs.drop r)) := hsa
        have HSb : Hid (Hq 6 w wr zb vb (xs.take (k - r))) := hsb
        have HB : Hid (Below w.heap.size w wr) := hbw
        clear hsa hsb hbw HL0 HBw
        by_cases hlt : r < k + 1
        · have hlt' : (r : Int) < (k : Int) + 1 := by omega
          have hrm : (r : Int) + 1 ≤ 9223372036854775807 := by omega
          have T := two_laid wr (encV noV) (encV noV) 25 25
          have HSa2 : Hid (Hq 5 w ((wr.alloc (.cells (encV noV).toArray 25)).alloc (.cells (encV noV).toArray 25)) za va (xs.drop r)) := HSa.out.later T.2.2
          have HSb2 : Hid (Hq 6 w ((wr.alloc (.cells (encV noV).toArray 25)).alloc (.cells (encV noV).toArray 25)) zb vb (xs.take (k - r))) := HSb.out.later T.2.2
          have HX2 : Hid (Blk ((wr.alloc (.cells (encV noV).toArray 25)).alloc (.cells (encV noV).toArray 25)) wr.heap.size (encV noV) 25) := T.1
          have HY2 : Hid (Blk ((wr.alloc (.cells (encV noV).toArray 25)).alloc (.cells (encV noV).toArray 25)) (wr.heap.size + 1) (encV noV) 25) := T.2.1
          have HB2 : Hid (Below w.heap.size w ((wr.alloc (.cells (encV noV).toArray 25)).alloc (.cells (encV noV).toArray 25))) := below_next HB.out T.2.2
          have HOff : Hid ((∀ g, va.ownBlock = some g → g < wr.heap.size) ∧ (∀ g, vb.ownBlock = some g → g < wr.heap.size)) := ⟨fun g hg => (HSa.out.l.lt g hg).2, fun g hg => (HSb.out.l.lt g hg).2⟩
          have HZs : Hid (za < wr.heap.size ∧ zb < wr.heap.size) := ⟨HSa.out.s.lt, HSb.out.s.lt⟩
          clear T HSa HSb HB
          go_upto_region 19 with fail
          change Code.wp _ _ _ _ ((wr.alloc (.cells (encV noV).toArray 25)).alloc (.cells (encV noV).toArray 25))
          obtain ⟨qx, hqx⟩ : ∃ q, wr.heap.size = q := ⟨_, rfl⟩
          obtain ⟨qy, hqy⟩ : ∃ q, q = qx + 1 := ⟨_, rfl⟩
          have HXY : Hid (qx < qy) := (by omega : qx < qy)
          rw [hqx] at HX2 HY2 HOff HZs
          rw [← hqy] at HY2
          generalize (wr.alloc (.cells (encV noV).toArray 25)).alloc (.cells (encV noV).toArray 25) = w6 at HSa2 HSb2 HX2 HY2 HB2 ⊢
          simp only [hqx, ← hqy]
          clear hqx hqy
          rename_i K6 hK6 K9 hK9 K7 hK7
          have tail : ∀ (w' : World) (x1 y1 : Val), Blk w' qx (encV x1) 25 → Blk w' qy (encV y1) 25 → topQ 5 (xs.drop r) = x1 → topQ 6 (xs.take (k - r)) = y1 → Hq 5 w w' za va (xs.drop r) → Hq 6 w w' zb vb (xs.take (k - r)) → Below w.heap.size w w' → ∀ t73 t74 t75 t76 t77 t78 t79 t80 t81 t82 t83 t84 t85 t86 t87 t88 : Value, K9 ⟨#[Value.slice a k c, undef, u2, Value.pointer (some ⟨za, 0, none⟩), Value.bool true, Value.pointer (some ⟨zb, 0, none⟩), Value.bool true, undef, u8, Value.int .i64 (r : Int), Value.pointer (some ⟨qx, 0, none⟩), Value.pointer (some ⟨qy, 0, none⟩), u12, u13, u14, u15, u16, u17, Value.bool true, Value.bool false, Value.slice a k c, Value.int .i64 (k : Int), Value.bool (decide (40 < (k : Int))), Value.tuple #[Value.agg #[Value.int .i64 5, Value.int .i64 0, Value.int .i64 0, Value.string noB, Value.int .i64 0, nilS], Value.bool true], Value.tuple #[Value.agg #[Value.int .i64 5, Value.int .i64 0, Value.int .i64 0, Value.string noB, Value.int .i64 0, nilS], Value.bool true], Value.agg #[Value.int .i64 5, Value.int .i64 0, Value.int .i64 0, Value.string noB, Value.int .i64 0, nilS], Value.bool true, Value.tuple #[Value.agg #[Value.int .i64 6, Value.int .i64 0, Value.int .i64 0, Value.string noB, Value.int .i64 0, nilS], Value.bool true], Value.tuple #[Value.agg #[Value.int .i64 6, Value.int .i64 0, Value.int .i64 0, Value.string noB, Value.int .i64 0, nilS], Value.bool true], Value.agg #[Value.int .i64 6, Value.int .i64 0, Value.int .i64 0, Value.string noB, Value.int .i64 0, nilS], Value.bool true, Value.slice a k c, Value.int .i64 (k : Int), Value.int .i64 (k : Int), Value.bool false, u35, u36, u37, u38, u39, u40, u41, u42, u43, u44, u45, u46, u47, u48, u49, u50, u51, u52, u53, u54, u55, u56, u57, u58, u59, u60, u61, u62, u63, u64, Value.slice a k c, Value.int .i64 (k : Int), Value.int .i64 ((k : Int) + 1), Value.int .i64 (r : Int), Value.bool true, Value.int .i64 (r : Int), Value.agg #[Value.int .i64 0, Value.int .i64 0, Value.string ⟨#[]⟩], Value.agg #[Value.int .i64 0, Value.int .i64 0, Value.string ⟨#[]⟩], t73, t74, t75, t76, t77, t78, t79, t80, t81, t82, t83, t84, t85, t86, t87, t88, u89, u90, u91, u92, u93, u94, u95, u96, u97, u98, u99, u100, u101, u102, u103, u104, u105, u106, u107, u108, u109, u110, u111, u112, u113, u114, u115, u116, u117, u118, u119, u120, u121, u122, u123, u124, u125, undef, undef, undef, undef, undef, undef, undef, undef, undef, undef], []⟩ w' := by
            intro w7 x1 y1 HX7 HY7 hx1 hy1 hsa hsb hb7 t73 t74 t75 t76 t77 t78 t79 t80 t81 t82 t83 t84 t85 t86 t87 t88
            apply hK9
            clear hK7 K7 hK9 K9 HSa2 HSb2 HX2 HY2 HB2
            have HX1 : Hid (topQ 5 (xs.drop r) = x1) := hx1
            have HY1 : Hid (topQ 6 (xs.take (k - r)) = y1) := hy1
            have HP7 : Hid (Below w.heap.size w w7 ∧ Hq 5 w w7 za va (xs.drop r)) := ⟨hb7, hsa⟩
            have HSb7 : Hid (Hq 6 w w7 zb vb (xs.take (k - r))) := hsb
            have HXb : Hid (Blk w7 qx (encV x1) 25) := HX7
            have HYb : Hid (Blk w7 qy (encV y1) 25) := HY7
            have HLt7 : Hid (za < w7.heap.size ∧ zb < w7.heap.size ∧ qx < w7.heap.size ∧ qy < w7.heap.size) := ⟨hsa.s.lt, hsb.s.lt, HX7.lt, HY7.lt⟩
            have HLd : Hid ((xs.drop r).length ≤ 1000 ∧ (xs.take (k - r)).length ≤ 1000) := ⟨by rw [List.length_drop, HN.out]; omega, by rw [List.length_take, HN.out]; omega⟩
            clear hx1 hy1 hsa hsb hb7 HX7 HY7
            go_wp2_with fail
            rename_i K9 hK9
            have HZ9 : Hid (za < w7.heap.size) := HLt7.out.1
            obtain ⟨I, hI⟩ : ∃ I : (Nat → Bool) → Act → World → Prop, ∀ L act wx, I L act wx ↔ (fun (L : Nat → Bool) (act : Act) (wx : World) => ∃ (t90 : Value) (t91 : Value) (t92 : Value) (t89 : Value) (t93 : Value) (t94 : Value) (t95 : Value) (t12 : Value) (t13 : Value) (t14 : Value) (al9 : Option Addr) (cl9 : Nat) (nl9 : Nat) (vo9 : Value) (q9 : Nat), act = ⟨#[Value.slice a k c, undef, u2, Value.pointer (some ⟨za, 0, none⟩), Value.bool true, Value.pointer (some ⟨zb, 0, none⟩), Value.bool true, undef, u8, Value.int .i64 (r : Int), Value.pointer (some ⟨qx, 0, none⟩), Value.pointer (some ⟨qy, 0, none⟩), t12, t13, t14, u15, u16, u17, Value.bool true, Value.bool false, Value.slice a k c, Value.int .i64 (k : Int), Value.bool (decide (40 < (k : Int))), Value.tuple #[Value.agg #[Value.int .i64 5, Value.int .i64 0, Value.int .i64 0, Value.string noB, Value.int .i64 0, nilS], Value.bool true], Value.tuple #[Value.agg #[Value.int .i64 5, Value.int .i64 0, Value.int .i64 0, Value.string noB, Value.int .i64 0, nilS], Value.bool true], Value.agg #[Value.int .i64 5, Value.int .i64 0, Value.int .i64 0, Value.string noB, Value.int .i64 0, nilS], Value.bool true, Value.tuple #[Value.agg #[Value.int .i64 6, Value.int .i64 0, Value.int .i64 0, Value.string noB, Value.int .i64 0, nilS], Value.bool true], Value.tuple #[Value.agg #[Value.int .i64 6, Value.int .i64 0, Value.int .i64 0, Value.string noB, Value.int .i64 0, nilS], Value.bool true], Value.agg #[Value.int .i64 6, Value.int .i64 0, Value.int .i64 0, Value.string noB, Value.int .i64 0, nilS], Value.bool true, Value.slice a k c, Value.int .i64 (k : Int), Value.int .i64 (k : Int), Value.bool false, u35, u36, u37, u38, u39, u40, u41, u42, u43, u44, u45, u46, u47, u48, u49, u50, u51, u52, u53, u54, u55, u56, u57, u58, u59, u60, u61, u62, u63, u64, Value.slice a k c, Value.int .i64 (k : Int), Value.int .i64 ((k : Int) + 1), Value.int .i64 (r : Int), Value.bool true, Value.int .i64 (r : Int), Value.agg #[Value.int .i64 0, Value.int .i64 0, Value.string ⟨#[]⟩], Value.agg #[Value.int .i64 0, Value.int .i64 0, Value.string ⟨#[]⟩], t73, t74, t75, t76, t77, t78, t79, t80, t81, t82, t83, t84, t85, t86, t87, t88, t89, t90, t91, t92, t93, t94, t95, u96, u97, u98, u99, u100, u101, u102, u103, u104, u105, u106, u107, u108, u109, u110, u111, u112, u113, u114, u115, u116, u117, u118, u119, u120, u121, u122, u123, u124, u125, undef, undef, undef, undef, undef, undef, undef, undef, undef, undef], []⟩ ∧ Hid (StW w wx) ∧ Hid (Hq 5 w wx za va (xs.drop r)) ∧ Hid (L 7 = true → L 8 = false → Blk wx q9 (stC 0 noV nilS) 28) ∧ Hid (Stay w7 wx) ∧ Hid (Hq 6 w wx zb vb (xs.take (k - r))) ∧ Hid (Blk wx qx (encV x1) 25) ∧ Hid (Blk wx qy (encV y1) 25) ∧ Hid (L 0 = true → t90 = .agg #[.int .i64 5, .int .i64 0, .int .i64 0, .string noB, .int .i64 0, va]) ∧ Hid (L 1 = true → t91 = .agg #[.int .i64 1, .int .i64 1, .string noB]) ∧ Hid (L 2 = true → t92 = .tuple #[.agg (stC 5 noV (.slice al9 nl9 cl9)).toArray, vo9, .bool true] ∧ OwnV wx w.heap.size vo9 [topQ 5 (xs.drop r)] ∧ HeldV wx w.heap.size (.slice al9 nl9 cl9) (popQ 5 (xs.drop r))) ∧ Hid (L 3 = true → t89 = .tuple #[.agg (stC 5 noV (.slice al9 nl9 cl9)).toArray, vo9, .bool true]) ∧ Hid (L 4 = true → t93 = .agg (stC 5 noV (.slice al9 nl9 cl9)).toArray) ∧ Hid (L 5 = true → t94 = vo9) ∧ Hid (L 6 = true → t95 = .bool true) ∧ Hid (L 7 = true → t12 = .pointer (some ⟨q9, 0, none⟩) ∧ w.heap.size ≤ q9 ∧ w7.heap.size ≤ q9) ∧ Hid (L 8 = true → Hq 5 w wx q9 (.slice al9 nl9 cl9) (popQ 5 (xs.drop r))) ∧ Hid (L 9 = true → t13 = vo9) ∧ Hid (L 10 = true → t14 = .bool true)) L act wx := ⟨_, fun _ _ _ => Iff.rfl⟩
            dsimp only at hI
            have HI : Hid (∀ L act wx, I L act wx ↔ _) := hI
            clear hI
            refine wp_region_inv mixed [[], [], [0, 1], [0, 1, 2], [0, 1, 2, 3], [0, 1, 2, 3], [0, 1, 2, 3], [], [0, 1, 2, 3, 4, 7], [0, 1, 2, 3, 4, 5, 7, 8], [0, 1, 2, 3, 4, 6, 7, 8]] (by kernel_rfl) I ?_ ?_ ?_
            · refine (HI.out _ _ _).2 ⟨_, _, _, _, _, _, _, _, _, _, none, 0, 0, undef, 0, rfl, ?_, ?_, ?_, ?_, ?_, ?_, ?_, fun h => Bool.noConfusion h, fun h => Bool.noConfusion h, fun h => Bool.noConfusion h, fun h => Bool.noConfusion h, fun h => Bool.noConfusion h, fun h => Bool.noConfusion h, fun h => Bool.noConfusion h, fun h => Bool.noConfusion h, fun h => Bool.noConfusion h, fun h => Bool.noConfusion h, fun h => Bool.noConfusion h⟩
              · exact below_next HP7.out.1 (Stay.drew _)
              · exact HP7.out.2.later (Stay.drew _)
              · exact fun h => Bool.noConfusion h
              · exact Stay.drew _
              · exact HSb7.out.later (Stay.drew _)
              · exact HXb.out.later (Stay.drew _)
              · exact HYb.out.later (Stay.drew _)
            · intro i hi L act wx hIa hLi hcl hanc
              obtain ⟨t90, t91, t92, t89, t93, t94, t95, t12, t13, t14, al9, cl9, nl9, vo9, q9, rfl, HS, E0, E1, E2, E3, E4, E5, F0, F1, F2, F3, F4, F5, F6, F7, F8, F9, F10⟩ := (HI.out _ _ _).1 hIa
              clear hIa
              have hi' : i = 0 ∨ i = 1 ∨ i = 2 ∨ i = 3 ∨ i = 4 ∨ i = 5 ∨ i = 6 ∨ i = 7 ∨ i = 8 ∨ i = 9 ∨ i = 10 := by have hi : i < 11 := hi; omega
              clear hi
              rcases hi' with rfl | rfl | rfl | rfl | rfl | rfl | rfl | rfl | rfl | rfl | rfl
              · have hz := E0.out
                refine wpOp_doG 0 (by rfl) (by rfl) ?_
                refine wp_load_mid 28 (.tmp 3) rfl za 0 rfl (stC 5 noV va) _ (Blk.all hz.s) Tryd.underlying28 rfl infoSt ?_
                simp only [Act.put, List.setIfInBounds_toArray, List.set_cons_zero, List.set_cons_succ]
                have hb : Below wx.heap.size wx wx := Below.refl _ _
                show I (putL L 0) _ _
                exact (HI.out (putL L 0) _ _).2 ⟨_, _, _, _, _, _, _, _, _, _, al9, cl9, nl9, vo9, q9, rfl, HS.out.later hb, E0.out.later hb, fun h h' => (E1.out ((putL_ne (i := 0) (by decide)).symm.trans h) ((putL_ne (i := 0) (by decide)).symm.trans h')).later hb, below_next E2.out hb, E3.out.later hb, E4.out.later hb, E5.out.later hb, fun _ => rfl, fun h => (by first | exact F1.out ((putL_ne (i := 0) (by decide)).symm.trans h) | rfl), fun h => absurd (hcl 2 ((putL_ne (i := 0) (by decide)).symm.trans h) 0 (by decide)) (by rw [hLi]; decide), fun h => absurd (hcl 3 ((putL_ne (i := 0) (by decide)).symm.trans h) 0 (by decide)) (by rw [hLi]; decide), fun h => absurd (hcl 4 ((putL_ne (i := 0) (by decide)).symm.trans h) 0 (by decide)) (by rw [hLi]; decide), fun h => absurd (hcl 5 ((putL_ne (i := 0) (by decide)).symm.trans h) 0 (by decide)) (by rw [hLi]; decide), fun h => absurd (hcl 6 ((putL_ne (i := 0) (by decide)).symm.trans h) 0 (by decide)) (by rw [hLi]; decide), fun h => (by first | exact F7.out ((putL_ne (i := 0) (by decide)).symm.trans h) | rfl), fun h => absurd (hcl 8 ((putL_ne (i := 0) (by decide)).symm.trans h) 0 (by decide)) (by rw [hLi]; decide), fun h => absurd (hcl 9 ((putL_ne (i := 0) (by decide)).symm.trans h) 0 (by decide)) (by rw [hLi]; decide), fun h => absurd (hcl 10 ((putL_ne (i := 0) (by decide)).symm.trans h) 0 (by decide)) (by rw [hLi]; decide)⟩
              · refine wpOp_doG 1 (by rfl) (by rfl) ?_
                go_wp2_with fail
                refine (num_any 1 wx).mono ?_
                rintro e wn ⟨rfl, hb⟩
                show I (putL L 1) _ _
                exact (HI.out (putL L 1) _ _).2 ⟨_, _, _, _, _, _, _, _, _, _, al9, cl9, nl9, vo9, q9, rfl, HS.out.later hb, E0.out.later hb, fun h h' => (E1.out ((putL_ne (i := 1) (by decide)).symm.trans h) ((putL_ne (i := 1) (by decide)).symm.trans h')).later hb, below_next E2.out hb, E3.out.later hb, E4.out.later hb, E5.out.later hb, fun h => (by first | exact F0.out ((putL_ne (i := 1) (by decide)).symm.trans h) | rfl), fun _ => rfl, fun h => absurd (hcl 2 ((putL_ne (i := 1) (by decide)).symm.trans h) 1 (by decide)) (by rw [hLi]; decide), fun h => absurd (hcl 3 ((putL_ne (i := 1) (by decide)).symm.trans h) 1 (by decide)) (by rw [hLi]; decide), fun h => absurd (hcl 4 ((putL_ne (i := 1) (by decide)).symm.trans h) 1 (by decide)) (by rw [hLi]; decide), fun h => absurd (hcl 5 ((putL_ne (i := 1) (by decide)).symm.trans h) 1 (by decide)) (by rw [hLi]; decide), fun h => absurd (hcl 6 ((putL_ne (i := 1) (by decide)).symm.trans h) 1 (by decide)) (by rw [hLi]; decide), fun h => (by first | exact F7.out ((putL_ne (i := 1) (by decide)).symm.trans h) | rfl), fun h => absurd (hcl 8 ((putL_ne (i := 1) (by decide)).symm.trans h) 1 (by decide)) (by rw [hLi]; decide), fun h => absurd (hcl 9 ((putL_ne (i := 1) (by decide)).symm.trans h) 1 (by decide)) (by rw [hLi]; decide), fun h => absurd (hcl 10 ((putL_ne (i := 1) (by decide)).symm.trans h) 1 (by decide)) (by rw [hLi]; decide)⟩
              · have f0 := F0.out (hanc 0 (by decide))
                have f1 := F1.out (hanc 1 (by decide))
                have hz := E0.out
                have g0 := f0
                have g1 := f1
                subst g0 g1
                refine wpOp_doG 2 (by rfl) (by rfl) ?_
                go_wp2_with fail
                refine (HK.out.yes 5 w.heap.size (vN 1) va (xs.drop r) 10 (.slice none 0 0) [] wx HM5.out HS.out.size (HT.out.later HS.out) hz.l HLd.out.1 (vsl_nil0 _) sz0 (Nat.zero_le _) (may_pop HM5.out)).mono ?_
                rintro e wn ⟨vo, vl9, rfl, ho9, hl9, -, hb⟩
                have ho9 := ho9.base HS.out.size
                rw [nx_pop] at hl9
                rw [ou_pop] at ho9
                obtain ⟨al8, cl8, hf9⟩ := hl9.form
                obtain ⟨nl8, hn9⟩ : ∃ nl8, ((popQ 5 (xs.drop r))).length = nl8 := ⟨_, rfl⟩
                rw [hn9] at hf9
                subst hf9
                clear hn9
                show I (putL L 2) _ _
                exact (HI.out (putL L 2) _ _).2 ⟨_, _, _, _, _, _, _, _, _, _, al8, cl8, nl8, vo, q9, rfl, HS.out.later hb, E0.out.later hb, fun h h' => (E1.out ((putL_ne (i := 2) (by decide)).symm.trans h) ((putL_ne (i := 2) (by decide)).symm.trans h')).later hb, below_next E2.out hb, E3.out.later hb, E4.out.later hb, E5.out.later hb, fun h => (by first | exact F0.out ((putL_ne (i := 2) (by decide)).symm.trans h) | rfl), fun h => (by first | exact F1.out ((putL_ne (i := 2) (by decide)).symm.trans h) | rfl), fun _ => ⟨rfl, ho9, hl9⟩, fun h => absurd (hcl 3 ((putL_ne (i := 2) (by decide)).symm.trans h) 2 (by decide)) (by rw [hLi]; decide), fun h => absurd (hcl 4 ((putL_ne (i := 2) (by decide)).symm.trans h) 2 (by decide)) (by rw [hLi]; decide), fun h => absurd (hcl 5 ((putL_ne (i := 2) (by decide)).symm.trans h) 2 (by decide)) (by rw [hLi]; decide), fun h => absurd (hcl 6 ((putL_ne (i := 2) (by decide)).symm.trans h) 2 (by decide)) (by rw [hLi]; decide), fun h => (by first | exact F7.out ((putL_ne (i := 2) (by decide)).symm.trans h) | rfl), fun h => absurd (hcl 8 ((putL_ne (i := 2) (by decide)).symm.trans h) 2 (by decide)) (by rw [hLi]; decide), fun h => absurd (hcl 9 ((putL_ne (i := 2) (by decide)).symm.trans h) 2 (by decide)) (by rw [hLi]; decide), fun h => absurd (hcl 10 ((putL_ne (i := 2) (by decide)).symm.trans h) 2 (by decide)) (by rw [hLi]; decide)⟩
              · have f0 := F0.out (hanc 0 (by decide))
                have f1 := F1.out (hanc 1 (by decide))
                have f2 := F2.out (hanc 2 (by decide))
                have f := f2.1
                subst f
                refine YieldsIf.wpOp (S := fun _ => True) (v := .tuple #[.agg (stC 5 noV (.slice al9 nl9 cl9)).toArray, vo9, .bool true]) (by rfl) (.inl ⟨rfl, fun w _ => rfl⟩) trivial ?_
                simp only [Act.put, List.setIfInBounds_toArray, List.set_cons_zero, List.set_cons_succ]
                have hb : Below wx.heap.size wx wx := Below.refl _ _
                show I (putL L 3) _ _
                exact (HI.out (putL L 3) _ _).2 ⟨_, _, _, _, _, _, _, _, _, _, al9, cl9, nl9, vo9, q9, rfl, HS.out.later hb, E0.out.later hb, fun h h' => (E1.out ((putL_ne (i := 3) (by decide)).symm.trans h) ((putL_ne (i := 3) (by decide)).symm.trans h')).later hb, below_next E2.out hb, E3.out.later hb, E4.out.later hb, E5.out.later hb, fun h => (by first | exact F0.out ((putL_ne (i := 3) (by decide)).symm.trans h) | rfl), fun h => (by first | exact F1.out ((putL_ne (i := 3) (by decide)).symm.trans h) | rfl), fun h => (fun q => ⟨q.1, q.2.1.later hb, q.2.2.later hb⟩) (F2.out ((putL_ne (i := 3) (by decide)).symm.trans h)), fun _ => rfl, fun h => absurd (hcl 4 ((putL_ne (i := 3) (by decide)).symm.trans h) 3 (by decide)) (by rw [hLi]; decide), fun h => absurd (hcl 5 ((putL_ne (i := 3) (by decide)).symm.trans h) 3 (by decide)) (by rw [hLi]; decide), fun h => absurd (hcl 6 ((putL_ne (i := 3) (by decide)).symm.trans h) 3 (by decide)) (by rw [hLi]; decide), fun h => (by first | exact F7.out ((putL_ne (i := 3) (by decide)).symm.trans h) | rfl), fun h => absurd (hcl 8 ((putL_ne (i := 3) (by decide)).symm.trans h) 3 (by decide)) (by rw [hLi]; decide), fun h => absurd (hcl 9 ((putL_ne (i := 3) (by decide)).symm.trans h) 3 (by decide)) (by rw [hLi]; decide), fun h => absurd (hcl 10 ((putL_ne (i := 3) (by decide)).symm.trans h) 3 (by decide)) (by rw [hLi]; decide)⟩
              · have f0 := F0.out (hanc 0 (by decide))
                have f1 := F1.out (hanc 1 (by decide))
                have f2 := F2.out (hanc 2 (by decide))
                have f3 := F3.out (hanc 3 (by decide))
                have f := f3
                subst f
                refine YieldsIf.wpOp (S := fun _ => True) (v := .agg (stC 5 noV (.slice al9 nl9 cl9)).toArray) (by rfl) (.inl ⟨rfl, fun w _ => by go_simp⟩) trivial ?_
                simp only [Act.put, List.setIfInBounds_toArray, List.set_cons_zero, List.set_cons_succ]
                have hb : Below wx.heap.size wx wx := Below.refl _ _
                show I (putL L 4) _ _
                exact (HI.out (putL L 4) _ _).2 ⟨_, _, _, _, _, _, _, _, _, _, al9, cl9, nl9, vo9, q9, rfl, HS.out.later hb, E0.out.later hb, fun h h' => (E1.out ((putL_ne (i := 4) (by decide)).symm.trans h) ((putL_ne (i := 4) (by decide)).symm.trans h')).later hb, below_next E2.out hb, E3.out.later hb, E4.out.later hb, E5.out.later hb, fun h => (by first | exact F0.out ((putL_ne (i := 4) (by decide)).symm.trans h) | rfl), fun h => (by first | exact F1.out ((putL_ne (i := 4) (by decide)).symm.trans h) | rfl), fun h => (fun q => ⟨q.1, q.2.1.later hb, q.2.2.later hb⟩) (F2.out ((putL_ne (i := 4) (by decide)).symm.trans h)), fun h => (by first | exact F3.out ((putL_ne (i := 4) (by decide)).symm.trans h) | rfl), fun _ => rfl, fun h => (by first | exact F5.out ((putL_ne (i := 4) (by decide)).symm.trans h) | rfl), fun h => (by first | exact F6.out ((putL_ne (i := 4) (by decide)).symm.trans h) | rfl), fun h => (by first | exact F7.out ((putL_ne (i := 4) (by decide)).symm.trans h) | rfl), fun h => absurd (hcl 8 ((putL_ne (i := 4) (by decide)).symm.trans h) 4 (by decide)) (by rw [hLi]; decide), fun h => absurd (hcl 9 ((putL_ne (i := 4) (by decide)).symm.trans h) 4 (by decide)) (by rw [hLi]; decide), fun h => absurd (hcl 10 ((putL_ne (i := 4) (by decide)).symm.trans h) 4 (by decide)) (by rw [hLi]; decide)⟩
              · have f0 := F0.out (hanc 0 (by decide))
                have f1 := F1.out (hanc 1 (by decide))
                have f2 := F2.out (hanc 2 (by decide))
                have f3 := F3.out (hanc 3 (by decide))
                have f := f3
                subst f
                refine YieldsIf.wpOp (S := fun _ => True) (v := vo9) (by rfl) (.inl ⟨rfl, fun w _ => by go_simp⟩) trivial ?_
                simp only [Act.put, List.setIfInBounds_toArray, List.set_cons_zero, List.set_cons_succ]
                have hb : Below wx.heap.size wx wx := Below.refl _ _
                show I (putL L 5) _ _
                exact (HI.out (putL L 5) _ _).2 ⟨_, _, _, _, _, _, _, _, _, _, al9, cl9, nl9, vo9, q9, rfl, HS.out.later hb, E0.out.later hb, fun h h' => (E1.out ((putL_ne (i := 5) (by decide)).symm.trans h) ((putL_ne (i := 5) (by decide)).symm.trans h')).later hb, below_next E2.out hb, E3.out.later hb, E4.out.later hb, E5.out.later hb, fun h => (by first | exact F0.out ((putL_ne (i := 5) (by decide)).symm.trans h) | rfl), fun h => (by first | exact F1.out ((putL_ne (i := 5) (by decide)).symm.trans h) | rfl), fun h => (fun q => ⟨q.1, q.2.1.later hb, q.2.2.later hb⟩) (F2.out ((putL_ne (i := 5) (by decide)).symm.trans h)), fun h => (by first | exact F3.out ((putL_ne (i := 5) (by decide)).symm.trans h) | rfl), fun h => (by first | exact F4.out ((putL_ne (i := 5) (by decide)).symm.trans h) | rfl), fun _ => rfl, fun h => (by first | exact F6.out ((putL_ne (i := 5) (by decide)).symm.trans h) | rfl), fun h => (by first | exact F7.out ((putL_ne (i := 5) (by decide)).symm.trans h) | rfl), fun h => (fun q => q.later hb) (F8.out ((putL_ne (i := 5) (by decide)).symm.trans h)), fun h => absurd (hcl 9 ((putL_ne (i := 5) (by decide)).symm.trans h) 5 (by decide)) (by rw [hLi]; decide), fun h => (by first | exact F10.out ((putL_ne (i := 5) (by decide)).symm.trans h) | rfl)⟩
              · have f0 := F0.out (hanc 0 (by decide))
                have f1 := F1.out (hanc 1 (by decide))
                have f2 := F2.out (hanc 2 (by decide))
                have f3 := F3.out (hanc 3 (by decide))
                have f := f3
                subst f
                refine YieldsIf.wpOp (S := fun _ => True) (v := .bool true) (by rfl) (.inl ⟨rfl, fun w _ => by go_simp⟩) trivial ?_
                simp only [Act.put, List.setIfInBounds_toArray, List.set_cons_zero, List.set_cons_succ]
                have hb : Below wx.heap.size wx wx := Below.refl _ _
                show I (putL L 6) _ _
                exact (HI.out (putL L 6) _ _).2 ⟨_, _, _, _, _, _, _, _, _, _, al9, cl9, nl9, vo9, q9, rfl, HS.out.later hb, E0.out.later hb, fun h h' => (E1.out ((putL_ne (i := 6) (by decide)).symm.trans h) ((putL_ne (i := 6) (by decide)).symm.trans h')).later hb, below_next E2.out hb, E3.out.later hb, E4.out.later hb, E5.out.later hb, fun h => (by first | exact F0.out ((putL_ne (i := 6) (by decide)).symm.trans h) | rfl), fun h => (by first | exact F1.out ((putL_ne (i := 6) (by decide)).symm.trans h) | rfl), fun h => (fun q => ⟨q.1, q.2.1.later hb, q.2.2.later hb⟩) (F2.out ((putL_ne (i := 6) (by decide)).symm.trans h)), fun h => (by first | exact F3.out ((putL_ne (i := 6) (by decide)).symm.trans h) | rfl), fun h => (by first | exact F4.out ((putL_ne (i := 6) (by decide)).symm.trans h) | rfl), fun h => (by first | exact F5.out ((putL_ne (i := 6) (by decide)).symm.trans h) | rfl), fun _ => rfl, fun h => (by first | exact F7.out ((putL_ne (i := 6) (by decide)).symm.trans h) | rfl), fun h => (fun q => q.later hb) (F8.out ((putL_ne (i := 6) (by decide)).symm.trans h)), fun h => (by first | exact F9.out ((putL_ne (i := 6) (by decide)).symm.trans h) | rfl), fun h => absurd (hcl 10 ((putL_ne (i := 6) (by decide)).symm.trans h) 6 (by decide)) (by rw [hLi]; decide)⟩
              · refine wpOp_doG 7 (by rfl) (by rfl) ?_
                go_wp2_with fail
                have BO := Blk.new wx (stC 0 noV nilS) 28
                have hb := below_box wx (.cells (stC 0 noV nilS).toArray 28)
                change Blk (wx.alloc (.cells #[.int .i64 0, .int .i64 0, .int .i64 0, .string ⟨#[]⟩, .int .i64 0, .slice none 0 0] 28)) _ _ _ at BO
                change Below _ wx (wx.alloc (.cells #[.int .i64 0, .int .i64 0, .int .i64 0, .string ⟨#[]⟩, .int .i64 0, .slice none 0 0] 28)) at hb
                show I (putL L 7) _ _
                exact (HI.out (putL L 7) _ _).2 ⟨_, _, _, _, _, _, _, _, _, _, al9, cl9, nl9, vo9, wx.heap.size, rfl, HS.out.later hb, E0.out.later hb, fun _ _ => BO, below_next E2.out hb, E3.out.later hb, E4.out.later hb, E5.out.later hb, fun h => (by first | exact F0.out ((putL_ne (i := 7) (by decide)).symm.trans h) | rfl), fun h => (by first | exact F1.out ((putL_ne (i := 7) (by decide)).symm.trans h) | rfl), fun h => (fun q => ⟨q.1, q.2.1.later hb, q.2.2.later hb⟩) (F2.out ((putL_ne (i := 7) (by decide)).symm.trans h)), fun h => (by first | exact F3.out ((putL_ne (i := 7) (by decide)).symm.trans h) | rfl), fun h => (by first | exact F4.out ((putL_ne (i := 7) (by decide)).symm.trans h) | rfl), fun h => (by first | exact F5.out ((putL_ne (i := 7) (by decide)).symm.trans h) | rfl), fun h => (by first | exact F6.out ((putL_ne (i := 7) (by decide)).symm.trans h) | rfl), fun _ => ⟨rfl, HS.out.size, E2.out.size⟩, fun h => absurd (hcl 8 ((putL_ne (i := 7) (by decide)).symm.trans h) 7 (by decide)) (by rw [hLi]; decide), fun h => absurd (hcl 9 ((putL_ne (i := 7) (by decide)).symm.trans h) 7 (by decide)) (by rw [hLi]; decide), fun h => absurd (hcl 10 ((putL_ne (i := 7) (by decide)).symm.trans h) 7 (by decide)) (by rw [hLi]; decide)⟩
              · have f0 := F0.out (hanc 0 (by decide))
                have f1 := F1.out (hanc 1 (by decide))
                have f2 := F2.out (hanc 2 (by decide))
                have f3 := F3.out (hanc 3 (by decide))
                have f4 := F4.out (hanc 4 (by decide))
                have f7 := F7.out (hanc 7 (by decide))
                have BS := E1.out (hanc 7 (by decide)) hLi
                have f := f4
                subst f
                obtain ⟨fa, hq9⟩ := f7
                subst fa
                refine wpOp_doG 8 (by rfl) (by rfl) ?_
                refine wpo_storeB 28 (.tmp 12) (.tmp 93) q9 0 (stC 5 noV (.slice al9 nl9 cl9)) (stC 0 noV nilS) 28 infoSt (show 0 + 6 ≤ 6 by decide) (stC_one _ _ rfl) rfl rfl rfl BS ?_
                intro wn BP ho
                replace BP : Blk wn q9 (stC 5 noV (.slice al9 nl9 cl9)) 28 := BP
                simp only [Act.put, List.setIfInBounds_toArray, List.set_cons_zero, List.set_cons_succ]
                show I (putL L 8) _ _
                exact (HI.out (putL L 8) _ _).2 ⟨_, _, _, _, _, _, _, _, _, _, al9, cl9, nl9, vo9, q9, rfl, below_oth HS.out ho hq9.1 hq9.1 HS.out.size, E0.out.oth ho BS (by have := HZ9.out; have := hq9.2; omega), fun _ h => (by rw [putL_self] at h; cases h), below_oth E2.out ho hq9.2 hq9.2 E2.out.size, E3.out.oth ho BS (by have := HLt7.out; have := hq9.2; omega), E4.out.oth ho (by have := HLt7.out; have := hq9.2; omega) (by have := HLt7.out; have := hq9.2; omega), E5.out.oth ho (by have := HLt7.out; have := hq9.2; omega) (by have := HLt7.out; have := hq9.2; omega), fun h => (by first | exact F0.out ((putL_ne (i := 8) (by decide)).symm.trans h) | rfl), fun h => (by first | exact F1.out ((putL_ne (i := 8) (by decide)).symm.trans h) | rfl), fun h => (fun q => ⟨q.1, q.2.1.oth ho BS (by decide), q.2.2.oth ho BS (by decide)⟩) (F2.out ((putL_ne (i := 8) (by decide)).symm.trans h)), fun h => (by first | exact F3.out ((putL_ne (i := 8) (by decide)).symm.trans h) | rfl), fun h => (by first | exact F4.out ((putL_ne (i := 8) (by decide)).symm.trans h) | rfl), fun h => (by first | exact F5.out ((putL_ne (i := 8) (by decide)).symm.trans h) | rfl), fun h => (by first | exact F6.out ((putL_ne (i := 8) (by decide)).symm.trans h) | rfl), fun h => (by first | exact F7.out ((putL_ne (i := 8) (by decide)).symm.trans h) | rfl), fun _ => ⟨BP, f2.2.2.oth ho BS (by decide), hq9.1⟩, fun h => absurd (hcl 9 ((putL_ne (i := 8) (by decide)).symm.trans h) 8 (by decide)) (by rw [hLi]; decide), fun h => absurd (hcl 10 ((putL_ne (i := 8) (by decide)).symm.trans h) 8 (by decide)) (by rw [hLi]; decide)⟩
              · have f0 := F0.out (hanc 0 (by decide))
                have f1 := F1.out (hanc 1 (by decide))
                have f2 := F2.out (hanc 2 (by decide))
                have f3 := F3.out (hanc 3 (by decide))
                have f4 := F4.out (hanc 4 (by decide))
                have f5 := F5.out (hanc 5 (by decide))
                have f7 := F7.out (hanc 7 (by decide))
                have f8 := F8.out (hanc 8 (by decide))
                refine YieldsIf.wpOp (S := fun _ => True) (v := t94) (by rfl) (.inl ⟨rfl, fun w _ => rfl⟩) trivial ?_
                simp only [Act.put, List.setIfInBounds_toArray, List.set_cons_zero, List.set_cons_succ]
                have hb : Below wx.heap.size wx wx := Below.refl _ _
                show I (putL L 9) _ _
                exact (HI.out (putL L 9) _ _).2 ⟨_, _, _, _, _, _, _, _, _, _, al9, cl9, nl9, vo9, q9, rfl, HS.out.later hb, E0.out.later hb, fun h h' => (E1.out ((putL_ne (i := 9) (by decide)).symm.trans h) ((putL_ne (i := 9) (by decide)).symm.trans h')).later hb, below_next E2.out hb, E3.out.later hb, E4.out.later hb, E5.out.later hb, fun h => (by first | exact F0.out ((putL_ne (i := 9) (by decide)).symm.trans h) | rfl), fun h => (by first | exact F1.out ((putL_ne (i := 9) (by decide)).symm.trans h) | rfl), fun h => (fun q => ⟨q.1, q.2.1.later hb, q.2.2.later hb⟩) (F2.out ((putL_ne (i := 9) (by decide)).symm.trans h)), fun h => (by first | exact F3.out ((putL_ne (i := 9) (by decide)).symm.trans h) | rfl), fun h => (by first | exact F4.out ((putL_ne (i := 9) (by decide)).symm.trans h) | rfl), fun h => (by first | exact F5.out ((putL_ne (i := 9) (by decide)).symm.trans h) | rfl), fun h => (by first | exact F6.out ((putL_ne (i := 9) (by decide)).symm.trans h) | rfl), fun h => (by first | exact F7.out ((putL_ne (i := 9) (by decide)).symm.trans h) | rfl), fun h => (fun q => q.later hb) (F8.out ((putL_ne (i := 9) (by decide)).symm.trans h)), fun _ => f5, fun h => (by first | exact F10.out ((putL_ne (i := 9) (by decide)).symm.trans h) | rfl)⟩
              · have f0 := F0.out (hanc 0 (by decide))
                have f1 := F1.out (hanc 1 (by decide))
                have f2 := F2.out (hanc 2 (by decide))
                have f3 := F3.out (hanc 3 (by decide))
                have f4 := F4.out (hanc 4 (by decide))
                have f6 := F6.out (hanc 6 (by decide))
                have f7 := F7.out (hanc 7 (by decide))
                have f8 := F8.out (hanc 8 (by decide))
                refine YieldsIf.wpOp (S := fun _ => True) (v := t95) (by rfl) (.inl ⟨rfl, fun w _ => rfl⟩) trivial ?_
                simp only [Act.put, List.setIfInBounds_toArray, List.set_cons_zero, List.set_cons_succ]
                have hb : Below wx.heap.size wx wx := Below.refl _ _
                show I (putL L 10) _ _
                exact (HI.out (putL L 10) _ _).2 ⟨_, _, _, _, _, _, _, _, _, _, al9, cl9, nl9, vo9, q9, rfl, HS.out.later hb, E0.out.later hb, fun h h' => (E1.out ((putL_ne (i := 10) (by decide)).symm.trans h) ((putL_ne (i := 10) (by decide)).symm.trans h')).later hb, below_next E2.out hb, E3.out.later hb, E4.out.later hb, E5.out.later hb, fun h => (by first | exact F0.out ((putL_ne (i := 10) (by decide)).symm.trans h) | rfl), fun h => (by first | exact F1.out ((putL_ne (i := 10) (by decide)).symm.trans h) | rfl), fun h => (fun q => ⟨q.1, q.2.1.later hb, q.2.2.later hb⟩) (F2.out ((putL_ne (i := 10) (by decide)).symm.trans h)), fun h => (by first | exact F3.out ((putL_ne (i := 10) (by decide)).symm.trans h) | rfl), fun h => (by first | exact F4.out ((putL_ne (i := 10) (by decide)).symm.trans h) | rfl), fun h => (by first | exact F5.out ((putL_ne (i := 10) (by decide)).symm.trans h) | rfl), fun h => (by first | exact F6.out ((putL_ne (i := 10) (by decide)).symm.trans h) | rfl), fun h => (by first | exact F7.out ((putL_ne (i := 10) (by decide)).symm.trans h) | rfl), fun h => (fun q => q.later hb) (F8.out ((putL_ne (i := 10) (by decide)).symm.trans h)), fun h => (by first | exact F9.out ((putL_ne (i := 10) (by decide)).symm.trans h) | rfl), fun _ => f6⟩
            · intro L act wx hall hIa
              obtain ⟨t90, t91, t92, t89, t93, t94, t95, t12, t13, t14, al9, cl9, nl9, vo9, q9, rfl, HS, E0, E1, E2, E3, E4, E5, F0, F1, F2, F3, F4, F5, F6, F7, F8, F9, F10⟩ := (HI.out _ _ _).1 hIa
              have f0 := F0.out (hall 0 (by decide))
              have f1 := F1.out (hall 1 (by decide))
              have f2 := F2.out (hall 2 (by decide))
              have f3 := F3.out (hall 3 (by decide))
              have f4 := F4.out (hall 4 (by decide))
              have f5 := F5.out (hall 5 (by decide))
              have f6 := F6.out (hall 6 (by decide))
              have f7 := F7.out (hall 7 (by decide))
              have f8 := F8.out (hall 8 (by decide))
              have f9 := F9.out (hall 9 (by decide))
              have f10 := F10.out (hall 10 (by decide))
              clear hIa HI F0 F1 F2 F3 F4 F5 F6 F7 F8 F9 F10
              show K9 _ _
              apply hK9
              clear hK9 K9
              obtain ⟨vc, hvc⟩ : ∃ v, Value.slice al9 nl9 cl9 = v := ⟨_, rfl⟩
              obtain ⟨qc, hqc⟩ : ∃ q, q = q9 := ⟨_, rfl⟩
              have fz := f8
              rw [hvc] at fz
              have fo := f2.2.1
              have g1 := f9
              rw [← g1] at fo
              have g2 := f10
              have ga := f7.1
              clear hvc
              have fo1 := fo
              have HPa : Hid (Hq 5 w wx za va (xs.drop r)) := E0.out
              have HPc : Hid (Hq 5 w wx q9 vc (popQ 5 (xs.drop r))) := fz
              have HO13 : Hid (OwnV wx w.heap.size t13 [topQ 5 (xs.drop r)]) := fo
              have HP8 : Hid (Below w.heap.size w wx ∧ Hq 6 w wx zb vb (xs.take (k - r))) := ⟨HS.out, E3.out⟩
              have HXb8 : Hid (Blk wx qx (encV x1) 25) := E4.out
              have HYb8 : Hid (Blk wx qy (encV y1) 25) := E5.out
              have HNc : Hid (za ≠ q9 ∧ zb ≠ q9) := (by have h1 := f7.2.2; have h2 := HLt7.out; omega : za ≠ q9 ∧ zb ≠ q9)
              rw [← hqc] at HPc ga HNc
              subst ga g2
              clear fz fo fo1 g1 hqc HXb HYb HSb7 HP7 HS E0 E1 E2 E3 E4 E5 f0 f1 f2 f3 f4 f5 f6 f7 f8 f9 f10
              generalize wx = w8 at HPa HPc HO13 HP8 HXb8 HYb8 ⊢
              have HLt8 : Hid (za < w8.heap.size ∧ zb < w8.heap.size ∧ qx < w8.heap.size ∧ qy < w8.heap.size ∧ qc < w8.heap.size) := ⟨HPa.out.s.lt, HP8.out.2.s.lt, HXb8.out.lt, HYb8.out.lt, HPc.out.s.lt⟩
              clear HLt7
              go_wp2_with fail
              rename_i K9 hK9
              have HZ9 : Hid (zb < w8.heap.size) := HLt8.out.2.1
              obtain ⟨I, hI⟩ : ∃ I : (Nat → Bool) → Act → World → Prop, ∀ L act wx, I L act wx ↔ (fun (L : Nat → Bool) (act : Act) (wx : World) => ∃ (t97 : Value) (t98 : Value) (t99 : Value) (t96 : Value) (t100 : Value) (t101 : Value) (t102 : Value) (t15 : Value) (t16 : Value) (t17 : Value) (al9 : Option Addr) (cl9 : Nat) (nl9 : Nat) (vo9 : Value) (q9 : Nat), act = ⟨#[Value.slice a k c, undef, u2, Value.pointer (some ⟨za, 0, none⟩), Value.bool true, Value.pointer (some ⟨zb, 0, none⟩), Value.bool true, undef, u8, Value.int .i64 (r : Int), Value.pointer (some ⟨qx, 0, none⟩), Value.pointer (some ⟨qy, 0, none⟩), Value.pointer (some ⟨qc, 0, none⟩), t13, Value.bool true, t15, t16, t17, Value.bool true, Value.bool false, Value.slice a k c, Value.int .i64 (k : Int), Value.bool (decide (40 < (k : Int))), Value.tuple #[Value.agg #[Value.int .i64 5, Value.int .i64 0, Value.int .i64 0, Value.string noB, Value.int .i64 0, nilS], Value.bool true], Value.tuple #[Value.agg #[Value.int .i64 5, Value.int .i64 0, Value.int .i64 0, Value.string noB, Value.int .i64 0, nilS], Value.bool true], Value.agg #[Value.int .i64 5, Value.int .i64 0, Value.int .i64 0, Value.string noB, Value.int .i64 0, nilS], Value.bool true, Value.tuple #[Value.agg #[Value.int .i64 6, Value.int .i64 0, Value.int .i64 0, Value.string noB, Value.int .i64 0, nilS], Value.bool true], Value.tuple #[Value.agg #[Value.int .i64 6, Value.int .i64 0, Value.int .i64 0, Value.string noB, Value.int .i64 0, nilS], Value.bool true], Value.agg #[Value.int .i64 6, Value.int .i64 0, Value.int .i64 0, Value.string noB, Value.int .i64 0, nilS], Value.bool true, Value.slice a k c, Value.int .i64 (k : Int), Value.int .i64 (k : Int), Value.bool false, u35, u36, u37, u38, u39, u40, u41, u42, u43, u44, u45, u46, u47, u48, u49, u50, u51, u52, u53, u54, u55, u56, u57, u58, u59, u60, u61, u62, u63, u64, Value.slice a k c, Value.int .i64 (k : Int), Value.int .i64 ((k : Int) + 1), Value.int .i64 (r : Int), Value.bool true, Value.int .i64 (r : Int), Value.agg #[Value.int .i64 0, Value.int .i64 0, Value.string ⟨#[]⟩], Value.agg #[Value.int .i64 0, Value.int .i64 0, Value.string ⟨#[]⟩], t73, t74, t75, t76, t77, t78, t79, t80, t81, t82, t83, t84, t85, t86, t87, t88, t89, t90, t91, t92, t93, t94, t95, t96, t97, t98, t99, t100, t101, t102, u103, u104, u105, u106, u107, u108, u109, u110, u111, u112, u113, u114, u115, u116, u117, u118, u119, u120, u121, u122, u123, u124, u125, undef, undef, undef, undef, undef, undef, undef, undef, undef, undef], []⟩ ∧ Hid (StW w wx) ∧ Hid (Hq 6 w wx zb vb (xs.take (k - r))) ∧ Hid (L 7 = true → L 8 = false → Blk wx q9 (stC 0 noV nilS) 28) ∧ Hid (Stay w8 wx) ∧ Hid (Hq 5 w wx za va (xs.drop r)) ∧ Hid (Blk wx qx (encV x1) 25) ∧ Hid (Blk wx qy (encV y1) 25) ∧ Hid (Hq 5 w wx qc vc (popQ 5 (xs.drop r))) ∧ Hid (OwnV wx w.heap.size t13 [topQ 5 (xs.drop r)]) ∧ Hid (L 0 = true → t97 = .agg #[.int .i64 6, .int .i64 0, .int .i64 0, .string noB, .int .i64 0, vb]) ∧ Hid (L 1 = true → t98 = .agg #[.int .i64 1, .int .i64 1, .string noB]) ∧ Hid (L 2 = true → t99 = .tuple #[.agg (stC 6 noV (.slice al9 nl9 cl9)).toArray, vo9, .bool true] ∧ OwnV wx w.heap.size vo9 [topQ 6 (xs.take (k - r))] ∧ HeldV wx w.heap.size (.slice al9 nl9 cl9) (popQ 6 (xs.take (k - r)))) ∧ Hid (L 3 = true → t96 = .tuple #[.agg (stC 6 noV (.slice al9 nl9 cl9)).toArray, vo9, .bool true]) ∧ Hid (L 4 = true → t100 = .agg (stC 6 noV (.slice al9 nl9 cl9)).toArray) ∧ Hid (L 5 = true → t101 = vo9) ∧ Hid (L 6 = true → t102 = .bool true) ∧ Hid (L 7 = true → t15 = .pointer (some ⟨q9, 0, none⟩) ∧ w.heap.size ≤ q9 ∧ w8.heap.size ≤ q9) ∧ Hid (L 8 = true → Hq 6 w wx q9 (.slice al9 nl9 cl9) (popQ 6 (xs.take (k - r)))) ∧ Hid (L 9 = true → t16 = vo9) ∧ Hid (L 10 = true → t17 = .bool true)) L act wx := ⟨_, fun _ _ _ => Iff.rfl⟩
              dsimp only at hI
              have HI : Hid (∀ L act wx, I L act wx ↔ _) := hI
              clear hI
              refine wp_region_inv mixed [[], [], [0, 1], [0, 1, 2], [0, 1, 2, 3], [0, 1, 2, 3], [0, 1, 2, 3], [], [0, 1, 2, 3, 4, 7], [0, 1, 2, 3, 4, 5, 7, 8], [0, 1, 2, 3, 4, 6, 7, 8]] (by kernel_rfl) I ?_ ?_ ?_
              · refine (HI.out _ _ _).2 ⟨_, _, _, _, _, _, _, _, _, _, none, 0, 0, undef, 0, rfl, ?_, ?_, ?_, ?_, ?_, ?_, ?_, ?_, ?_, fun h => Bool.noConfusion h, fun h => Bool.noConfusion h, fun h => Bool.noConfusion h, fun h => Bool.noConfusion h, fun h => Bool.noConfusion h, fun h => Bool.noConfusion h, fun h => Bool.noConfusion h, fun h => Bool.noConfusion h, fun h => Bool.noConfusion h, fun h => Bool.noConfusion h, fun h => Bool.noConfusion h⟩
                · exact below_next HP8.out.1 (Stay.drew _)
                · exact HP8.out.2.later (Stay.drew _)
                · exact fun h => Bool.noConfusion h
                · exact Stay.drew _
                · exact HPa.out.later (Stay.drew _)
                · exact HXb8.out.later (Stay.drew _)
                · exact HYb8.out.later (Stay.drew _)
                · exact HPc.out.later (Stay.drew _)
                · exact HO13.out.later (Stay.drew _)
              · intro i hi L act wx hIa hLi hcl hanc
                obtain ⟨t97, t98, t99, t96, t100, t101, t102, t15, t16, t17, al9, cl9, nl9, vo9, q9, rfl, HS, E0, E1, E2, E3, E4, E5, E6, E7, F0, F1, F2, F3, F4, F5, F6, F7, F8, F9, F10⟩ := (HI.out _ _ _).1 hIa
                clear hIa
                have hi' : i = 0 ∨ i = 1 ∨ i = 2 ∨ i = 3 ∨ i = 4 ∨ i = 5 ∨ i = 6 ∨ i = 7 ∨ i = 8 ∨ i = 9 ∨ i = 10 := by have hi : i < 11 := hi; omega
                clear hi
                rcases hi' with rfl | rfl | rfl | rfl | rfl | rfl | rfl | rfl | rfl | rfl | rfl
                · have hz := E0.out
                  refine wpOp_doG 0 (by rfl) (by rfl) ?_
                  refine wp_load_mid 28 (.tmp 5) rfl zb 0 rfl (stC 6 noV vb) _ (Blk.all hz.s) Tryd.underlying28 rfl infoSt ?_
                  simp only [Act.put, List.setIfInBounds_toArray, List.set_cons_zero, List.set_cons_succ]
                  have hb : Below wx.heap.size wx wx := Below.refl _ _
                  show I (putL L 0) _ _
                  exact (HI.out (putL L 0) _ _).2 ⟨_, _, _, _, _, _, _, _, _, _, al9, cl9, nl9, vo9, q9, rfl, HS.out.later hb, E0.out.later hb, fun h h' => (E1.out ((putL_ne (i := 0) (by decide)).symm.trans h) ((putL_ne (i := 0) (by decide)).symm.trans h')).later hb, below_next E2.out hb, E3.out.later hb, E4.out.later hb, E5.out.later hb, E6.out.later hb, E7.out.later hb, fun _ => rfl, fun h => (by first | exact F1.out ((putL_ne (i := 0) (by decide)).symm.trans h) | rfl), fun h => absurd (hcl 2 ((putL_ne (i := 0) (by decide)).symm.trans h) 0 (by decide)) (by rw [hLi]; decide), fun h => absurd (hcl 3 ((putL_ne (i := 0) (by decide)).symm.trans h) 0 (by decide)) (by rw [hLi]; decide), fun h => absurd (hcl 4 ((putL_ne (i := 0) (by decide)).symm.trans h) 0 (by decide)) (by rw [hLi]; decide), fun h => absurd (hcl 5 ((putL_ne (i := 0) (by decide)).symm.trans h) 0 (by decide)) (by rw [hLi]; decide), fun h => absurd (hcl 6 ((putL_ne (i := 0) (by decide)).symm.trans h) 0 (by decide)) (by rw [hLi]; decide), fun h => (by first | exact F7.out ((putL_ne (i := 0) (by decide)).symm.trans h) | rfl), fun h => absurd (hcl 8 ((putL_ne (i := 0) (by decide)).symm.trans h) 0 (by decide)) (by rw [hLi]; decide), fun h => absurd (hcl 9 ((putL_ne (i := 0) (by decide)).symm.trans h) 0 (by decide)) (by rw [hLi]; decide), fun h => absurd (hcl 10 ((putL_ne (i := 0) (by decide)).symm.trans h) 0 (by decide)) (by rw [hLi]; decide)⟩
                · refine wpOp_doG 1 (by rfl) (by rfl) ?_
                  go_wp2_with fail
                  refine (num_any 1 wx).mono ?_
                  rintro e wn ⟨rfl, hb⟩
                  show I (putL L 1) _ _
                  exact (HI.out (putL L 1) _ _).2 ⟨_, _, _, _, _, _, _, _, _, _, al9, cl9, nl9, vo9, q9, rfl, HS.out.later hb, E0.out.later hb, fun h h' => (E1.out ((putL_ne (i := 1) (by decide)).symm.trans h) ((putL_ne (i := 1) (by decide)).symm.trans h')).later hb, below_next E2.out hb, E3.out.later hb, E4.out.later hb, E5.out.later hb, E6.out.later hb, E7.out.later hb, fun h => (by first | exact F0.out ((putL_ne (i := 1) (by decide)).symm.trans h) | rfl), fun _ => rfl, fun h => absurd (hcl 2 ((putL_ne (i := 1) (by decide)).symm.trans h) 1 (by decide)) (by rw [hLi]; decide), fun h => absurd (hcl 3 ((putL_ne (i := 1) (by decide)).symm.trans h) 1 (by decide)) (by rw [hLi]; decide), fun h => absurd (hcl 4 ((putL_ne (i := 1) (by decide)).symm.trans h) 1 (by decide)) (by rw [hLi]; decide), fun h => absurd (hcl 5 ((putL_ne (i := 1) (by decide)).symm.trans h) 1 (by decide)) (by rw [hLi]; decide), fun h => absurd (hcl 6 ((putL_ne (i := 1) (by decide)).symm.trans h) 1 (by decide)) (by rw [hLi]; decide), fun h => (by first | exact F7.out ((putL_ne (i := 1) (by decide)).symm.trans h) | rfl), fun h => absurd (hcl 8 ((putL_ne (i := 1) (by decide)).symm.trans h) 1 (by decide)) (by rw [hLi]; decide), fun h => absurd (hcl 9 ((putL_ne (i := 1) (by decide)).symm.trans h) 1 (by decide)) (by rw [hLi]; decide), fun h => absurd (hcl 10 ((putL_ne (i := 1) (by decide)).symm.trans h) 1 (by decide)) (by rw [hLi]; decide)⟩
                · have f0 := F0.out (hanc 0 (by decide))
                  have f1 := F1.out (hanc 1 (by decide))
                  have hz := E0.out
                  have g0 := f0
                  have g1 := f1
                  subst g0 g1
                  refine wpOp_doG 2 (by rfl) (by rfl) ?_
                  go_wp2_with fail
                  refine (HK.out.yes 6 w.heap.size (vN 1) vb (xs.take (k - r)) 10 (.slice none 0 0) [] wx HM6.out HS.out.size (HT.out.later HS.out) hz.l HLd.out.2 (vsl_nil0 _) sz0 (Nat.zero_le _) (may_pop HM6.out)).mono ?_
                  rintro e wn ⟨vo, vl9, rfl, ho9, hl9, -, hb⟩
                  have ho9 := ho9.base HS.out.size
                  rw [nx_pop] at hl9
                  rw [ou_pop] at ho9
                  obtain ⟨al8, cl8, hf9⟩ := hl9.form
                  obtain ⟨nl8, hn9⟩ : ∃ nl8, ((popQ 6 (xs.take (k - r)))).length = nl8 := ⟨_, rfl⟩
                  rw [hn9] at hf9
                  subst hf9
                  clear hn9
                  show I (putL L 2) _ _
                  exact (HI.out (putL L 2) _ _).2 ⟨_, _, _, _, _, _, _, _, _, _, al8, cl8, nl8, vo, q9, rfl, HS.out.later hb, E0.out.later hb, fun h h' => (E1.out ((putL_ne (i := 2) (by decide)).symm.trans h) ((putL_ne (i := 2) (by decide)).symm.trans h')).later hb, below_next E2.out hb, E3.out.later hb, E4.out.later hb, E5.out.later hb, E6.out.later hb, E7.out.later hb, fun h => (by first | exact F0.out ((putL_ne (i := 2) (by decide)).symm.trans h) | rfl), fun h => (by first | exact F1.out ((putL_ne (i := 2) (by decide)).symm.trans h) | rfl), fun _ => ⟨rfl, ho9, hl9⟩, fun h => absurd (hcl 3 ((putL_ne (i := 2) (by decide)).symm.trans h) 2 (by decide)) (by rw [hLi]; decide), fun h => absurd (hcl 4 ((putL_ne (i := 2) (by decide)).symm.trans h) 2 (by decide)) (by rw [hLi]; decide), fun h => absurd (hcl 5 ((putL_ne (i := 2) (by decide)).symm.trans h) 2 (by decide)) (by rw [hLi]; decide), fun h => absurd (hcl 6 ((putL_ne (i := 2) (by decide)).symm.trans h) 2 (by decide)) (by rw [hLi]; decide), fun h => (by first | exact F7.out ((putL_ne (i := 2) (by decide)).symm.trans h) | rfl), fun h => absurd (hcl 8 ((putL_ne (i := 2) (by decide)).symm.trans h) 2 (by decide)) (by rw [hLi]; decide), fun h => absurd (hcl 9 ((putL_ne (i := 2) (by decide)).symm.trans h) 2 (by decide)) (by rw [hLi]; decide), fun h => absurd (hcl 10 ((putL_ne (i := 2) (by decide)).symm.trans h) 2 (by decide)) (by rw [hLi]; decide)⟩
                · have f0 := F0.out (hanc 0 (by decide))
                  have f1 := F1.out (hanc 1 (by decide))
                  have f2 := F2.out (hanc 2 (by decide))
                  have f := f2.1
                  subst f
                  refine YieldsIf.wpOp (S := fun _ => True) (v := .tuple #[.agg (stC 6 noV (.slice al9 nl9 cl9)).toArray, vo9, .bool true]) (by rfl) (.inl ⟨rfl, fun w _ => rfl⟩) trivial ?_
                  simp only [Act.put, List.setIfInBounds_toArray, List.set_cons_zero, List.set_cons_succ]
                  have hb : Below wx.heap.size wx wx := Below.refl _ _
                  show I (putL L 3) _ _
                  exact (HI.out (putL L 3) _ _).2 ⟨_, _, _, _, _, _, _, _, _, _, al9, cl9, nl9, vo9, q9, rfl, HS.out.later hb, E0.out.later hb, fun h h' => (E1.out ((putL_ne (i := 3) (by decide)).symm.trans h) ((putL_ne (i := 3) (by decide)).symm.trans h')).later hb, below_next E2.out hb, E3.out.later hb, E4.out.later hb, E5.out.later hb, E6.out.later hb, E7.out.later hb, fun h => (by first | exact F0.out ((putL_ne (i := 3) (by decide)).symm.trans h) | rfl), fun h => (by first | exact F1.out ((putL_ne (i := 3) (by decide)).symm.trans h) | rfl), fun h => (fun q => ⟨q.1, q.2.1.later hb, q.2.2.later hb⟩) (F2.out ((putL_ne (i := 3) (by decide)).symm.trans h)), fun _ => rfl, fun h => absurd (hcl 4 ((putL_ne (i := 3) (by decide)).symm.trans h) 3 (by decide)) (by rw [hLi]; decide), fun h => absurd (hcl 5 ((putL_ne (i := 3) (by decide)).symm.trans h) 3 (by decide)) (by rw [hLi]; decide), fun h => absurd (hcl 6 ((putL_ne (i := 3) (by decide)).symm.trans h) 3 (by decide)) (by rw [hLi]; decide), fun h => (by first | exact F7.out ((putL_ne (i := 3) (by decide)).symm.trans h) | rfl), fun h => absurd (hcl 8 ((putL_ne (i := 3) (by decide)).symm.trans h) 3 (by decide)) (by rw [hLi]; decide), fun h => absurd (hcl 9 ((putL_ne (i := 3) (by decide)).symm.trans h) 3 (by decide)) (by rw [hLi]; decide), fun h => absurd (hcl 10 ((putL_ne (i := 3) (by decide)).symm.trans h) 3 (by decide)) (by rw [hLi]; decide)⟩
                · have f0 := F0.out (hanc 0 (by decide))
                  have f1 := F1.out (hanc 1 (by decide))
                  have f2 := F2.out (hanc 2 (by decide))
                  have f3 := F3.out (hanc 3 (by decide))
                  have f := f3
                  subst f
                  refine YieldsIf.wpOp (S := fun _ => True) (v := .agg (stC 6 noV (.slice al9 nl9 cl9)).toArray) (by rfl) (.inl ⟨rfl, fun w _ => by go_simp⟩) trivial ?_
                  simp only [Act.put, List.setIfInBounds_toArray, List.set_cons_zero, List.set_cons_succ]
                  have hb : Below wx.heap.size wx wx := Below.refl _ _
                  show I (putL L 4) _ _
                  exact (HI.out (putL L 4) _ _).2 ⟨_, _, _, _, _, _, _, _, _, _, al9, cl9, nl9, vo9, q9, rfl, HS.out.later hb, E0.out.later hb, fun h h' => (E1.out ((putL_ne (i := 4) (by decide)).symm.trans h) ((putL_ne (i := 4) (by decide)).symm.trans h')).later hb, below_next E2.out hb, E3.out.later hb, E4.out.later hb, E5.out.later hb, E6.out.later hb, E7.out.later hb, fun h => (by first | exact F0.out ((putL_ne (i := 4) (by decide)).symm.trans h) | rfl), fun h => (by first | exact F1.out ((putL_ne (i := 4) (by decide)).symm.trans h) | rfl), fun h => (fun q => ⟨q.1, q.2.1.later hb, q.2.2.later hb⟩) (F2.out ((putL_ne (i := 4) (by decide)).symm.trans h)), fun h => (by first | exact F3.out ((putL_ne (i := 4) (by decide)).symm.trans h) | rfl), fun _ => rfl, fun h => (by first | exact F5.out ((putL_ne (i := 4) (by decide)).symm.trans h) | rfl), fun h => (by first | exact F6.out ((putL_ne (i := 4) (by decide)).symm.trans h) | rfl), fun h => (by first | exact F7.out ((putL_ne (i := 4) (by decide)).symm.trans h) | rfl), fun h => absurd (hcl 8 ((putL_ne (i := 4) (by decide)).symm.trans h) 4 (by decide)) (by rw [hLi]; decide), fun h => absurd (hcl 9 ((putL_ne (i := 4) (by decide)).symm.trans h) 4 (by decide)) (by rw [hLi]; decide), fun h => absurd (hcl 10 ((putL_ne (i := 4) (by decide)).symm.trans h) 4 (by decide)) (by rw [hLi]; decide)⟩
                · have f0 := F0.out (hanc 0 (by decide))
                  have f1 := F1.out (hanc 1 (by decide))
                  have f2 := F2.out (hanc 2 (by decide))
                  have f3 := F3.out (hanc 3 (by decide))
                  have f := f3
                  subst f
                  refine YieldsIf.wpOp (S := fun _ => True) (v := vo9) (by rfl) (.inl ⟨rfl, fun w _ => by go_simp⟩) trivial ?_
                  simp only [Act.put, List.setIfInBounds_toArray, List.set_cons_zero, List.set_cons_succ]
                  have hb : Below wx.heap.size wx wx := Below.refl _ _
                  show I (putL L 5) _ _
                  exact (HI.out (putL L 5) _ _).2 ⟨_, _, _, _, _, _, _, _, _, _, al9, cl9, nl9, vo9, q9, rfl, HS.out.later hb, E0.out.later hb, fun h h' => (E1.out ((putL_ne (i := 5) (by decide)).symm.trans h) ((putL_ne (i := 5) (by decide)).symm.trans h')).later hb, below_next E2.out hb, E3.out.later hb, E4.out.later hb, E5.out.later hb, E6.out.later hb, E7.out.later hb, fun h => (by first | exact F0.out ((putL_ne (i := 5) (by decide)).symm.trans h) | rfl), fun h => (by first | exact F1.out ((putL_ne (i := 5) (by decide)).symm.trans h) | rfl), fun h => (fun q => ⟨q.1, q.2.1.later hb, q.2.2.later hb⟩) (F2.out ((putL_ne (i := 5) (by decide)).symm.trans h)), fun h => (by first | exact F3.out ((putL_ne (i := 5) (by decide)).symm.trans h) | rfl), fun h => (by first | exact F4.out ((putL_ne (i := 5) (by decide)).symm.trans h) | rfl), fun _ => rfl, fun h => (by first | exact F6.out ((putL_ne (i := 5) (by decide)).symm.trans h) | rfl), fun h => (by first | exact F7.out ((putL_ne (i := 5) (by decide)).symm.trans h) | rfl), fun h => (fun q => q.later hb) (F8.out ((putL_ne (i := 5) (by decide)).symm.trans h)), fun h => absurd (hcl 9 ((putL_ne (i := 5) (by decide)).symm.trans h) 5 (by decide)) (by rw [hLi]; decide), fun h => (by first | exact F10.out ((putL_ne (i := 5) (by decide)).symm.trans h) | rfl)⟩
                · have f0 := F0.out (hanc 0 (by decide))
                  have f1 := F1.out (hanc 1 (by decide))
                  have f2 := F2.out (hanc 2 (by decide))
                  have f3 := F3.out (hanc 3 (by decide))
                  have f := f3
                  subst f
                  refine YieldsIf.wpOp (S := fun _ => True) (v := .bool true) (by rfl) (.inl ⟨rfl, fun w _ => by go_simp⟩) trivial ?_
                  simp only [Act.put, List.setIfInBounds_toArray, List.set_cons_zero, List.set_cons_succ]
                  have hb : Below wx.heap.size wx wx := Below.refl _ _
                  show I (putL L 6) _ _
                  exact (HI.out (putL L 6) _ _).2 ⟨_, _, _, _, _, _, _, _, _, _, al9, cl9, nl9, vo9, q9, rfl, HS.out.later hb, E0.out.later hb, fun h h' => (E1.out ((putL_ne (i := 6) (by decide)).symm.trans h) ((putL_ne (i := 6) (by decide)).symm.trans h')).later hb, below_next E2.out hb, E3.out.later hb, E4.out.later hb, E5.out.later hb, E6.out.later hb, E7.out.later hb, fun h => (by first | exact F0.out ((putL_ne (i := 6) (by decide)).symm.trans h) | rfl), fun h => (by first | exact F1.out ((putL_ne (i := 6) (by decide)).symm.trans h) | rfl), fun h => (fun q => ⟨q.1, q.2.1.later hb, q.2.2.later hb⟩) (F2.out ((putL_ne (i := 6) (by decide)).symm.trans h)), fun h => (by first | exact F3.out ((putL_ne (i := 6) (by decide)).symm.trans h) | rfl), fun h => (by first | exact F4.out ((putL_ne (i := 6) (by decide)).symm.trans h) | rfl), fun h => (by first | exact F5.out ((putL_ne (i := 6) (by decide)).symm.trans h) | rfl), fun _ => rfl, fun h => (by first | exact F7.out ((putL_ne (i := 6) (by decide)).symm.trans h) | rfl), fun h => (fun q => q.later hb) (F8.out ((putL_ne (i := 6) (by decide)).symm.trans h)), fun h => (by first | exact F9.out ((putL_ne (i := 6) (by decide)).symm.trans h) | rfl), fun h => absurd (hcl 10 ((putL_ne (i := 6) (by decide)).symm.trans h) 6 (by decide)) (by rw [hLi]; decide)⟩
                · refine wpOp_doG 7 (by rfl) (by rfl) ?_
                  go_wp2_with fail
                  have BO := Blk.new wx (stC 0 noV nilS) 28
                  have hb := below_box wx (.cells (stC 0 noV nilS).toArray 28)
                  change Blk (wx.alloc (.cells #[.int .i64 0, .int .i64 0, .int .i64 0, .string ⟨#[]⟩, .int .i64 0, .slice none 0 0] 28)) _ _ _ at BO
                  change Below _ wx (wx.alloc (.cells #[.int .i64 0, .int .i64 0, .int .i64 0, .string ⟨#[]⟩, .int .i64 0, .slice none 0 0] 28)) at hb
                  show I (putL L 7) _ _
                  exact (HI.out (putL L 7) _ _).2 ⟨_, _, _, _, _, _, _, _, _, _, al9, cl9, nl9, vo9, wx.heap.size, rfl, HS.out.later hb, E0.out.later hb, fun _ _ => BO, below_next E2.out hb, E3.out.later hb, E4.out.later hb, E5.out.later hb, E6.out.later hb, E7.out.later hb, fun h => (by first | exact F0.out ((putL_ne (i := 7) (by decide)).symm.trans h) | rfl), fun h => (by first | exact F1.out ((putL_ne (i := 7) (by decide)).symm.trans h) | rfl), fun h => (fun q => ⟨q.1, q.2.1.later hb, q.2.2.later hb⟩) (F2.out ((putL_ne (i := 7) (by decide)).symm.trans h)), fun h => (by first | exact F3.out ((putL_ne (i := 7) (by decide)).symm.trans h) | rfl), fun h => (by first | exact F4.out ((putL_ne (i := 7) (by decide)).symm.trans h) | rfl), fun h => (by first | exact F5.out ((putL_ne (i := 7) (by decide)).symm.trans h) | rfl), fun h => (by first | exact F6.out ((putL_ne (i := 7) (by decide)).symm.trans h) | rfl), fun _ => ⟨rfl, HS.out.size, E2.out.size⟩, fun h => absurd (hcl 8 ((putL_ne (i := 7) (by decide)).symm.trans h) 7 (by decide)) (by rw [hLi]; decide), fun h => absurd (hcl 9 ((putL_ne (i := 7) (by decide)).symm.trans h) 7 (by decide)) (by rw [hLi]; decide), fun h => absurd (hcl 10 ((putL_ne (i := 7) (by decide)).symm.trans h) 7 (by decide)) (by rw [hLi]; decide)⟩
                · have f0 := F0.out (hanc 0 (by decide))
                  have f1 := F1.out (hanc 1 (by decide))
                  have f2 := F2.out (hanc 2 (by decide))
                  have f3 := F3.out (hanc 3 (by decide))
                  have f4 := F4.out (hanc 4 (by decide))
                  have f7 := F7.out (hanc 7 (by decide))
                  have BS := E1.out (hanc 7 (by decide)) hLi
                  have f := f4
                  subst f
                  obtain ⟨fa, hq9⟩ := f7
                  subst fa
                  refine wpOp_doG 8 (by rfl) (by rfl) ?_
                  refine wpo_storeB 28 (.tmp 15) (.tmp 100) q9 0 (stC 6 noV (.slice al9 nl9 cl9)) (stC 0 noV nilS) 28 infoSt (show 0 + 6 ≤ 6 by decide) (stC_one _ _ rfl) rfl rfl rfl BS ?_
                  intro wn BP ho
                  replace BP : Blk wn q9 (stC 6 noV (.slice al9 nl9 cl9)) 28 := BP
                  simp only [Act.put, List.setIfInBounds_toArray, List.set_cons_zero, List.set_cons_succ]
                  show I (putL L 8) _ _
                  exact (HI.out (putL L 8) _ _).2 ⟨_, _, _, _, _, _, _, _, _, _, al9, cl9, nl9, vo9, q9, rfl, below_oth HS.out ho hq9.1 hq9.1 HS.out.size, E0.out.oth ho BS (by have := HZ9.out; have := hq9.2; omega), fun _ h => (by rw [putL_self] at h; cases h), below_oth E2.out ho hq9.2 hq9.2 E2.out.size, E3.out.oth ho BS (by have := HLt8.out; have := hq9.2; omega), E4.out.oth ho (by have := HLt8.out; have := hq9.2; omega) (by have := HLt8.out; have := hq9.2; omega), E5.out.oth ho (by have := HLt8.out; have := hq9.2; omega) (by have := HLt8.out; have := hq9.2; omega), E6.out.oth ho BS (by have := HLt8.out; have := hq9.2; omega), E7.out.oth ho BS (by decide), fun h => (by first | exact F0.out ((putL_ne (i := 8) (by decide)).symm.trans h) | rfl), fun h => (by first | exact F1.out ((putL_ne (i := 8) (by decide)).symm.trans h) | rfl), fun h => (fun q => ⟨q.1, q.2.1.oth ho BS (by decide), q.2.2.oth ho BS (by decide)⟩) (F2.out ((putL_ne (i := 8) (by decide)).symm.trans h)), fun h => (by first | exact F3.out ((putL_ne (i := 8) (by decide)).symm.trans h) | rfl), fun h => (by first | exact F4.out ((putL_ne (i := 8) (by decide)).symm.trans h) | rfl), fun h => (by first | exact F5.out ((putL_ne (i := 8) (by decide)).symm.trans h) | rfl), fun h => (by first | exact F6.out ((putL_ne (i := 8) (by decide)).symm.trans h) | rfl), fun h => (by first | exact F7.out ((putL_ne (i := 8) (by decide)).symm.trans h) | rfl), fun _ => ⟨BP, f2.2.2.oth ho BS (by decide), hq9.1⟩, fun h => absurd (hcl 9 ((putL_ne (i := 8) (by decide)).symm.trans h) 8 (by decide)) (by rw [hLi]; decide), fun h => absurd (hcl 10 ((putL_ne (i := 8) (by decide)).symm.trans h) 8 (by decide)) (by rw [hLi]; decide)⟩
                · have f0 := F0.out (hanc 0 (by decide))
                  have f1 := F1.out (hanc 1 (by decide))
                  have f2 := F2.out (hanc 2 (by decide))
                  have f3 := F3.out (hanc 3 (by decide))
                  have f4 := F4.out (hanc 4 (by decide))
                  have f5 := F5.out (hanc 5 (by decide))
                  have f7 := F7.out (hanc 7 (by decide))
                  have f8 := F8.out (hanc 8 (by decide))
                  refine YieldsIf.wpOp (S := fun _ => True) (v := t101) (by rfl) (.inl ⟨rfl, fun w _ => rfl⟩) trivial ?_
                  simp only [Act.put, List.setIfInBounds_toArray, List.set_cons_zero, List.set_cons_succ]
                  have hb : Below wx.heap.size wx wx := Below.refl _ _
                  show I (putL L 9) _ _
                  exact (HI.out (putL L 9) _ _).2 ⟨_, _, _, _, _, _, _, _, _, _, al9, cl9, nl9, vo9, q9, rfl, HS.out.later hb, E0.out.later hb, fun h h' => (E1.out ((putL_ne (i := 9) (by decide)).symm.trans h) ((putL_ne (i := 9) (by decide)).symm.trans h')).later hb, below_next E2.out hb, E3.out.later hb, E4.out.later hb, E5.out.later hb, E6.out.later hb, E7.out.later hb, fun h => (by first | exact F0.out ((putL_ne (i := 9) (by decide)).symm.trans h) | rfl), fun h => (by first | exact F1.out ((putL_ne (i := 9) (by decide)).symm.trans h) | rfl), fun h => (fun q => ⟨q.1, q.2.1.later hb, q.2.2.later hb⟩) (F2.out ((putL_ne (i := 9) (by decide)).symm.trans h)), fun h => (by first | exact F3.out ((putL_ne (i := 9) (by decide)).symm.trans h) | rfl), fun h => (by first | exact F4.out ((putL_ne (i := 9) (by decide)).symm.trans h) | rfl), fun h => (by first | exact F5.out ((putL_ne (i := 9) (by decide)).symm.trans h) | rfl), fun h => (by first | exact F6.out ((putL_ne (i := 9) (by decide)).symm.trans h) | rfl), fun h => (by first | exact F7.out ((putL_ne (i := 9) (by decide)).symm.trans h) | rfl), fun h => (fun q => q.later hb) (F8.out ((putL_ne (i := 9) (by decide)).symm.trans h)), fun _ => f5, fun h => (by first | exact F10.out ((putL_ne (i := 9) (by decide)).symm.trans h) | rfl)⟩
                · have f0 := F0.out (hanc 0 (by decide))
                  have f1 := F1.out (hanc 1 (by decide))
                  have f2 := F2.out (hanc 2 (by decide))
                  have f3 := F3.out (hanc 3 (by decide))
                  have f4 := F4.out (hanc 4 (by decide))
                  have f6 := F6.out (hanc 6 (by decide))
                  have f7 := F7.out (hanc 7 (by decide))
                  have f8 := F8.out (hanc 8 (by decide))
                  refine YieldsIf.wpOp (S := fun _ => True) (v := t102) (by rfl) (.inl ⟨rfl, fun w _ => rfl⟩) trivial ?_
                  simp only [Act.put, List.setIfInBounds_toArray, List.set_cons_zero, List.set_cons_succ]
                  have hb : Below wx.heap.size wx wx := Below.refl _ _
                  show I (putL L 10) _ _
                  exact (HI.out (putL L 10) _ _).2 ⟨_, _, _, _, _, _, _, _, _, _, al9, cl9, nl9, vo9, q9, rfl, HS.out.later hb, E0.out.later hb, fun h h' => (E1.out ((putL_ne (i := 10) (by decide)).symm.trans h) ((putL_ne (i := 10) (by decide)).symm.trans h')).later hb, below_next E2.out hb, E3.out.later hb, E4.out.later hb, E5.out.later hb, E6.out.later hb, E7.out.later hb, fun h => (by first | exact F0.out ((putL_ne (i := 10) (by decide)).symm.trans h) | rfl), fun h => (by first | exact F1.out ((putL_ne (i := 10) (by decide)).symm.trans h) | rfl), fun h => (fun q => ⟨q.1, q.2.1.later hb, q.2.2.later hb⟩) (F2.out ((putL_ne (i := 10) (by decide)).symm.trans h)), fun h => (by first | exact F3.out ((putL_ne (i := 10) (by decide)).symm.trans h) | rfl), fun h => (by first | exact F4.out ((putL_ne (i := 10) (by decide)).symm.trans h) | rfl), fun h => (by first | exact F5.out ((putL_ne (i := 10) (by decide)).symm.trans h) | rfl), fun h => (by first | exact F6.out ((putL_ne (i := 10) (by decide)).symm.trans h) | rfl), fun h => (by first | exact F7.out ((putL_ne (i := 10) (by decide)).symm.trans h) | rfl), fun h => (fun q => q.later hb) (F8.out ((putL_ne (i := 10) (by decide)).symm.trans h)), fun h => (by first | exact F9.out ((putL_ne (i := 10) (by decide)).symm.trans h) | rfl), fun _ => f6⟩
              · intro L act wx hall hIa
                obtain ⟨t97, t98, t99, t96, t100, t101, t102, t15, t16, t17, al9, cl9, nl9, vo9, q9, rfl, HS, E0, E1, E2, E3, E4, E5, E6, E7, F0, F1, F2, F3, F4, F5, F6, F7, F8, F9, F10⟩ := (HI.out _ _ _).1 hIa
                have f0 := F0.out (hall 0 (by decide))
                have f1 := F1.out (hall 1 (by decide))
                have f2 := F2.out (hall 2 (by decide))
                have f3 := F3.out (hall 3 (by decide))
                have f4 := F4.out (hall 4 (by decide))
                have f5 := F5.out (hall 5 (by decide))
                have f6 := F6.out (hall 6 (by decide))
                have f7 := F7.out (hall 7 (by decide))
                have f8 := F8.out (hall 8 (by decide))
                have f9 := F9.out (hall 9 (by decide))
                have f10 := F10.out (hall 10 (by decide))
                clear hIa HI F0 F1 F2 F3 F4 F5 F6 F7 F8 F9 F10
                show K9 _ _
                apply hK9
                clear hK9 K9
                obtain ⟨vd, hvd⟩ : ∃ v, Value.slice al9 nl9 cl9 = v := ⟨_, rfl⟩
                obtain ⟨qd, hqd⟩ : ∃ q, q = q9 := ⟨_, rfl⟩
                have fz := f8
                rw [hvd] at fz
                have fo := f2.2.1
                have g1 := f9
                rw [← g1] at fo
                have g2 := f10
                have ga := f7.1
                clear hvd
                have fo1 := fo
                have HQb : Hid (Hq 6 w wx zb vb (xs.take (k - r))) := E0.out
                have HQd : Hid (Hq 6 w wx q9 vd (popQ 6 (xs.take (k - r)))) := fz
                have HO16 : Hid (OwnV wx w.heap.size t16 [topQ 6 (xs.take (k - r))]) := fo
                have HB9 : Hid (Below w.heap.size w wx) := HS.out
                have HQa : Hid (Hq 5 w wx za va (xs.drop r)) := E3.out
                have HXb9 : Hid (Blk wx qx (encV x1) 25) := E4.out
                have HYb9 : Hid (Blk wx qy (encV y1) 25) := E5.out
                have HQc : Hid (Hq 5 w wx qc vc (popQ 5 (xs.drop r))) := E6.out
                have HO13 : Hid (OwnV wx w.heap.size t13 [topQ 5 (xs.drop r)]) := E7.out
                have HNe : Hid (qc ≠ q9 ∧ za ≠ q9 ∧ zb ≠ q9 ∧ za ≠ qc ∧ zb ≠ qc) := (by have h1 := f7.2.2; have h2 := HLt8.out; have h3 := HNc.out; omega : qc ≠ q9 ∧ za ≠ q9 ∧ zb ≠ q9 ∧ za ≠ qc ∧ zb ≠ qc)
                rw [← hqd] at HQd ga HNe
                subst ga g2
                clear fz fo fo1 g1 hqd HPa HPc HP8 HXb8 HYb8 HS E0 E1 E2 E3 E4 E5 E6 E7 f0 f1 f2 f3 f4 f5 f6 f7 f8 f9 f10
                generalize wx = w9 at HQb HQd HO16 HB9 HQa HXb9 HYb9 HQc HO13 ⊢
                have hO13 := HO13.out
                rw [HX1.out] at hO13
                have hO16 := HO16.out
                rw [HY1.out] at hO16
                have bx := below_box w9 (.cells (encV x1).toArray 25)
                have HA13 : Hid (VSl (w9.alloc (.cells #[.int .i64 x1.1, .int .i64 x1.2.1, .string x1.2.2] 25)) t13 [x1]) := (hO13.later bx).vsl
                have HAx : Hid (VSl (w9.alloc (.cells #[.int .i64 x1.1, .int .i64 x1.2.1, .string x1.2.2] 25)) (.slice (some ⟨w9.heap.size, 0, none⟩) 1 1) [x1]) := (own_one w9 w9.heap.size (Nat.le_refl _) x1).vsl
                have HA16 : Hid (OwnV (w9.alloc (.cells #[.int .i64 x1.1, .int .i64 x1.2.1, .string x1.2.2] 25)) w.heap.size t16 [y1]) := hO16.later bx
                have HAy : Hid (Blk (w9.alloc (.cells #[.int .i64 x1.1, .int .i64 x1.2.1, .string x1.2.2] 25)) qy (encV y1) 25) := HYb9.out.later bx
                have HAq : Hid (Hq 5 w (w9.alloc (.cells #[.int .i64 x1.1, .int .i64 x1.2.1, .string x1.2.2] 25)) za va (xs.drop r) ∧ Hq 6 w (w9.alloc (.cells #[.int .i64 x1.1, .int .i64 x1.2.1, .string x1.2.2] 25)) zb vb (xs.take (k - r)) ∧ Hq 5 w (w9.alloc (.cells #[.int .i64 x1.1, .int .i64 x1.2.1, .string x1.2.2] 25)) qc vc (popQ 5 (xs.drop r)) ∧ Hq 6 w (w9.alloc (.cells #[.int .i64 x1.1, .int .i64 x1.2.1, .string x1.2.2] 25)) qd vd (popQ 6 (xs.take (k - r)))) := ⟨HQa.out.later bx, HQb.out.later bx, HQc.out.later bx, HQd.out.later bx⟩
                have HAB : Hid (Below w.heap.size w (w9.alloc (.cells #[.int .i64 x1.1, .int .i64 x1.2.1, .string x1.2.2] 25))) := below_next HB9.out bx
                obtain ⟨c0, c1, c2⟩ := v_cells HXb9.out
                clear hO13 hO16 bx HO13 HO16 HXb9 HYb9 HQa HQb HQc HQd HB9
                go_wp2_with fail
                obtain ⟨q10, hq10⟩ : ∃ q, w9.heap.size = q := ⟨_, rfl⟩
                rw [hq10] at HAx
                generalize w9.alloc (.cells #[.int .i64 x1.1, .int .i64 x1.2.1, .string x1.2.2] 25) = w10 at HA13 HAx HA16 HAy HAq HAB ⊢
                simp only [hq10]
                clear hq10 c0 c1 c2
                refine (same_any t13 _ [x1] [x1] w10 HA13.out HAx.out (by simp)).mono ?_
                rintro e w11 ⟨rfl, hb11⟩
                rw [sameL_self]
                have bx := below_box w11 (.cells (encV y1).toArray 25)
                have hbb := below_next hb11 bx
                have HC16 : Hid (VSl (w11.alloc (.cells #[.int .i64 y1.1, .int .i64 y1.2.1, .string y1.2.2] 25)) t16 [y1]) := (HA16.out.later hbb).vsl
                have HCy : Hid (VSl (w11.alloc (.cells #[.int .i64 y1.1, .int .i64 y1.2.1, .string y1.2.2] 25)) (.slice (some ⟨w11.heap.size, 0, none⟩) 1 1) [y1]) := (own_one w11 w11.heap.size (Nat.le_refl _) y1).vsl
                have HCq : Hid (Hq 5 w (w11.alloc (.cells #[.int .i64 y1.1, .int .i64 y1.2.1, .string y1.2.2] 25)) za va (xs.drop r) ∧ Hq 6 w (w11.alloc (.cells #[.int .i64 y1.1, .int .i64 y1.2.1, .string y1.2.2] 25)) zb vb (xs.take (k - r)) ∧ Hq 5 w (w11.alloc (.cells #[.int .i64 y1.1, .int .i64 y1.2.1, .string y1.2.2] 25)) qc vc (popQ 5 (xs.drop r)) ∧ Hq 6 w (w11.alloc (.cells #[.int .i64 y1.1, .int .i64 y1.2.1, .string y1.2.2] 25)) qd vd (popQ 6 (xs.take (k - r)))) := ⟨HAq.out.1.later hbb, HAq.out.2.1.later hbb, HAq.out.2.2.1.later hbb, HAq.out.2.2.2.later hbb⟩
                have HCB : Hid (Below w.heap.size w (w11.alloc (.cells #[.int .i64 y1.1, .int .i64 y1.2.1, .string y1.2.2] 25))) := below_next HAB.out hbb
                obtain ⟨d0, d1, d2⟩ := v_cells (HAy.out.later hb11)
                clear hbb bx hb11 HA13 HAx HA16 HAy HAq HAB
                go_wp2_with fail
                obtain ⟨q11, hq11⟩ : ∃ q, w11.heap.size = q := ⟨_, rfl⟩
                rw [hq11] at HCy
                generalize w11.alloc (.cells #[.int .i64 y1.1, .int .i64 y1.2.1, .string y1.2.2] 25) = w12 at HC16 HCy HCq HCB ⊢
                simp only [hq11]
                clear hq11 d0 d1 d2
                refine (same_any t16 _ [y1] [y1] w12 HC16.out HCy.out (by simp)).mono ?_
                rintro e w13 ⟨rfl, hb13⟩
                rw [sameL_self]
                have HDq : Hid (Hq 5 w w13 za va (xs.drop r) ∧ Hq 6 w w13 zb vb (xs.take (k - r)) ∧ Hq 5 w w13 qc vc (popQ 5 (xs.drop r)) ∧ Hq 6 w w13 qd vd (popQ 6 (xs.take (k - r)))) := ⟨HCq.out.1.later hb13, HCq.out.2.1.later hb13, HCq.out.2.2.1.later hb13, HCq.out.2.2.2.later hb13⟩
                have HDB : Hid (Below w.heap.size w w13) := below_next HCB.out hb13
                clear hb13 HC16 HCy HCq HCB
                go_wp2_with fail
                have HV1vc : Hid (vc.oneCell' = true) := by
                  obtain ⟨a1, c1, e1⟩ := HDq.out.2.2.1.l.form
                  show vc.oneCell' = true
                  rw [e1]; rfl
                have HV1vd : Hid (vd.oneCell' = true) := by
                  obtain ⟨a1, c1, e1⟩ := HDq.out.2.2.2.l.form
                  show vd.oneCell' = true
                  rw [e1]; rfl
                obtain ⟨I, hI⟩ : ∃ I : (Nat → Bool) → Act → World → Prop, ∀ L act wx, I L act wx ↔ (fun (L : Nat → Bool) (act : Act) (wx : World) => ∃ (t123 : Value) (t124 : Value) , act = ⟨#[Value.slice a k c, undef, u2, Value.pointer (some ⟨za, 0, none⟩), Value.bool true, Value.pointer (some ⟨zb, 0, none⟩), Value.bool true, undef, u8, Value.int .i64 (r : Int), Value.pointer (some ⟨qx, 0, none⟩), Value.pointer (some ⟨qy, 0, none⟩), Value.pointer (some ⟨qc, 0, none⟩), t13, Value.bool true, Value.pointer (some ⟨qd, 0, none⟩), t16, Value.bool true, Value.bool true, Value.bool false, Value.slice a k c, Value.int .i64 (k : Int), Value.bool (decide (40 < (k : Int))), Value.tuple #[Value.agg #[Value.int .i64 5, Value.int .i64 0, Value.int .i64 0, Value.string noB, Value.int .i64 0, nilS], Value.bool true], Value.tuple #[Value.agg #[Value.int .i64 5, Value.int .i64 0, Value.int .i64 0, Value.string noB, Value.int .i64 0, nilS], Value.bool true], Value.agg #[Value.int .i64 5, Value.int .i64 0, Value.int .i64 0, Value.string noB, Value.int .i64 0, nilS], Value.bool true, Value.tuple #[Value.agg #[Value.int .i64 6, Value.int .i64 0, Value.int .i64 0, Value.string noB, Value.int .i64 0, nilS], Value.bool true], Value.tuple #[Value.agg #[Value.int .i64 6, Value.int .i64 0, Value.int .i64 0, Value.string noB, Value.int .i64 0, nilS], Value.bool true], Value.agg #[Value.int .i64 6, Value.int .i64 0, Value.int .i64 0, Value.string noB, Value.int .i64 0, nilS], Value.bool true, Value.slice a k c, Value.int .i64 (k : Int), Value.int .i64 (k : Int), Value.bool false, u35, u36, u37, u38, u39, u40, u41, u42, u43, u44, u45, u46, u47, u48, u49, u50, u51, u52, u53, u54, u55, u56, u57, u58, u59, u60, u61, u62, u63, u64, Value.slice a k c, Value.int .i64 (k : Int), Value.int .i64 ((k : Int) + 1), Value.int .i64 (r : Int), Value.bool true, Value.int .i64 (r : Int), Value.agg #[Value.int .i64 0, Value.int .i64 0, Value.string ⟨#[]⟩], Value.agg #[Value.int .i64 0, Value.int .i64 0, Value.string ⟨#[]⟩], t73, t74, t75, t76, t77, t78, t79, t80, t81, t82, t83, t84, t85, t86, t87, t88, t89, t90, t91, t92, t93, t94, t95, t96, t97, t98, t99, t100, t101, t102, Value.bool true, Value.bool false, Value.bool false, Value.bool true, Value.bool false, Value.bool false, Value.bool false, t13, Value.agg #[Value.int .i64 x1.1, Value.int .i64 x1.2.1, Value.string x1.2.2], Value.slice (some ⟨q10, 0, none⟩) 1 1, Value.bool true, Value.bool false, Value.bool false, Value.bool false, t16, Value.agg #[Value.int .i64 y1.1, Value.int .i64 y1.2.1, Value.string y1.2.2], Value.slice (some ⟨q11, 0, none⟩) 1 1, Value.bool true, Value.bool false, Value.bool false, t123, t124, u125, undef, undef, undef, undef, undef, undef, undef, undef, undef, undef], []⟩ ∧ Hid (StW w wx) ∧ Hid (L 2 = false → Hq 5 w wx za va (xs.drop r)) ∧ Hid (L 3 = false → Hq 6 w wx zb vb (xs.take (k - r))) ∧ Hid (Hq 5 w wx qc vc (popQ 5 (xs.drop r))) ∧ Hid (Hq 6 w wx qd vd (popQ 6 (xs.take (k - r)))) ∧ Hid (L 0 = true → t123 = .agg (stC 5 noV vc).toArray) ∧ Hid (L 1 = true → t124 = .agg (stC 6 noV vd).toArray) ∧ Hid (L 2 = true → Hq 5 w wx za vc (popQ 5 (xs.drop r))) ∧ Hid (L 3 = true → Hq 6 w wx zb vd (popQ 6 (xs.take (k - r))))) L act wx := ⟨_, fun _ _ _ => Iff.rfl⟩
                dsimp only at hI
                have HI : Hid (∀ L act wx, I L act wx ↔ _) := hI
                clear hI
                refine wp_region_inv mixed [[], [], [0], [1]] (by kernel_rfl) I ?_ ?_ ?_
                · refine (HI.out _ _ _).2 ⟨_, _, rfl, ?_, ?_, ?_, ?_, ?_, fun h => Bool.noConfusion h, fun h => Bool.noConfusion h, fun h => Bool.noConfusion h, fun h => Bool.noConfusion h⟩
                  · exact below_next HDB.out (Stay.drew _)
                  · exact fun _ => HDq.out.1.later (Stay.drew _)
                  · exact fun _ => HDq.out.2.1.later (Stay.drew _)
                  · exact HDq.out.2.2.1.later (Stay.drew _)
                  · exact HDq.out.2.2.2.later (Stay.drew _)
                · intro i hi L act wx hIa hLi hcl hanc
                  obtain ⟨t123, t124, rfl, HS, E0, E1, E2, E3, F0, F1, F2, F3⟩ := (HI.out _ _ _).1 hIa
                  clear hIa
                  have hi' : i = 0 ∨ i = 1 ∨ i = 2 ∨ i = 3 := by have hi : i < 4 := hi; omega
                  clear hi
                  rcases hi' with rfl | rfl | rfl | rfl
                  · refine wpOp_doG 0 (by rfl) (by rfl) ?_
                    refine wp_load_mid 28 (.tmp 12) rfl qc 0 rfl (stC 5 noV vc) _ (Blk.all E2.out.s) Tryd.underlying28 rfl infoSt ?_
                    simp only [Act.put, List.setIfInBounds_toArray, List.set_cons_zero, List.set_cons_succ]
                    have hb : Below wx.heap.size wx wx := Below.refl _ _
                    show I (putL L 0) _ _
                    exact (HI.out (putL L 0) _ _).2 ⟨_, _, rfl, HS.out.later hb, fun h => (E0.out ((putL_ne (i := 0) (by decide)).symm.trans h)).later hb, fun h => (E1.out ((putL_ne (i := 0) (by decide)).symm.trans h)).later hb, E2.out.later hb, E3.out.later hb, fun _ => rfl, fun h => (by first | exact F1.out ((putL_ne (i := 0) (by decide)).symm.trans h) | rfl), fun h => absurd (hcl 2 ((putL_ne (i := 0) (by decide)).symm.trans h) 0 (by decide)) (by rw [hLi]; decide), fun h => (fun q => q.later hb) (F3.out ((putL_ne (i := 0) (by decide)).symm.trans h))⟩
                  · refine wpOp_doG 1 (by rfl) (by rfl) ?_
                    refine wp_load_mid 28 (.tmp 15) rfl qd 0 rfl (stC 6 noV vd) _ (Blk.all E3.out.s) Tryd.underlying28 rfl infoSt ?_
                    simp only [Act.put, List.setIfInBounds_toArray, List.set_cons_zero, List.set_cons_succ]
                    have hb : Below wx.heap.size wx wx := Below.refl _ _
                    show I (putL L 1) _ _
                    exact (HI.out (putL L 1) _ _).2 ⟨_, _, rfl, HS.out.later hb, fun h => (E0.out ((putL_ne (i := 1) (by decide)).symm.trans h)).later hb, fun h => (E1.out ((putL_ne (i := 1) (by decide)).symm.trans h)).later hb, E2.out.later hb, E3.out.later hb, fun h => (by first | exact F0.out ((putL_ne (i := 1) (by decide)).symm.trans h) | rfl), fun _ => rfl, fun h => (fun q => q.later hb) (F2.out ((putL_ne (i := 1) (by decide)).symm.trans h)), fun h => absurd (hcl 3 ((putL_ne (i := 1) (by decide)).symm.trans h) 1 (by decide)) (by rw [hLi]; decide)⟩
                  · have f0 := F0.out (hanc 0 (by decide))
                    have g0 := f0
                    subst g0
                    have BS := E0.out hLi
                    refine wpOp_doG 2 (by rfl) (by rfl) ?_
                    refine wpo_storeB 28 (.tmp 3) (.tmp 123) za 0 (stC 5 noV vc) (stC 5 noV va) 28 infoSt (show 0 + 6 ≤ 6 by decide) (stC_one _ _ HV1vc.out) rfl rfl rfl BS.s ?_
                    intro wn BP ho
                    replace BP : Blk wn za (stC 5 noV vc) 28 := BP
                    simp only [Act.put, List.setIfInBounds_toArray, List.set_cons_zero, List.set_cons_succ]
                    show I (putL L 2) _ _
                    exact (HI.out (putL L 2) _ _).2 ⟨_, _, rfl, below_oth HS.out ho BS.z BS.z HS.out.size, fun h => (by rw [putL_self] at h; cases h), fun h => (E1.out ((putL_ne (i := 2) (by decide)).symm.trans h)).oth ho BS.s (by have h1 := HNe.out; have h2 := HZ.out; omega), E2.out.oth ho BS.s (by have h1 := HNe.out; have h2 := HZ.out; omega), E3.out.oth ho BS.s (by have h1 := HNe.out; have h2 := HZ.out; omega), fun h => (by first | exact F0.out ((putL_ne (i := 2) (by decide)).symm.trans h) | rfl), fun h => (by first | exact F1.out ((putL_ne (i := 2) (by decide)).symm.trans h) | rfl), fun _ => ⟨BP, E2.out.l.oth ho BS.s (by decide), BS.z⟩, fun h => (fun q => q.oth ho BS.s (by have h1 := HNe.out; have h2 := HZ.out; omega)) (F3.out ((putL_ne (i := 2) (by decide)).symm.trans h))⟩
                  · have f1 := F1.out (hanc 1 (by decide))
                    have g1 := f1
                    subst g1
                    have BS := E1.out hLi
                    refine wpOp_doG 3 (by rfl) (by rfl) ?_
                    refine wpo_storeB 28 (.tmp 5) (.tmp 124) zb 0 (stC 6 noV vd) (stC 6 noV vb) 28 infoSt (show 0 + 6 ≤ 6 by decide) (stC_one _ _ HV1vd.out) rfl rfl rfl BS.s ?_
                    intro wn BP ho
                    replace BP : Blk wn zb (stC 6 noV vd) 28 := BP
                    simp only [Act.put, List.setIfInBounds_toArray, List.set_cons_zero, List.set_cons_succ]
                    show I (putL L 3) _ _
                    exact (HI.out (putL L 3) _ _).2 ⟨_, _, rfl, below_oth HS.out ho BS.z BS.z HS.out.size, fun h => (E0.out ((putL_ne (i := 3) (by decide)).symm.trans h)).oth ho BS.s (by have h1 := HNe.out; have h2 := HZ.out; omega), fun h => (by rw [putL_self] at h; cases h), E2.out.oth ho BS.s (by have h1 := HNe.out; have h2 := HZ.out; omega), E3.out.oth ho BS.s (by have h1 := HNe.out; have h2 := HZ.out; omega), fun h => (by first | exact F0.out ((putL_ne (i := 3) (by decide)).symm.trans h) | rfl), fun h => (by first | exact F1.out ((putL_ne (i := 3) (by decide)).symm.trans h) | rfl), fun h => (fun q => q.oth ho BS.s (by have h1 := HNe.out; have h2 := HZ.out; omega)) (F2.out ((putL_ne (i := 3) (by decide)).symm.trans h)), fun _ => ⟨BP, E3.out.l.oth ho BS.s (by decide), BS.z⟩⟩
                · intro L act wx hall hIa
                  obtain ⟨t123, t124, rfl, HS, E0, E1, E2, E3, F0, F1, F2, F3⟩ := (HI.out _ _ _).1 hIa
                  have f0 := F0.out (hall 0 (by decide))
                  have f1 := F1.out (hall 1 (by decide))
                  have f2 := F2.out (hall 2 (by decide))
                  have f3 := F3.out (hall 3 (by decide))
                  clear hIa HI F0 F1 F2 F3
                  show K6 _ _
                  apply hK6
                  clear hK6 K6
                  have HE : Hid (Below w.heap.size w wx ∧ L2 w wx za zb (xs.drop (r + 1)) (xs.take (k - (r + 1)))) := by
                    refine ⟨HS.out, vc, vd, ?_, ?_⟩
                    · rw [← pop_drop]; exact f2
                    · have e : k - (r + 1) = k - r - 1 := by omega
                      rw [e, ← pop_take xs (k - r) (by rw [HN.out]; omega)]; exact f3
                  generalize wx = w15 at HE ⊢
                  clear HDB HDq E0 E1 E2 E3 f0 f1 f2 f3
                  go_wp2_with fail
                  go_roundw
                  case rel => exact ⟨r + 1, by omega, by go_num, HE.out.2, HE.out.1⟩
                  case measure => simp [intOf]; omega
          have HTl : Hid (∀ (w' : World) (x1 y1 : Val), Blk w' qx (encV x1) 25 → Blk w' qy (encV y1) 25 → topQ 5 (xs.drop r) = x1 → topQ 6 (xs.take (k - r)) = y1 → Hq 5 w w' za va (xs.drop r) → Hq 6 w w' zb vb (xs.take (k - r)) → Below w.heap.size w w' → ∀ t73 t74 t75 t76 t77 t78 t79 t80 t81 t82 t83 t84 t85 t86 t87 t88 : Value, K9 ⟨#[Value.slice a k c, undef, u2, Value.pointer (some ⟨za, 0, none⟩), Value.bool true, Value.pointer (some ⟨zb, 0, none⟩), Value.bool true, undef, u8, Value.int .i64 (r : Int), Value.pointer (some ⟨qx, 0, none⟩), Value.pointer (some ⟨qy, 0, none⟩), u12, u13, u14, u15, u16, u17, Value.bool true, Value.bool false, Value.slice a k c, Value.int .i64 (k : Int), Value.bool (decide (40 < (k : Int))), Value.tuple #[Value.agg #[Value.int .i64 5, Value.int .i64 0, Value.int .i64 0, Value.string noB, Value.int .i64 0, nilS], Value.bool true], Value.tuple #[Value.agg #[Value.int .i64 5, Value.int .i64 0, Value.int .i64 0, Value.string noB, Value.int .i64 0, nilS], Value.bool true], Value.agg #[Value.int .i64 5, Value.int .i64 0, Value.int .i64 0, Value.string noB, Value.int .i64 0, nilS], Value.bool true, Value.tuple #[Value.agg #[Value.int .i64 6, Value.int .i64 0, Value.int .i64 0, Value.string noB, Value.int .i64 0, nilS], Value.bool true], Value.tuple #[Value.agg #[Value.int .i64 6, Value.int .i64 0, Value.int .i64 0, Value.string noB, Value.int .i64 0, nilS], Value.bool true], Value.agg #[Value.int .i64 6, Value.int .i64 0, Value.int .i64 0, Value.string noB, Value.int .i64 0, nilS], Value.bool true, Value.slice a k c, Value.int .i64 (k : Int), Value.int .i64 (k : Int), Value.bool false, u35, u36, u37, u38, u39, u40, u41, u42, u43, u44, u45, u46, u47, u48, u49, u50, u51, u52, u53, u54, u55, u56, u57, u58, u59, u60, u61, u62, u63, u64, Value.slice a k c, Value.int .i64 (k : Int), Value.int .i64 ((k : Int) + 1), Value.int .i64 (r : Int), Value.bool true, Value.int .i64 (r : Int), Value.agg #[Value.int .i64 0, Value.int .i64 0, Value.string ⟨#[]⟩], Value.agg #[Value.int .i64 0, Value.int .i64 0, Value.string ⟨#[]⟩], t73, t74, t75, t76, t77, t78, t79, t80, t81, t82, t83, t84, t85, t86, t87, t88, u89, u90, u91, u92, u93, u94, u95, u96, u97, u98, u99, u100, u101, u102, u103, u104, u105, u106, u107, u108, u109, u110, u111, u112, u113, u114, u115, u116, u117, u118, u119, u120, u121, u122, u123, u124, u125, undef, undef, undef, undef, undef, undef, undef, undef, undef, undef], []⟩ w') := tail
          clear tail hK9
          by_cases hrk : r < k
          · have hrk' : (r : Int) < (k : Int) := by omega
            obtain ⟨b, o, c', hv1, hbl, _, hat⟩ := vsl_first HV.out (by rw [HN.out]; omega)
            injection hv1 with hv1 hv2 hv3
            subst hv1 hv3
            clear hv2
            obtain ⟨p, hp⟩ : ∃ p, p = k - 1 - r := ⟨_, rfl⟩
            have hpk : p < k := by omega
            have hpk' : (p : Int) < (k : Int) := by omega
            obtain ⟨x1, hx1⟩ : ∃ x, nv xs r = x := ⟨_, rfl⟩
            obtain ⟨y1, hy1⟩ : ∃ x, nv xs p = x := ⟨_, rfl⟩
            have HEx : Hid (∀ wx, StW w wx → wx.rangeAt b (o + r * 3) (encV x1)) := by rw [← hx1]; exact fun wx hx => at_range ((hat r (by rw [HN.out]; exact hrk)).later hbl hx)
            have HEy : Hid (∀ wx, StW w wx → wx.rangeAt b (o + p * 3) (encV y1)) := by rw [← hy1]; exact fun wx hx => at_range ((hat p (by rw [HN.out]; exact hpk)).later hbl hx)
            have HTx : Hid (topQ 5 (xs.drop r) = x1) := by rw [← hx1]; exact fst_drop xs r (by rw [HN.out]; exact hrk)
            have HTy : Hid (topQ 6 (xs.take (k - r)) = y1) := by
              have e : k - r = p + 1 := by omega
              rw [e, ← hy1]; exact lst_take xs p (by rw [HN.out]; exact hpk)
            have hs1 : (k : Int) - 1 = ((k - 1 : Nat) : Int) := by omega
            obtain ⟨k1, hk1⟩ : ∃ k1, k - 1 = k1 := ⟨_, rfl⟩
            rw [hk1] at hs1
            have hs2 : (k1 : Int) - (r : Int) = (p : Int) := by omega
            clear hat hbl hx1 hy1 hp hk1
            go_wp2_with fail
            obtain ⟨I, hI⟩ : ∃ I : (Nat → Bool) → Act → World → Prop, ∀ L act wx, I L act wx ↔ (fun (L : Nat → Bool) (act : Act) (wx : World) => ∃ (t77 : Value) (t78 : Value) (t79 : Value) (t80 : Value) (t81 : Value) (t82 : Value) (t83 : Value) (t84 : Value) (t85 : Value) (t86 : Value) (t87 : Value) (t88 : Value) , act = ⟨#[Value.slice (some ⟨b, o, none⟩) k c, undef, u2, Value.pointer (some ⟨za, 0, none⟩), Value.bool true, Value.pointer (some ⟨zb, 0, none⟩), Value.bool true, undef, u8, Value.int .i64 (r : Int), Value.pointer (some ⟨qx, 0, none⟩), Value.pointer (some ⟨qy, 0, none⟩), u12, u13, u14, u15, u16, u17, Value.bool true, Value.bool false, Value.slice (some ⟨b, o, none⟩) k c, Value.int .i64 (k : Int), Value.bool (decide (40 < (k : Int))), Value.tuple #[Value.agg #[Value.int .i64 5, Value.int .i64 0, Value.int .i64 0, Value.string noB, Value.int .i64 0, nilS], Value.bool true], Value.tuple #[Value.agg #[Value.int .i64 5, Value.int .i64 0, Value.int .i64 0, Value.string noB, Value.int .i64 0, nilS], Value.bool true], Value.agg #[Value.int .i64 5, Value.int .i64 0, Value.int .i64 0, Value.string noB, Value.int .i64 0, nilS], Value.bool true, Value.tuple #[Value.agg #[Value.int .i64 6, Value.int .i64 0, Value.int .i64 0, Value.string noB, Value.int .i64 0, nilS], Value.bool true], Value.tuple #[Value.agg #[Value.int .i64 6, Value.int .i64 0, Value.int .i64 0, Value.string noB, Value.int .i64 0, nilS], Value.bool true], Value.agg #[Value.int .i64 6, Value.int .i64 0, Value.int .i64 0, Value.string noB, Value.int .i64 0, nilS], Value.bool true, Value.slice (some ⟨b, o, none⟩) k c, Value.int .i64 (k : Int), Value.int .i64 (k : Int), Value.bool false, u35, u36, u37, u38, u39, u40, u41, u42, u43, u44, u45, u46, u47, u48, u49, u50, u51, u52, u53, u54, u55, u56, u57, u58, u59, u60, u61, u62, u63, u64, Value.slice (some ⟨b, o, none⟩) k c, Value.int .i64 (k : Int), Value.int .i64 ((k : Int) + 1), Value.int .i64 (r : Int), Value.bool true, Value.int .i64 (r : Int), Value.agg #[Value.int .i64 0, Value.int .i64 0, Value.string ⟨#[]⟩], Value.agg #[Value.int .i64 0, Value.int .i64 0, Value.string ⟨#[]⟩], Value.int .i64 (r : Int), Value.slice (some ⟨b, o, none⟩) k c, Value.int .i64 (k : Int), Value.bool true, t77, t78, t79, t80, t81, t82, t83, t84, t85, t86, t87, t88, u89, u90, u91, u92, u93, u94, u95, u96, u97, u98, u99, u100, u101, u102, u103, u104, u105, u106, u107, u108, u109, u110, u111, u112, u113, u114, u115, u116, u117, u118, u119, u120, u121, u122, u123, u124, u125, undef, undef, undef, undef, undef, undef, undef, undef, undef, undef], []⟩ ∧ Hid (StW w wx) ∧ Hid (L 12 = false → Blk wx qx (encV noV) 25) ∧ Hid (L 13 = false → Blk wx qy (encV noV) 25) ∧ Hid (Hq 5 w wx za va (xs.drop r)) ∧ Hid (Hq 6 w wx zb vb (xs.take (k - r))) ∧ Hid (L 0 = true → t77 = .slice (some ⟨b, o, none⟩) k c) ∧ Hid (L 1 = true → t78 = .int .i64 (r : Int)) ∧ Hid (L 2 = true → t79 = .pointer (some ⟨b, o + r * 3, none⟩)) ∧ Hid (L 3 = true → t80 = .agg #[.int .i64 x1.1, .int .i64 x1.2.1, .string x1.2.2]) ∧ Hid (L 4 = true → t81 = .slice (some ⟨b, o, none⟩) k c) ∧ Hid (L 5 = true → t82 = .slice (some ⟨b, o, none⟩) k c) ∧ Hid (L 6 = true → t83 = .int .i64 (k : Int)) ∧ Hid (L 7 = true → t84 = .int .i64 (k1 : Int)) ∧ Hid (L 8 = true → t85 = .int .i64 (r : Int)) ∧ Hid (L 9 = true → t86 = .int .i64 (p : Int)) ∧ Hid (L 10 = true → t87 = .pointer (some ⟨b, o + p * 3, none⟩)) ∧ Hid (L 11 = true → t88 = .agg #[.int .i64 y1.1, .int .i64 y1.2.1, .string y1.2.2]) ∧ Hid (L 12 = true → Blk wx qx (encV x1) 25) ∧ Hid (L 13 = true → Blk wx qy (encV y1) 25)) L act wx := ⟨_, fun _ _ _ => Iff.rfl⟩
            dsimp only at hI
            have HI : Hid (∀ L act wx, I L act wx ↔ _) := hI
            clear hI
            refine wp_region_inv mixed [[], [], [0, 1], [0, 1, 2], [], [], [5], [5, 6], [], [5, 6, 7, 8], [4, 5, 6, 7, 8, 9], [4, 5, 6, 7, 8, 9, 10], [0, 1, 2, 3], [4, 5, 6, 7, 8, 9, 10, 11]] (by kernel_rfl) I ?_ ?_ ?_
            · refine (HI.out _ _ _).2 ⟨_, _, _, _, _, _, _, _, _, _, _, _, rfl, ?_, ?_, ?_, ?_, ?_, fun h => Bool.noConfusion h, fun h => Bool.noConfusion h, fun h => Bool.noConfusion h, fun h => Bool.noConfusion h, fun h => Bool.noConfusion h, fun h => Bool.noConfusion h, fun h => Bool.noConfusion h, fun h => Bool.noConfusion h, fun h => Bool.noConfusion h, fun h => Bool.noConfusion h, fun h => Bool.noConfusion h, fun h => Bool.noConfusion h, fun h => Bool.noConfusion h, fun h => Bool.noConfusion h⟩
              · exact below_next HB2.out (Stay.drew _)
              · exact fun _ => HX2.out.later (Stay.drew _)
              · exact fun _ => HY2.out.later (Stay.drew _)
              · exact HSa2.out.later (Stay.drew _)
              · exact HSb2.out.later (Stay.drew _)
            · intro i hi L act wx hIa hLi hcl hanc
              obtain ⟨t77, t78, t79, t80, t81, t82, t83, t84, t85, t86, t87, t88, rfl, HS, E0, E1, E2, E3, F0, F1, F2, F3, F4, F5, F6, F7, F8, F9, F10, F11, F12, F13⟩ := (HI.out _ _ _).1 hIa
              clear hIa
              have hi' : i = 0 ∨ i = 1 ∨ i = 2 ∨ i = 3 ∨ i = 4 ∨ i = 5 ∨ i = 6 ∨ i = 7 ∨ i = 8 ∨ i = 9 ∨ i = 10 ∨ i = 11 ∨ i = 12 ∨ i = 13 := by have hi : i < 14 := hi; omega
              clear hi
              rcases hi' with rfl | rfl | rfl | rfl | rfl | rfl | rfl | rfl | rfl | rfl | rfl | rfl | rfl | rfl
              · refine YieldsIf.wpOp (S := fun _ => True) (v := .slice (some ⟨b, o, none⟩) k c) (by rfl) (.inl ⟨rfl, fun w _ => rfl⟩) trivial ?_
                simp only [Act.put, List.setIfInBounds_toArray, List.set_cons_zero, List.set_cons_succ]
                have hb : Below wx.heap.size wx wx := Below.refl _ _
                show I (putL L 0) _ _
                exact (HI.out (putL L 0) _ _).2 ⟨_, _, _, _, _, _, _, _, _, _, _, _, rfl, HS.out.later hb, fun h => (E0.out ((putL_ne (i := 0) (by decide)).symm.trans h)).later hb, fun h => (E1.out ((putL_ne (i := 0) (by decide)).symm.trans h)).later hb, E2.out.later hb, E3.out.later hb, fun _ => rfl, fun h => (by first | exact F1.out ((putL_ne (i := 0) (by decide)).symm.trans h) | rfl), fun h => absurd (hcl 2 ((putL_ne (i := 0) (by decide)).symm.trans h) 0 (by decide)) (by rw [hLi]; decide), fun h => absurd (hcl 3 ((putL_ne (i := 0) (by decide)).symm.trans h) 0 (by decide)) (by rw [hLi]; decide), fun h => (by first | exact F4.out ((putL_ne (i := 0) (by decide)).symm.trans h) | rfl), fun h => (by first | exact F5.out ((putL_ne (i := 0) (by decide)).symm.trans h) | rfl), fun h => (by first | exact F6.out ((putL_ne (i := 0) (by decide)).symm.trans h) | rfl), fun h => (by first | exact F7.out ((putL_ne (i := 0) (by decide)).symm.trans h) | rfl), fun h => (by first | exact F8.out ((putL_ne (i := 0) (by decide)).symm.trans h) | rfl), fun h => (by first | exact F9.out ((putL_ne (i := 0) (by decide)).symm.trans h) | rfl), fun h => (by first | exact F10.out ((putL_ne (i := 0) (by decide)).symm.trans h) | rfl), fun h => (by first | exact F11.out ((putL_ne (i := 0) (by decide)).symm.trans h) | rfl), fun h => absurd (hcl 12 ((putL_ne (i := 0) (by decide)).symm.trans h) 0 (by decide)) (by rw [hLi]; decide), fun h => (fun q => q.later hb) (F13.out ((putL_ne (i := 0) (by decide)).symm.trans h))⟩
              · refine YieldsIf.wpOp (S := fun _ => True) (v := .int .i64 (r : Int)) (by rfl) (.inl ⟨rfl, fun w _ => rfl⟩) trivial ?_
                simp only [Act.put, List.setIfInBounds_toArray, List.set_cons_zero, List.set_cons_succ]
                have hb : Below wx.heap.size wx wx := Below.refl _ _
                show I (putL L 1) _ _
                exact (HI.out (putL L 1) _ _).2 ⟨_, _, _, _, _, _, _, _, _, _, _, _, rfl, HS.out.later hb, fun h => (E0.out ((putL_ne (i := 1) (by decide)).symm.trans h)).later hb, fun h => (E1.out ((putL_ne (i := 1) (by decide)).symm.trans h)).later hb, E2.out.later hb, E3.out.later hb, fun h => (by first | exact F0.out ((putL_ne (i := 1) (by decide)).symm.trans h) | rfl), fun _ => rfl, fun h => absurd (hcl 2 ((putL_ne (i := 1) (by decide)).symm.trans h) 1 (by decide)) (by rw [hLi]; decide), fun h => absurd (hcl 3 ((putL_ne (i := 1) (by decide)).symm.trans h) 1 (by decide)) (by rw [hLi]; decide), fun h => (by first | exact F4.out ((putL_ne (i := 1) (by decide)).symm.trans h) | rfl), fun h => (by first | exact F5.out ((putL_ne (i := 1) (by decide)).symm.trans h) | rfl), fun h => (by first | exact F6.out ((putL_ne (i := 1) (by decide)).symm.trans h) | rfl), fun h => (by first | exact F7.out ((putL_ne (i := 1) (by decide)).symm.trans h) | rfl), fun h => (by first | exact F8.out ((putL_ne (i := 1) (by decide)).symm.trans h) | rfl), fun h => (by first | exact F9.out ((putL_ne (i := 1) (by decide)).symm.trans h) | rfl), fun h => (by first | exact F10.out ((putL_ne (i := 1) (by decide)).symm.trans h) | rfl), fun h => (by first | exact F11.out ((putL_ne (i := 1) (by decide)).symm.trans h) | rfl), fun h => absurd (hcl 12 ((putL_ne (i := 1) (by decide)).symm.trans h) 1 (by decide)) (by rw [hLi]; decide), fun h => (fun q => q.later hb) (F13.out ((putL_ne (i := 1) (by decide)).symm.trans h))⟩
              · have f0 := F0.out (hanc 0 (by decide))
                have f1 := F1.out (hanc 1 (by decide))
                have g0 := f0
                subst g0
                have g1 := f1
                subst g1
                refine YieldsIf.wpOp (S := fun _ => True) (v := .pointer (some ⟨b, o + r * 3, none⟩)) (by rfl) (.inl ⟨rfl, fun w _ => by go_simp⟩) trivial ?_
                simp only [Act.put, List.setIfInBounds_toArray, List.set_cons_zero, List.set_cons_succ]
                have hb : Below wx.heap.size wx wx := Below.refl _ _
                show I (putL L 2) _ _
                exact (HI.out (putL L 2) _ _).2 ⟨_, _, _, _, _, _, _, _, _, _, _, _, rfl, HS.out.later hb, fun h => (E0.out ((putL_ne (i := 2) (by decide)).symm.trans h)).later hb, fun h => (E1.out ((putL_ne (i := 2) (by decide)).symm.trans h)).later hb, E2.out.later hb, E3.out.later hb, fun h => (by first | exact F0.out ((putL_ne (i := 2) (by decide)).symm.trans h) | rfl), fun h => (by first | exact F1.out ((putL_ne (i := 2) (by decide)).symm.trans h) | rfl), fun _ => rfl, fun h => absurd (hcl 3 ((putL_ne (i := 2) (by decide)).symm.trans h) 2 (by decide)) (by rw [hLi]; decide), fun h => (by first | exact F4.out ((putL_ne (i := 2) (by decide)).symm.trans h) | rfl), fun h => (by first | exact F5.out ((putL_ne (i := 2) (by decide)).symm.trans h) | rfl), fun h => (by first | exact F6.out ((putL_ne (i := 2) (by decide)).symm.trans h) | rfl), fun h => (by first | exact F7.out ((putL_ne (i := 2) (by decide)).symm.trans h) | rfl), fun h => (by first | exact F8.out ((putL_ne (i := 2) (by decide)).symm.trans h) | rfl), fun h => (by first | exact F9.out ((putL_ne (i := 2) (by decide)).symm.trans h) | rfl), fun h => (by first | exact F10.out ((putL_ne (i := 2) (by decide)).symm.trans h) | rfl), fun h => (by first | exact F11.out ((putL_ne (i := 2) (by decide)).symm.trans h) | rfl), fun h => absurd (hcl 12 ((putL_ne (i := 2) (by decide)).symm.trans h) 2 (by decide)) (by rw [hLi]; decide), fun h => (fun q => q.later hb) (F13.out ((putL_ne (i := 2) (by decide)).symm.trans h))⟩
              · have f0 := F0.out (hanc 0 (by decide))
                have f1 := F1.out (hanc 1 (by decide))
                have f2 := F2.out (hanc 2 (by decide))
                have g2 := f2
                subst g2
                refine wpOp_doG 3 (by rfl) (by rfl) ?_
                refine wp_load_mid 25 (.tmp 79) rfl b (o + r * 3) rfl (encV x1) _ (HEx.out wx HS.out) Tryd.underlying25 rfl infoVv ?_
                simp only [Act.put, List.setIfInBounds_toArray, List.set_cons_zero, List.set_cons_succ]
                have hb : Below wx.heap.size wx wx := Below.refl _ _
                show I (putL L 3) _ _
                exact (HI.out (putL L 3) _ _).2 ⟨_, _, _, _, _, _, _, _, _, _, _, _, rfl, HS.out.later hb, fun h => (E0.out ((putL_ne (i := 3) (by decide)).symm.trans h)).later hb, fun h => (E1.out ((putL_ne (i := 3) (by decide)).symm.trans h)).later hb, E2.out.later hb, E3.out.later hb, fun h => (by first | exact F0.out ((putL_ne (i := 3) (by decide)).symm.trans h) | rfl), fun h => (by first | exact F1.out ((putL_ne (i := 3) (by decide)).symm.trans h) | rfl), fun h => (by first | exact F2.out ((putL_ne (i := 3) (by decide)).symm.trans h) | rfl), fun _ => rfl, fun h => (by first | exact F4.out ((putL_ne (i := 3) (by decide)).symm.trans h) | rfl), fun h => (by first | exact F5.out ((putL_ne (i := 3) (by decide)).symm.trans h) | rfl), fun h => (by first | exact F6.out ((putL_ne (i := 3) (by decide)).symm.trans h) | rfl), fun h => (by first | exact F7.out ((putL_ne (i := 3) (by decide)).symm.trans h) | rfl), fun h => (by first | exact F8.out ((putL_ne (i := 3) (by decide)).symm.trans h) | rfl), fun h => (by first | exact F9.out ((putL_ne (i := 3) (by decide)).symm.trans h) | rfl), fun h => (by first | exact F10.out ((putL_ne (i := 3) (by decide)).symm.trans h) | rfl), fun h => (by first | exact F11.out ((putL_ne (i := 3) (by decide)).symm.trans h) | rfl), fun h => absurd (hcl 12 ((putL_ne (i := 3) (by decide)).symm.trans h) 3 (by decide)) (by rw [hLi]; decide), fun h => (fun q => q.later hb) (F13.out ((putL_ne (i := 3) (by decide)).symm.trans h))⟩
              · refine YieldsIf.wpOp (S := fun _ => True) (v := .slice (some ⟨b, o, none⟩) k c) (by rfl) (.inl ⟨rfl, fun w _ => rfl⟩) trivial ?_
                simp only [Act.put, List.setIfInBounds_toArray, List.set_cons_zero, List.set_cons_succ]
                have hb : Below wx.heap.size wx wx := Below.refl _ _
                show I (putL L 4) _ _
                exact (HI.out (putL L 4) _ _).2 ⟨_, _, _, _, _, _, _, _, _, _, _, _, rfl, HS.out.later hb, fun h => (E0.out ((putL_ne (i := 4) (by decide)).symm.trans h)).later hb, fun h => (E1.out ((putL_ne (i := 4) (by decide)).symm.trans h)).later hb, E2.out.later hb, E3.out.later hb, fun h => (by first | exact F0.out ((putL_ne (i := 4) (by decide)).symm.trans h) | rfl), fun h => (by first | exact F1.out ((putL_ne (i := 4) (by decide)).symm.trans h) | rfl), fun h => (by first | exact F2.out ((putL_ne (i := 4) (by decide)).symm.trans h) | rfl), fun h => (by first | exact F3.out ((putL_ne (i := 4) (by decide)).symm.trans h) | rfl), fun _ => rfl, fun h => (by first | exact F5.out ((putL_ne (i := 4) (by decide)).symm.trans h) | rfl), fun h => (by first | exact F6.out ((putL_ne (i := 4) (by decide)).symm.trans h) | rfl), fun h => (by first | exact F7.out ((putL_ne (i := 4) (by decide)).symm.trans h) | rfl), fun h => (by first | exact F8.out ((putL_ne (i := 4) (by decide)).symm.trans h) | rfl), fun h => (by first | exact F9.out ((putL_ne (i := 4) (by decide)).symm.trans h) | rfl), fun h => absurd (hcl 10 ((putL_ne (i := 4) (by decide)).symm.trans h) 4 (by decide)) (by rw [hLi]; decide), fun h => absurd (hcl 11 ((putL_ne (i := 4) (by decide)).symm.trans h) 4 (by decide)) (by rw [hLi]; decide), fun h => (fun q => q.later hb) (F12.out ((putL_ne (i := 4) (by decide)).symm.trans h)), fun h => absurd (hcl 13 ((putL_ne (i := 4) (by decide)).symm.trans h) 4 (by decide)) (by rw [hLi]; decide)⟩
              · refine YieldsIf.wpOp (S := fun _ => True) (v := .slice (some ⟨b, o, none⟩) k c) (by rfl) (.inl ⟨rfl, fun w _ => rfl⟩) trivial ?_
                simp only [Act.put, List.setIfInBounds_toArray, List.set_cons_zero, List.set_cons_succ]
                have hb : Below wx.heap.size wx wx := Below.refl _ _
                show I (putL L 5) _ _
                exact (HI.out (putL L 5) _ _).2 ⟨_, _, _, _, _, _, _, _, _, _, _, _, rfl, HS.out.later hb, fun h => (E0.out ((putL_ne (i := 5) (by decide)).symm.trans h)).later hb, fun h => (E1.out ((putL_ne (i := 5) (by decide)).symm.trans h)).later hb, E2.out.later hb, E3.out.later hb, fun h => (by first | exact F0.out ((putL_ne (i := 5) (by decide)).symm.trans h) | rfl), fun h => (by first | exact F1.out ((putL_ne (i := 5) (by decide)).symm.trans h) | rfl), fun h => (by first | exact F2.out ((putL_ne (i := 5) (by decide)).symm.trans h) | rfl), fun h => (by first | exact F3.out ((putL_ne (i := 5) (by decide)).symm.trans h) | rfl), fun h => (by first | exact F4.out ((putL_ne (i := 5) (by decide)).symm.trans h) | rfl), fun _ => rfl, fun h => absurd (hcl 6 ((putL_ne (i := 5) (by decide)).symm.trans h) 5 (by decide)) (by rw [hLi]; decide), fun h => absurd (hcl 7 ((putL_ne (i := 5) (by decide)).symm.trans h) 5 (by decide)) (by rw [hLi]; decide), fun h => (by first | exact F8.out ((putL_ne (i := 5) (by decide)).symm.trans h) | rfl), fun h => absurd (hcl 9 ((putL_ne (i := 5) (by decide)).symm.trans h) 5 (by decide)) (by rw [hLi]; decide), fun h => absurd (hcl 10 ((putL_ne (i := 5) (by decide)).symm.trans h) 5 (by decide)) (by rw [hLi]; decide), fun h => absurd (hcl 11 ((putL_ne (i := 5) (by decide)).symm.trans h) 5 (by decide)) (by rw [hLi]; decide), fun h => (fun q => q.later hb) (F12.out ((putL_ne (i := 5) (by decide)).symm.trans h)), fun h => absurd (hcl 13 ((putL_ne (i := 5) (by decide)).symm.trans h) 5 (by decide)) (by rw [hLi]; decide)⟩
              · have f5 := F5.out (hanc 5 (by decide))
                have g5 := f5
                subst g5
                refine YieldsIf.wpOp (S := fun _ => True) (v := .int .i64 (k : Int)) (by rfl) (.inl ⟨rfl, fun w _ => by go_simp⟩) trivial ?_
                simp only [Act.put, List.setIfInBounds_toArray, List.set_cons_zero, List.set_cons_succ]
                have hb : Below wx.heap.size wx wx := Below.refl _ _
                show I (putL L 6) _ _
                exact (HI.out (putL L 6) _ _).2 ⟨_, _, _, _, _, _, _, _, _, _, _, _, rfl, HS.out.later hb, fun h => (E0.out ((putL_ne (i := 6) (by decide)).symm.trans h)).later hb, fun h => (E1.out ((putL_ne (i := 6) (by decide)).symm.trans h)).later hb, E2.out.later hb, E3.out.later hb, fun h => (by first | exact F0.out ((putL_ne (i := 6) (by decide)).symm.trans h) | rfl), fun h => (by first | exact F1.out ((putL_ne (i := 6) (by decide)).symm.trans h) | rfl), fun h => (by first | exact F2.out ((putL_ne (i := 6) (by decide)).symm.trans h) | rfl), fun h => (by first | exact F3.out ((putL_ne (i := 6) (by decide)).symm.trans h) | rfl), fun h => (by first | exact F4.out ((putL_ne (i := 6) (by decide)).symm.trans h) | rfl), fun h => (by first | exact F5.out ((putL_ne (i := 6) (by decide)).symm.trans h) | rfl), fun _ => rfl, fun h => absurd (hcl 7 ((putL_ne (i := 6) (by decide)).symm.trans h) 6 (by decide)) (by rw [hLi]; decide), fun h => (by first | exact F8.out ((putL_ne (i := 6) (by decide)).symm.trans h) | rfl), fun h => absurd (hcl 9 ((putL_ne (i := 6) (by decide)).symm.trans h) 6 (by decide)) (by rw [hLi]; decide), fun h => absurd (hcl 10 ((putL_ne (i := 6) (by decide)).symm.trans h) 6 (by decide)) (by rw [hLi]; decide), fun h => absurd (hcl 11 ((putL_ne (i := 6) (by decide)).symm.trans h) 6 (by decide)) (by rw [hLi]; decide), fun h => (fun q => q.later hb) (F12.out ((putL_ne (i := 6) (by decide)).symm.trans h)), fun h => absurd (hcl 13 ((putL_ne (i := 6) (by decide)).symm.trans h) 6 (by decide)) (by rw [hLi]; decide)⟩
              · have f5 := F5.out (hanc 5 (by decide))
                have f6 := F6.out (hanc 6 (by decide))
                have g6 := f6
                subst g6
                refine YieldsIf.wpOp (S := fun _ => True) (v := .int .i64 (k1 : Int)) (by rfl) (.inl ⟨rfl, fun w _ => (by go_simp; first | rfl | omega | exact IntWalk.i64_in _ ⟨by omega, by omega⟩)⟩) trivial ?_
                simp only [Act.put, List.setIfInBounds_toArray, List.set_cons_zero, List.set_cons_succ]
                have hb : Below wx.heap.size wx wx := Below.refl _ _
                show I (putL L 7) _ _
                exact (HI.out (putL L 7) _ _).2 ⟨_, _, _, _, _, _, _, _, _, _, _, _, rfl, HS.out.later hb, fun h => (E0.out ((putL_ne (i := 7) (by decide)).symm.trans h)).later hb, fun h => (E1.out ((putL_ne (i := 7) (by decide)).symm.trans h)).later hb, E2.out.later hb, E3.out.later hb, fun h => (by first | exact F0.out ((putL_ne (i := 7) (by decide)).symm.trans h) | rfl), fun h => (by first | exact F1.out ((putL_ne (i := 7) (by decide)).symm.trans h) | rfl), fun h => (by first | exact F2.out ((putL_ne (i := 7) (by decide)).symm.trans h) | rfl), fun h => (by first | exact F3.out ((putL_ne (i := 7) (by decide)).symm.trans h) | rfl), fun h => (by first | exact F4.out ((putL_ne (i := 7) (by decide)).symm.trans h) | rfl), fun h => (by first | exact F5.out ((putL_ne (i := 7) (by decide)).symm.trans h) | rfl), fun h => (by first | exact F6.out ((putL_ne (i := 7) (by decide)).symm.trans h) | rfl), fun _ => rfl, fun h => (by first | exact F8.out ((putL_ne (i := 7) (by decide)).symm.trans h) | rfl), fun h => absurd (hcl 9 ((putL_ne (i := 7) (by decide)).symm.trans h) 7 (by decide)) (by rw [hLi]; decide), fun h => absurd (hcl 10 ((putL_ne (i := 7) (by decide)).symm.trans h) 7 (by decide)) (by rw [hLi]; decide), fun h => absurd (hcl 11 ((putL_ne (i := 7) (by decide)).symm.trans h) 7 (by decide)) (by rw [hLi]; decide), fun h => (fun q => q.later hb) (F12.out ((putL_ne (i := 7) (by decide)).symm.trans h)), fun h => absurd (hcl 13 ((putL_ne (i := 7) (by decide)).symm.trans h) 7 (by decide)) (by rw [hLi]; decide)⟩
              · refine YieldsIf.wpOp (S := fun _ => True) (v := .int .i64 (r : Int)) (by rfl) (.inl ⟨rfl, fun w _ => rfl⟩) trivial ?_
                simp only [Act.put, List.setIfInBounds_toArray, List.set_cons_zero, List.set_cons_succ]
                have hb : Below wx.heap.size wx wx := Below.refl _ _
                show I (putL L 8) _ _
                exact (HI.out (putL L 8) _ _).2 ⟨_, _, _, _, _, _, _, _, _, _, _, _, rfl, HS.out.later hb, fun h => (E0.out ((putL_ne (i := 8) (by decide)).symm.trans h)).later hb, fun h => (E1.out ((putL_ne (i := 8) (by decide)).symm.trans h)).later hb, E2.out.later hb, E3.out.later hb, fun h => (by first | exact F0.out ((putL_ne (i := 8) (by decide)).symm.trans h) | rfl), fun h => (by first | exact F1.out ((putL_ne (i := 8) (by decide)).symm.trans h) | rfl), fun h => (by first | exact F2.out ((putL_ne (i := 8) (by decide)).symm.trans h) | rfl), fun h => (by first | exact F3.out ((putL_ne (i := 8) (by decide)).symm.trans h) | rfl), fun h => (by first | exact F4.out ((putL_ne (i := 8) (by decide)).symm.trans h) | rfl), fun h => (by first | exact F5.out ((putL_ne (i := 8) (by decide)).symm.trans h) | rfl), fun h => (by first | exact F6.out ((putL_ne (i := 8) (by decide)).symm.trans h) | rfl), fun h => (by first | exact F7.out ((putL_ne (i := 8) (by decide)).symm.trans h) | rfl), fun _ => rfl, fun h => absurd (hcl 9 ((putL_ne (i := 8) (by decide)).symm.trans h) 8 (by decide)) (by rw [hLi]; decide), fun h => absurd (hcl 10 ((putL_ne (i := 8) (by decide)).symm.trans h) 8 (by decide)) (by rw [hLi]; decide), fun h => absurd (hcl 11 ((putL_ne (i := 8) (by decide)).symm.trans h) 8 (by decide)) (by rw [hLi]; decide), fun h => (fun q => q.later hb) (F12.out ((putL_ne (i := 8) (by decide)).symm.trans h)), fun h => absurd (hcl 13 ((putL_ne (i := 8) (by decide)).symm.trans h) 8 (by decide)) (by rw [hLi]; decide)⟩
              · have f5 := F5.out (hanc 5 (by decide))
                have f6 := F6.out (hanc 6 (by decide))
                have f7 := F7.out (hanc 7 (by decide))
                have f8 := F8.out (hanc 8 (by decide))
                have g7 := f7
                subst g7
                have g8 := f8
                subst g8
                refine YieldsIf.wpOp (S := fun _ => True) (v := .int .i64 (p : Int)) (by rfl) (.inl ⟨rfl, fun w _ => (by go_simp; first | rfl | omega | exact IntWalk.i64_in _ ⟨by omega, by omega⟩)⟩) trivial ?_
                simp only [Act.put, List.setIfInBounds_toArray, List.set_cons_zero, List.set_cons_succ]
                have hb : Below wx.heap.size wx wx := Below.refl _ _
                show I (putL L 9) _ _
                exact (HI.out (putL L 9) _ _).2 ⟨_, _, _, _, _, _, _, _, _, _, _, _, rfl, HS.out.later hb, fun h => (E0.out ((putL_ne (i := 9) (by decide)).symm.trans h)).later hb, fun h => (E1.out ((putL_ne (i := 9) (by decide)).symm.trans h)).later hb, E2.out.later hb, E3.out.later hb, fun h => (by first | exact F0.out ((putL_ne (i := 9) (by decide)).symm.trans h) | rfl), fun h => (by first | exact F1.out ((putL_ne (i := 9) (by decide)).symm.trans h) | rfl), fun h => (by first | exact F2.out ((putL_ne (i := 9) (by decide)).symm.trans h) | rfl), fun h => (by first | exact F3.out ((putL_ne (i := 9) (by decide)).symm.trans h) | rfl), fun h => (by first | exact F4.out ((putL_ne (i := 9) (by decide)).symm.trans h) | rfl), fun h => (by first | exact F5.out ((putL_ne (i := 9) (by decide)).symm.trans h) | rfl), fun h => (by first | exact F6.out ((putL_ne (i := 9) (by decide)).symm.trans h) | rfl), fun h => (by first | exact F7.out ((putL_ne (i := 9) (by decide)).symm.trans h) | rfl), fun h => (by first | exact F8.out ((putL_ne (i := 9) (by decide)).symm.trans h) | rfl), fun _ => rfl, fun h => absurd (hcl 10 ((putL_ne (i := 9) (by decide)).symm.trans h) 9 (by decide)) (by rw [hLi]; decide), fun h => absurd (hcl 11 ((putL_ne (i := 9) (by decide)).symm.trans h) 9 (by decide)) (by rw [hLi]; decide), fun h => (fun q => q.later hb) (F12.out ((putL_ne (i := 9) (by decide)).symm.trans h)), fun h => absurd (hcl 13 ((putL_ne (i := 9) (by decide)).symm.trans h) 9 (by decide)) (by rw [hLi]; decide)⟩
              · have f4 := F4.out (hanc 4 (by decide))
                have f5 := F5.out (hanc 5 (by decide))
                have f6 := F6.out (hanc 6 (by decide))
                have f7 := F7.out (hanc 7 (by decide))
                have f8 := F8.out (hanc 8 (by decide))
                have f9 := F9.out (hanc 9 (by decide))
                have g4 := f4
                subst g4
                have g9 := f9
                subst g9
                refine YieldsIf.wpOp (S := fun _ => True) (v := .pointer (some ⟨b, o + p * 3, none⟩)) (by rfl) (.inl ⟨rfl, fun w _ => by go_simp⟩) trivial ?_
                simp only [Act.put, List.setIfInBounds_toArray, List.set_cons_zero, List.set_cons_succ]
                have hb : Below wx.heap.size wx wx := Below.refl _ _
                show I (putL L 10) _ _
                exact (HI.out (putL L 10) _ _).2 ⟨_, _, _, _, _, _, _, _, _, _, _, _, rfl, HS.out.later hb, fun h => (E0.out ((putL_ne (i := 10) (by decide)).symm.trans h)).later hb, fun h => (E1.out ((putL_ne (i := 10) (by decide)).symm.trans h)).later hb, E2.out.later hb, E3.out.later hb, fun h => (by first | exact F0.out ((putL_ne (i := 10) (by decide)).symm.trans h) | rfl), fun h => (by first | exact F1.out ((putL_ne (i := 10) (by decide)).symm.trans h) | rfl), fun h => (by first | exact F2.out ((putL_ne (i := 10) (by decide)).symm.trans h) | rfl), fun h => (by first | exact F3.out ((putL_ne (i := 10) (by decide)).symm.trans h) | rfl), fun h => (by first | exact F4.out ((putL_ne (i := 10) (by decide)).symm.trans h) | rfl), fun h => (by first | exact F5.out ((putL_ne (i := 10) (by decide)).symm.trans h) | rfl), fun h => (by first | exact F6.out ((putL_ne (i := 10) (by decide)).symm.trans h) | rfl), fun h => (by first | exact F7.out ((putL_ne (i := 10) (by decide)).symm.trans h) | rfl), fun h => (by first | exact F8.out ((putL_ne (i := 10) (by decide)).symm.trans h) | rfl), fun h => (by first | exact F9.out ((putL_ne (i := 10) (by decide)).symm.trans h) | rfl), fun _ => rfl, fun h => absurd (hcl 11 ((putL_ne (i := 10) (by decide)).symm.trans h) 10 (by decide)) (by rw [hLi]; decide), fun h => (fun q => q.later hb) (F12.out ((putL_ne (i := 10) (by decide)).symm.trans h)), fun h => absurd (hcl 13 ((putL_ne (i := 10) (by decide)).symm.trans h) 10 (by decide)) (by rw [hLi]; decide)⟩
              · have f4 := F4.out (hanc 4 (by decide))
                have f5 := F5.out (hanc 5 (by decide))
                have f6 := F6.out (hanc 6 (by decide))
                have f7 := F7.out (hanc 7 (by decide))
                have f8 := F8.out (hanc 8 (by decide))
                have f9 := F9.out (hanc 9 (by decide))
                have f10 := F10.out (hanc 10 (by decide))
                have g10 := f10
                subst g10
                refine wpOp_doG 11 (by rfl) (by rfl) ?_
                refine wp_load_mid 25 (.tmp 87) rfl b (o + p * 3) rfl (encV y1) _ (HEy.out wx HS.out) Tryd.underlying25 rfl infoVv ?_
                simp only [Act.put, List.setIfInBounds_toArray, List.set_cons_zero, List.set_cons_succ]
                have hb : Below wx.heap.size wx wx := Below.refl _ _
                show I (putL L 11) _ _
                exact (HI.out (putL L 11) _ _).2 ⟨_, _, _, _, _, _, _, _, _, _, _, _, rfl, HS.out.later hb, fun h => (E0.out ((putL_ne (i := 11) (by decide)).symm.trans h)).later hb, fun h => (E1.out ((putL_ne (i := 11) (by decide)).symm.trans h)).later hb, E2.out.later hb, E3.out.later hb, fun h => (by first | exact F0.out ((putL_ne (i := 11) (by decide)).symm.trans h) | rfl), fun h => (by first | exact F1.out ((putL_ne (i := 11) (by decide)).symm.trans h) | rfl), fun h => (by first | exact F2.out ((putL_ne (i := 11) (by decide)).symm.trans h) | rfl), fun h => (by first | exact F3.out ((putL_ne (i := 11) (by decide)).symm.trans h) | rfl), fun h => (by first | exact F4.out ((putL_ne (i := 11) (by decide)).symm.trans h) | rfl), fun h => (by first | exact F5.out ((putL_ne (i := 11) (by decide)).symm.trans h) | rfl), fun h => (by first | exact F6.out ((putL_ne (i := 11) (by decide)).symm.trans h) | rfl), fun h => (by first | exact F7.out ((putL_ne (i := 11) (by decide)).symm.trans h) | rfl), fun h => (by first | exact F8.out ((putL_ne (i := 11) (by decide)).symm.trans h) | rfl), fun h => (by first | exact F9.out ((putL_ne (i := 11) (by decide)).symm.trans h) | rfl), fun h => (by first | exact F10.out ((putL_ne (i := 11) (by decide)).symm.trans h) | rfl), fun _ => rfl, fun h => (fun q => q.later hb) (F12.out ((putL_ne (i := 11) (by decide)).symm.trans h)), fun h => absurd (hcl 13 ((putL_ne (i := 11) (by decide)).symm.trans h) 11 (by decide)) (by rw [hLi]; decide)⟩
              · have f0 := F0.out (hanc 0 (by decide))
                have f1 := F1.out (hanc 1 (by decide))
                have f2 := F2.out (hanc 2 (by decide))
                have f3 := F3.out (hanc 3 (by decide))
                have g3 := f3
                subst g3
                have BS := E0.out hLi
                refine wpOp_doG 12 (by rfl) (by rfl) ?_
                refine wpo_storeB 25 (.tmp 10) (.tmp 80) qx 0 (encV x1) (encV noV) 25 infoVv (show 0 + 3 ≤ 3 by decide) (vls_one _ _ _) rfl rfl rfl BS ?_
                intro wn BP ho
                replace BP : Blk wn qx (encV x1) 25 := BP
                simp only [Act.put, List.setIfInBounds_toArray, List.set_cons_zero, List.set_cons_succ]
                show I (putL L 12) _ _
                exact (HI.out (putL L 12) _ _).2 ⟨_, _, _, _, _, _, _, _, _, _, _, _, rfl, below_oth HS.out ho (by have := HSa2.out.z; have := HZs.out; have := HXY.out; omega) (by have := HSa2.out.z; have := HZs.out; have := HXY.out; omega) HS.out.size, fun h => (by rw [putL_self] at h; cases h), fun h => (E1.out ((putL_ne (i := 12) (by decide)).symm.trans h)).oth ho (by have := HXY.out; omega) (by have := HXY.out; omega), E2.out.off ho (by have := HZs.out; have := HXY.out; omega) (fun h => by have := HOff.out.1 _ h; have := HXY.out; omega), E3.out.off ho (by have := HZs.out; have := HXY.out; omega) (fun h => by have := HOff.out.2 _ h; have := HXY.out; omega), fun h => (by first | exact F0.out ((putL_ne (i := 12) (by decide)).symm.trans h) | rfl), fun h => (by first | exact F1.out ((putL_ne (i := 12) (by decide)).symm.trans h) | rfl), fun h => (by first | exact F2.out ((putL_ne (i := 12) (by decide)).symm.trans h) | rfl), fun h => (by first | exact F3.out ((putL_ne (i := 12) (by decide)).symm.trans h) | rfl), fun h => (by first | exact F4.out ((putL_ne (i := 12) (by decide)).symm.trans h) | rfl), fun h => (by first | exact F5.out ((putL_ne (i := 12) (by decide)).symm.trans h) | rfl), fun h => (by first | exact F6.out ((putL_ne (i := 12) (by decide)).symm.trans h) | rfl), fun h => (by first | exact F7.out ((putL_ne (i := 12) (by decide)).symm.trans h) | rfl), fun h => (by first | exact F8.out ((putL_ne (i := 12) (by decide)).symm.trans h) | rfl), fun h => (by first | exact F9.out ((putL_ne (i := 12) (by decide)).symm.trans h) | rfl), fun h => (by first | exact F10.out ((putL_ne (i := 12) (by decide)).symm.trans h) | rfl), fun h => (by first | exact F11.out ((putL_ne (i := 12) (by decide)).symm.trans h) | rfl), fun _ => BP, fun h => (fun q => q.oth ho (by have := HXY.out; omega) (by have := HXY.out; omega)) (F13.out ((putL_ne (i := 12) (by decide)).symm.trans h))⟩
              · have f4 := F4.out (hanc 4 (by decide))
                have f5 := F5.out (hanc 5 (by decide))
                have f6 := F6.out (hanc 6 (by decide))
                have f7 := F7.out (hanc 7 (by decide))
                have f8 := F8.out (hanc 8 (by decide))
                have f9 := F9.out (hanc 9 (by decide))
                have f10 := F10.out (hanc 10 (by decide))
                have f11 := F11.out (hanc 11 (by decide))
                have g11 := f11
                subst g11
                have BS := E1.out hLi
                refine wpOp_doG 13 (by rfl) (by rfl) ?_
                refine wpo_storeB 25 (.tmp 11) (.tmp 88) qy 0 (encV y1) (encV noV) 25 infoVv (show 0 + 3 ≤ 3 by decide) (vls_one _ _ _) rfl rfl rfl BS ?_
                intro wn BP ho
                replace BP : Blk wn qy (encV y1) 25 := BP
                simp only [Act.put, List.setIfInBounds_toArray, List.set_cons_zero, List.set_cons_succ]
                show I (putL L 13) _ _
                exact (HI.out (putL L 13) _ _).2 ⟨_, _, _, _, _, _, _, _, _, _, _, _, rfl, below_oth HS.out ho (by have := HSa2.out.z; have := HZs.out; have := HXY.out; omega) (by have := HSa2.out.z; have := HZs.out; have := HXY.out; omega) HS.out.size, fun h => (E0.out ((putL_ne (i := 13) (by decide)).symm.trans h)).oth ho (by have := HXY.out; omega) (by have := HXY.out; omega), fun h => (by rw [putL_self] at h; cases h), E2.out.off ho (by have := HZs.out; have := HXY.out; omega) (fun h => by have := HOff.out.1 _ h; have := HXY.out; omega), E3.out.off ho (by have := HZs.out; have := HXY.out; omega) (fun h => by have := HOff.out.2 _ h; have := HXY.out; omega), fun h => (by first | exact F0.out ((putL_ne (i := 13) (by decide)).symm.trans h) | rfl), fun h => (by first | exact F1.out ((putL_ne (i := 13) (by decide)).symm.trans h) | rfl), fun h => (by first | exact F2.out ((putL_ne (i := 13) (by decide)).symm.trans h) | rfl), fun h => (by first | exact F3.out ((putL_ne (i := 13) (by decide)).symm.trans h) | rfl), fun h => (by first | exact F4.out ((putL_ne (i := 13) (by decide)).symm.trans h) | rfl), fun h => (by first | exact F5.out ((putL_ne (i := 13) (by decide)).symm.trans h) | rfl), fun h => (by first | exact F6.out ((putL_ne (i := 13) (by decide)).symm.trans h) | rfl), fun h => (by first | exact F7.out ((putL_ne (i := 13) (by decide)).symm.trans h) | rfl), fun h => (by first | exact F8.out ((putL_ne (i := 13) (by decide)).symm.trans h) | rfl), fun h => (by first | exact F9.out ((putL_ne (i := 13) (by decide)).symm.trans h) | rfl), fun h => (by first | exact F10.out ((putL_ne (i := 13) (by decide)).symm.trans h) | rfl), fun h => (by first | exact F11.out ((putL_ne (i := 13) (by decide)).symm.trans h) | rfl), fun h => (fun q => q.oth ho (by have := HXY.out; omega) (by have := HXY.out; omega)) (F12.out ((putL_ne (i := 13) (by decide)).symm.trans h)), fun _ => BP⟩
            · intro L act wx hall hIa
              obtain ⟨t77, t78, t79, t80, t81, t82, t83, t84, t85, t86, t87, t88, rfl, HS, E0, E1, E2, E3, F0, F1, F2, F3, F4, F5, F6, F7, F8, F9, F10, F11, F12, F13⟩ := (HI.out _ _ _).1 hIa
              have f0 := F0.out (hall 0 (by decide))
              have f1 := F1.out (hall 1 (by decide))
              have f2 := F2.out (hall 2 (by decide))
              have f3 := F3.out (hall 3 (by decide))
              have f4 := F4.out (hall 4 (by decide))
              have f5 := F5.out (hall 5 (by decide))
              have f6 := F6.out (hall 6 (by decide))
              have f7 := F7.out (hall 7 (by decide))
              have f8 := F8.out (hall 8 (by decide))
              have f9 := F9.out (hall 9 (by decide))
              have f10 := F10.out (hall 10 (by decide))
              have f11 := F11.out (hall 11 (by decide))
              have f12 := F12.out (hall 12 (by decide))
              have f13 := F13.out (hall 13 (by decide))
              clear hIa HI F0 F1 F2 F3 F4 F5 F6 F7 F8 F9 F10 F11 F12 F13
              show K9 _ _
              exact HTl.out wx x1 y1 f12 f13 HTx.out HTy.out E2.out E3.out HS.out _ _ _ _ _ _ _ _ _ _ _ _ _ _ _ _
          · have hrk' : ¬ (r : Int) < (k : Int) := by omega
            have er : r = k := by omega
            have ex : topQ 5 (xs.drop r) = noV := by rw [List.drop_of_length_le (by rw [HN.out]; omega)]; exact if_pos rfl
            have ey : topQ 6 (xs.take (k - r)) = noV := by rw [er, Nat.sub_self, List.take_zero]; exact if_pos rfl
            have HEx : Hid (topQ 5 (xs.drop r) = noV ∧ topQ 6 (xs.take (k - r)) = noV) := ⟨ex, ey⟩
            clear ex ey er
            go_wp2_with fail
            exact HTl.out w6 noV noV HX2.out HY2.out HEx.out.1 HEx.out.2 HSa2.out HSb2.out HB2.out _ _ _ _ _ _ _ _ _ _ _ _ _ _ _ _
        · have er : r = k + 1 := by omega
          have ea : xs.drop r = [] := List.drop_of_length_le (by rw [HN.out]; omega)
          have eb : xs.take (k - r) = [] := by rw [er, show k - (k + 1) = 0 by omega, List.take_zero]
          rw [ea] at HSa
          rw [eb] at HSb
          obtain ⟨aa, ca, hva⟩ := HSa.out.l.form
          obtain ⟨ab, cb, hvb⟩ := HSb.out.l.form
          have hva : va = .slice aa 0 ca := hva
          have hvb : vb = .slice ab 0 cb := hvb
          subst hva hvb
          obtain ⟨_, _, _, _, _, s5⟩ := st_cells HSa.out.s
          obtain ⟨_, _, _, _, _, r5⟩ := st_cells HSb.out.s
          have HBe : Hid (Below w.heap.size w wr) := HB.out
          clear ea eb er HSa HSb HB
          go_wp2
          go_ret
          exact ⟨rfl, HBe.out⟩
end Go.Proofs.YthgafmhpajikdaaDoor
