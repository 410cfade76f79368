/- The contract of the reader's event. Conditions: the reader and the tables lie in memory; the words are at most 2^62 bytes. -/
import Derived.Test.YtdhlheilgagcpaaGreatDoorEF
namespace Go.Proofs.YtdhlheilgagcpaaGreatDoor
open Go.RowKit Go.PlainAid Ln
set_option linter.unusedVariables false
set_option linter.unusedSimpArgs false

/-- the time, the type, the fault behind the type -/
def eT (L : List (List UInt8)) : Int × Int := cntR (hdW L) 9223372036854775807
def eY (L : List (List UInt8)) : Nat := wI tn 5 (hdW L.tail.tail)
def e3 (f : Int) (L : List (List UInt8)) : Int := kp (tkF 0 (kp f (eT L).2) L.tail) (mf (decide (0 < eY L)))
/-- the words behind the type; those behind an Invoke's model, key and what is done -/
def l3 (L : List (List UInt8)) : List (List UInt8) := L.tail.tail.tail
def l6 (L : List (List UInt8)) : List (List UInt8) := (l3 L).tail.tail.tail
/-- the event that is read, and the first fault -/
def eEv (L : List (List UInt8)) : Ev :=
  if eY L = 1 then ⟨(eT L).1, vOf L.tail, 1, cM (l3 L), vOf (l3 L).tail, cO (l3 L), aV (l6 L) (cD (l3 L)).length, [], false, noB⟩
  else if eY L = 2 then ⟨(eT L).1, vOf L.tail, 2, 0, (0, 0, noB), 0, [], aV (l3 L) (l3 L).length, false, noB⟩
  else ⟨(eT L).1, vOf L.tail, eY L, 0, (0, 0, noB), 0, [], [], false, noB⟩
def eF (f : Int) (L : List (List UInt8)) : Int :=
  if eY L = 1 then kp (aF (cD (l3 L)) (cF (e3 f L) (l3 L)) (l6 L) (cD (l3 L)).length) (mf (!decide (0 < ((l6 L).drop (cD (l3 L)).length).length)))
  else if eY L = 2 then rF (e3 f L) (l3 L) (l3 L).length
  else kp (e3 f L) (mf (!decide (0 < (l3 L).length)))
/-- how event ends -/
def REvent (w : World) (p : Nat) (L : List (List UInt8)) (f : Int) (e : Ending) (w' : World) : Prop :=
  ∃ va vr L', e = .returned (.agg (evC (eEv L) va vr).toArray) ∧ Rdr w' p L' (eF f L) ∧ OwnV w' w.heap.size va (eEv L).a ∧ OwnV w' w.heap.size vr (eEv L).r ∧ Oth p p w w'

theorem sizeI64 : (Tryz.prog.info? 2).map (·.size) = some 1 := by kernel_rfl
/-- how many words are left -/
def lenAt (p : Nat) (w : World) : Nat := match w.cell? ⟨p, 0, none⟩ with | some (.slice _ n _) => n | _ => 0
theorem Rdr.len {w : World} {p : Nat} {L : List (List UInt8)} {f : Int} (h : Rdr w p L f) : lenAt p w = L.length := by
  obtain ⟨v, h1, h2, _⟩ := h
  obtain ⟨a, c, rfl, _⟩ := h2.form
  unfold lenAt
  rw [h1.cell 0 _ rfl]
theorem zeroEv : evC noEv nilS nilS = [.int .i64 0, .int .i64 0, .int .i64 0, .string ⟨#[]⟩, .int .i64 0, .int .i64 0, .int .i64 0, .int .i64 0, .string ⟨#[]⟩, .int .i64 0, .slice none 0 0, .slice none 0 0, .bool false, .string ⟨#[]⟩] := rfl
set_option maxRecDepth 100000 in
set_option maxHeartbeats 4000000 in
theorem rd_event (p : Nat) (L : List (List UInt8)) (f : Int) (w w0 : World) (h : Rdr w p L f) (hs : Sm L) (ht : Tbs w0) (h0 : Below w0.heap.size w0 w) (hp : w0.heap.size ≤ p) (hn : L.length ≤ 900001) :
    Calls Tryz.prog 26 #[.pointer (some ⟨p, 0, none⟩)] w fun en w' => REvent w p L f en w' := by
  have mixed : Tryz.prog.follows .mixedOrders = true := by kernel_rfl
  have hp0 := h.lt
  have B0 := Blk.new w (evC noEv nilS nilS) 37
  have H1 : Rdr (w.alloc (.cells (evC noEv nilS nilS).toArray 37)) p L f := h.later (below_more (Below.refl _ _) _)
  have O0 : Oth p p w (w.alloc (.cells (evC noEv nilS nilS).toArray 37)) := .of_below (below_more (Below.refl _ _) _)
  have b0 : Below w0.heap.size w0 (w.alloc (.cells (evC noEv nilS nilS).toArray 37)) := h0.trans ((below_more (Below.refl _ _) _).mono h0.size)
  obtain ⟨r, hr⟩ : ∃ r, w.heap.size = r := ⟨_, rfl⟩
  obtain ⟨wa, hwa⟩ : ∃ wa, w.alloc (.cells (evC noEv nilS nilS).toArray 37) = wa := ⟨_, rfl⟩
  rw [hwa, hr] at B0
  rw [hwa] at H1 O0 b0
  have B0' := Blk.new wa (evC noEv nilS nilS) 37
  have B1 : Blk (wa.alloc (.cells (evC noEv nilS nilS).toArray 37)) r (evC noEv nilS nilS) 37 := B0.alloc _
  have H2 : Rdr (wa.alloc (.cells (evC noEv nilS nilS).toArray 37)) p L f := H1.later (below_more (Below.refl _ _) _)
  have O1 : Oth p p w (wa.alloc (.cells (evC noEv nilS nilS).toArray 37)) := O0.trans (.of_below (below_more (Below.refl _ _) _))
  have b1 : Below w0.heap.size w0 (wa.alloc (.cells (evC noEv nilS nilS).toArray 37)) := b0.trans ((below_more (Below.refl _ _) _).mono b0.size)
  have hq : r < wa.heap.size := B0.lt
  obtain ⟨q, hqq⟩ : ∃ q, wa.heap.size = q := ⟨_, rfl⟩
  obtain ⟨wb, hwb⟩ : ∃ wb, wa.alloc (.cells (evC noEv nilS nilS).toArray 37) = wb := ⟨_, rfl⟩
  rw [hwb] at B1 H2 O1 b1
  rw [hwb, hqq] at B0'
  rw [hqq] at hq
  rw [hr] at hp0
  have hN := rd_time p L f wb H2 hs
  have HWA : Hid (∀ C : List Value, C = evC noEv nilS nilS → w.alloc (.cells C.toArray 37) = wa) := fun C hC => by rw [hC, hwa]
  go_enter Tryz.func26, Tryz.ntmps26
  go_wp2_with fail
  have ea : w.alloc (.cells #[.int .i64 0, .int .i64 0, .int .i64 0, .string ⟨#[]⟩, .int .i64 0, .int .i64 0, .int .i64 0, .int .i64 0, .string ⟨#[]⟩, .int .i64 0, .slice none 0 0, .slice none 0 0, .bool false, .string ⟨#[]⟩] 37) = wa := hwa
  rw [ea]
  have eb : wa.alloc (.cells #[.int .i64 0, .int .i64 0, .int .i64 0, .string ⟨#[]⟩, .int .i64 0, .int .i64 0, .int .i64 0, .int .i64 0, .string ⟨#[]⟩, .int .i64 0, .slice none 0 0, .slice none 0 0, .bool false, .string ⟨#[]⟩] 37) = wb := hwb
  have hq1 : r + 1 = q := by rw [← hqq, ← hwa, World.size_alloc, hr]
  rw [eb, hq1]
  have hrs : w.heap.size ≤ r := by omega
  have hqs : w.heap.size ≤ q := by omega
  have hp2 : p < q := by omega
  have hwr : w0.heap.size ≤ r := by omega
  have hwq : w0.heap.size ≤ q := by omega
  have HHR : Hid (w.heap.size = r) := hr
  have HT : Hid (Tbs w0) := ht
  clear hq1 ea eb hwa hwb hqq HWA b0 O0 H1 B0 H2 h h0 hr ht
  refine hN.mono ?_
  rintro e w1 ⟨rfl, h1, o1⟩
  have R1 := B1.oth o1 (by omega) (by omega)
  have Q1 := B0'.oth o1 (by omega) (by omega)
  have P1 := O1.trans o1
  have b2 := below_oth b1 o1 hp hp b1.size
  clear B1 B0' O1 b1 o1 hN
  have HE0 : Hid (cntR (hdW L) 9223372036854775807 = eT L) := rfl
  rw [HE0.out] at h1 ⊢
  go_wp2_with ((with_reducible refine wp_storeC 2 (.tmp 6) (.tmp 5) q 0 (.int .i64 (eT L).1) (evC noEv nilS nilS) 37 ?_ ?_ ?_ ?_ ?_ ?_ ?_ Q1 ?_); (exact sizeI64); (exact (show 0 < 14 by decide)); (exact rfl); (exact rfl); (exact ⟨rfl, rfl⟩); (exact rfl); (exact rfl); (intro w2 Q2 o2))
  replace Q2 : Blk w2 q (evC { noEv with t := (eT L).1 } nilS nilS) 37 := Q2
  have h2 := h1.oth o2 hp2
  have R2 := R1.oth o2 (by omega) (by omega)
  have P2 := P1.step o2 hqs
  have b3 := below_oth b2 o2 hwq hwq b2.size
  clear h1 R1 Q1 P1 b2 o2
  refine (rd_taken p _ _ 0 _ h2 hs.tail).mono ?_
  rintro e w3 ⟨rfl, h3, o3⟩
  have R3 := R2.oth o3 (by omega) (by omega)
  have Q3 := Q2.oth o3 (by omega) (by omega)
  have P3 := P2.trans o3
  have b4 := below_oth b3 o3 hp hp b3.size
  clear h2 R2 Q2 P2 b3 o3
  go_wp2_with ((with_reducible refine wp_storeB 34 (.tmp 9) (.tmp 8) q 1 (vls (vOf L.tail).1 (vOf L.tail).2.1 (vOf L.tail).2.2) (evC { noEv with t := (eT L).1 } nilS nilS) 37 ?_ ?_ (vls_one _ _ _) ?_ ?_ ?_ Q3 ?_); (exact sizeV); (exact (show 1 + 3 ≤ 14 by decide)); (exact ⟨rfl, rfl⟩); (exact rfl); (exact rfl); (intro w4 Q4 o4))
  replace Q4 : Blk w4 q (evC { noEv with t := (eT L).1, c := vOf L.tail } nilS nilS) 37 := Q4
  have h4 := h3.oth o4 hp2
  have R4 := R3.oth o4 (by omega) (by omega)
  have P4 := P3.step o4 hqs
  have b5 := below_oth b4 o4 hwq hwq b4.size
  clear h3 R3 Q3 P3 b4 o4
  refine (rd_kind p _ _ _ w0 h4 HT.out.2.2.2 b5 hp).mono ?_
  rintro e w5 ⟨a, rfl, ha, h5, o5⟩
  obtain rfl : a = eY L := isW_eq apart_t ha
  have R5 := R4.oth o5 (by omega) (by omega)
  have Q5 := Q4.oth o5 (by omega) (by omega)
  have P5 := P4.trans o5
  have b6 := below_oth b5 o5 hp hp b5.size
  clear h4 R4 Q4 P4 b5 o5 ha
  by_cases hy : eY L = 1
  · skip
    have HY : Hid (eY L = 1) := hy
    have hb1 : (((eY L : Nat) : Int) == 1) = true := by rw [hy]; rfl
    clear hy
    go_wp2_with ((with_reducible refine wp_storeC 3 (.tmp 12) (.tmp 11) q 4 (.int .i64 (eY L : Int)) (evC { noEv with t := (eT L).1, c := vOf L.tail } nilS nilS) 37 ?_ ?_ ?_ ?_ ?_ ?_ ?_ Q5 ?_); (exact sizeI); (exact (show 4 < 14 by decide)); (exact rfl); (exact rfl); (exact ⟨rfl, rfl⟩); (exact rfl); (exact rfl); (intro w6 Q6 o6); (have c4 : w6.cell? ⟨q, 4, none⟩ = some (.int .i64 (eY L : Int)) := Q6.cell 4 (.int .i64 (eY L : Int)) rfl); (replace Q6 : Blk w6 q (evC { noEv with t := (eT L).1, c := vOf L.tail, y := eY L } nilS nilS) 37 := Q6); (have h6 := h5.oth o6 hp2); (have R6 := R5.oth o6 (by omega) (by omega)); (have P6 := P5.step o6 hqs); (have b7 := below_oth b6 o6 hwq hwq b6.size); clear h5 R5 Q5 P5 b6 o6)
    refine (rd_call p q _ _ _ w6 w0 h6 hs.tail.tail.tail HT.out b7 hp hp2 Q6).mono ?_
    rintro e wz ⟨va, rfl, Rz, Qz, Ov, Oc⟩
    have Rr := R6.oth Oc (by omega) (by omega)
    have lw6 : w.heap.size ≤ w6.heap.size := P6.size
    have Pz := P6.step2 Oc hqs
    obtain ⟨Lz, hLz⟩ : ∃ Lz, (l6 L).drop (cD (l3 L)).length = Lz := ⟨_, rfl⟩
    replace Rz : Rdr wz p Lz (aF (cD (l3 L)) (cF (e3 f L) (l3 L)) (l6 L) (cD (l3 L)).length) := by rw [← hLz]; exact Rz
    have HLZ : Hid ((l6 L).drop (cD (l3 L)).length = Lz) := hLz
    clear hLz c4 h6 Q6 R6 P6 Oc b7 hb1
    obtain ⟨X, hX⟩ : ∃ X, ({ noEv with t := (eT L).1, c := vOf L.tail, y := ((eY L : Nat) : Int), m := cM (l3 L), k := vOf (l3 L).tail, o := cO (l3 L), a := aV (l6 L) (cD (l3 L)).length } : Ev) = X := ⟨_, rfl⟩
    have HX : Hid (({ noEv with t := (eT L).1, c := vOf L.tail, y := ((eY L : Nat) : Int), m := cM (l3 L), k := vOf (l3 L).tail, o := cO (l3 L), a := aV (l6 L) (cD (l3 L)).length } : Ev) = X) := hX
    have Va : OwnV wz w.heap.size va X.a := by rw [← hX]; exact OwnV.base Ov lw6
    have Vr : OwnV wz w.heap.size nilS X.r := by rw [← hX]; exact OwnV.nil _ _
    replace Qz : Blk wz q (evC X va nilS) 37 := by rw [← hX]; exact Qz
    clear hX Ov lw6
    go_wp2_with fail
    refine (wd_more p _ _ _ Rz).mono ?_
    rintro e wy ⟨rfl, rfl⟩
    go_wp2_with fail
    refine (rd_must p _ _ _ _ Rz).mono ?_
    rintro e w9 ⟨rfl, h9, o9⟩
    have Q9 := Qz.oth o9 (by omega) (by omega)
    have R9 := Rr.oth o9 (by omega) (by omega)
    obtain ⟨_, Bp⟩ := Rz.blk
    have Va9 := OwnV.oth Va o9 Bp (by decide)
    have Vr9 := OwnV.oth Vr o9 Bp (by decide)
    have P9 := Pz.trans o9
    have oa : (va).oneCell' = true := by obtain ⟨a1, c1, e1⟩ := Va9.form; rw [e1]; rfl
    have ob : (nilS).oneCell' = true := by obtain ⟨a1, c1, e1⟩ := Vr9.form; rw [e1]; rfl
    clear Rz Qz Rr Va Vr Pz o9 Bp
    go_wp2_with (first
      | ((with_reducible refine wp_loadB 37 (.tmp 3) q 0 (evC X (va) (nilS)) (evC X (va) (nilS)) 37 _ Tryz.underlying37 ?_ ?_ ?_ ?_ Q9 (fun j v hv => by rw [Nat.zero_add]; exact hv) ?_); (exact rfl); (exact sizeE); (exact ⟨rfl, rfl⟩); (exact rfl))
      | ((with_reducible refine wp_storeB 37 (.tmp 2) (.tmp 39) r 0 (evC X (va) (nilS)) (evC noEv nilS nilS) 37 ?_ ?_ (evC_one _ oa ob) ?_ ?_ ?_ R9 ?_); (exact sizeE); (exact (show 0 + 14 ≤ 14 by decide)); (exact ⟨rfl, rfl⟩); (exact rfl); (exact rfl); (intro wx Rx ox)))
    replace Rx : Blk wx r (evC X (va) (nilS)) 37 := Rx
    refine ret_blk rfl r (evC X (va) (nilS)) 37 _ Tryz.underlying37 rfl sizeE rfl Rx rfl ?_
    have Va' := OwnV.oth Va9 ox R9 (by decide)
    have Vr' := OwnV.oth Vr9 ox R9 (by decide)
    have hx := h9.oth ox (by omega)
    have eX : eEv L = X := by rw [← HX.out]; unfold eEv; rw [if_pos HY.out, HY.out]; rfl
    refine ⟨_, _, Lz, by rw [eX], ?_, by rw [eX]; exact Va', by rw [eX]; exact Vr', P9.step ox hrs⟩
    unfold eF
    rw [if_pos HY.out, HLZ.out]
    exact hx
  by_cases hy2 : eY L = 2
  · skip
    have hb1 : (((eY L : Nat) : Int) == 1) = false := by rw [hy2]; rfl
    have hb2 : (((eY L : Nat) : Int) == 2) = true := by rw [hy2]; rfl
    have HY : Hid (¬ eY L = 1 ∧ eY L = 2) := ⟨hy, hy2⟩
    clear hy hy2
    go_wp2_with ((with_reducible refine wp_storeC 3 (.tmp 12) (.tmp 11) q 4 (.int .i64 (eY L : Int)) (evC { noEv with t := (eT L).1, c := vOf L.tail } nilS nilS) 37 ?_ ?_ ?_ ?_ ?_ ?_ ?_ Q5 ?_); (exact sizeI); (exact (show 4 < 14 by decide)); (exact rfl); (exact rfl); (exact ⟨rfl, rfl⟩); (exact rfl); (exact rfl); (intro w6 Q6 o6); (have c4 : w6.cell? ⟨q, 4, none⟩ = some (.int .i64 (eY L : Int)) := Q6.cell 4 (.int .i64 (eY L : Int)) rfl); (replace Q6 : Blk w6 q (evC { noEv with t := (eT L).1, c := vOf L.tail, y := eY L } nilS nilS) 37 := Q6); (have h6 := h5.oth o6 hp2); (have R6 := R5.oth o6 (by omega) (by omega)); (have P6 := P5.step o6 hqs); (have b7 := below_oth b6 o6 hwq hwq b6.size); clear h5 R5 Q5 P5 b6 o6)
    obtain ⟨L3, hL3⟩ : ∃ L3, l3 L = L3 := ⟨_, rfl⟩
    obtain ⟨f3, hf3⟩ : ∃ f3, e3 f L = f3 := ⟨_, rfl⟩
    have h6' : Rdr w6 p L3 f3 := by rw [← hL3, ← hf3]; exact h6
    have HH : Hid (l3 L = L3 ∧ e3 f L = f3) := ⟨hL3, hf3⟩
    have HN : Hid (L3.length ≤ 900001) := by show _ ≤ _; rw [← hL3]; simp only [l3, List.length_tail]; omega
    have HSm : Hid (∀ k, Sm (L3.drop k)) := fun k y hy => hs y (List.mem_of_mem_tail (List.mem_of_mem_tail (List.mem_of_mem_tail (by show y ∈ l3 L; rw [hL3]; exact List.mem_of_mem_drop hy))))
    obtain ⟨X, hX⟩ : ∃ X, ({ noEv with t := (eT L).1, c := vOf L.tail, y := ((eY L : Nat) : Int) } : Ev) = X := ⟨_, rfl⟩
    have HX : Hid (({ noEv with t := (eT L).1, c := vOf L.tail, y := ((eY L : Nat) : Int) } : Ev) = X) := hX
    rw [hX] at Q6
    have HP6 : Hid (Oth p p w w6) := P6
    have HLT : Hid (p < w6.heap.size) := h6'.lt
    have HI0 : Hid (∃ (k : Nat) (vr : Value), k ≤ L3.length ∧ Rdr w6 p (L3.drop k) (rF f3 L3 k) ∧ Blk w6 q (evC X nilS vr) 37 ∧ Blk w6 r (evC noEv nilS nilS) 37 ∧ OwnV w6 w6.heap.size vr (aV L3 k) ∧ Oth p q w6 w6) := ⟨0, nilS, Nat.zero_le _, h6', Q6, R6, OwnV.nil _ _, Oth.refl _ _ _⟩
    clear c4 h6 h6' Q6 R6 P6 b7 hb1 hb2 hL3 hf3 hX hn hs
    go_loopw [] (fun wr => ∃ (k : Nat) (vr : Value), k ≤ L3.length ∧ Rdr wr p (L3.drop k) (rF f3 L3 k) ∧ Blk wr q (evC X nilS vr) 37 ∧ Blk wr r (evC noEv nilS nilS) 37 ∧ OwnV wr w6.heap.size vr (aV L3 k) ∧ Oth p q w6 wr) (fun wr => lenAt p wr)
    case atStart => exact HI0
    case round =>
      obtain ⟨k, vr, hk, Rp, Bq, Br, Ov, Or⟩ := hrel
      clear HI0
      have HLA : Hid (lenAt p wr = (L3.drop k).length) := Rp.len
      have hdl : (L3.drop k).length = L3.length - k := List.length_drop
      by_cases hlt : k < L3.length
      · have HLN : Hid ((aV L3 k).length + 1 ≤ 1000000) := by show _ ≤ _; rw [aV_len]; have := HN.out; omega
        go_wp2_with fail
        refine (wd_more p _ _ _ Rp).mono ?_
        rintro e wy ⟨rfl, rfl⟩
        rw [decide_eq_true (show 0 < (L3.drop k).length by omega)]
        go_wp2_with fail
        have Rp0 := Rp.drew
        have Bq0 := Bq.drew
        have Br0 := Br.drew
        have Or0 := Or.drew
        replace Ov : OwnV { wy with drawn := wy.drawn + 1 } w6.heap.size vr (aV L3 k) := Ov
        clear Rp Bq Br Or
        refine wp_region_held (S := AnyW) mixed ?_
        generalize ({ wy with drawn := wy.drawn + 1 } : World) = wd at Rp0 Bq0 Br0 Ov Or0 ⊢
        have Rp := Rp0
        have Bq := Bq0
        have Br := Br0
        have Or := Or0
        clear Rp0 Bq0 Br0 Or0
        refine takeH 0 25 (.pointer (some ⟨q, 11, none⟩)) rfl rfl (by kernel_rfl) (by kernel_rfl) (by kernel_rfl) (fun c a w h => h) (.inl ⟨rfl, fun w _ => by go_simp⟩) (anyW _) ?_
        simp only [List.setIfInBounds_toArray, List.set_cons_zero, List.set_cons_succ]
        refine takeH 2 27 (.pointer (some ⟨p, 0, none⟩)) rfl rfl (by kernel_rfl) (by kernel_rfl) (by kernel_rfl) (fun c a w h => h) (.inl ⟨rfl, fun w _ => rfl⟩) (anyW _) ?_
        simp only [List.setIfInBounds_toArray, List.set_cons_zero, List.set_cons_succ]
        refine wpAnyH_all (rs := [1, 3]) (by kernel_rfl) (by simp) (fun i hi => ?_)
        simp only [List.mem_cons, List.not_mem_nil, or_false] at hi
        rcases hi with rfl | rfl
        · skip
          refine wpOp_doG 1 (by rfl) (by rfl) ?_
          have c11 := Bq.cell 11 vr rfl
          go_wp2_with fail
          clear c11
          refine ⟨anyW _, ?_⟩
          refine wpAnyH_all (rs := [3]) (by kernel_rfl) (by simp) (fun i hi => ?_)
          obtain rfl : i = 3 := by simpa using hi
          refine wpOp_doG 3 (by rfl) (by rfl) ?_
          go_wp2_with fail
          refine (rd_value p _ _ _ Rp (HSm.out k)).mono ?_
          rintro e z1 ⟨rfl, Rp1, oz⟩
          have Bq1 := Bq.oth oz (by omega) (by omega)
          have Br1 := Br.oth oz (by omega) (by omega)
          obtain ⟨_, Bp⟩ := Rp.blk
          have Ov1 := OwnV.oth Ov oz Bp (by decide)
          have Or1 := Or.trans oz.mono
          clear Bq Br Ov Or Rp Bp oz
          refine ⟨anyW _, ?_⟩
          refine wpAnyH_all (rs := [4]) (by kernel_rfl) (by simp) (fun i hi => ?_)
          obtain rfl : i = 4 := by simpa using hi
          refine wpOp_doG 4 (by rfl) (by rfl) ?_
          go_wp2_with fail
          have hv1 : VSl (z1.alloc (.cells #[.int .i64 (vOf (L3.drop k)).1, .int .i64 (vOf (L3.drop k)).2.1, .string (vOf (L3.drop k)).2.2] 34)) (.slice (some ⟨z1.heap.size, 0, none⟩) 1 1) [vOf (L3.drop k)] := vsl_one z1 (vOf (L3.drop k))
          have bz : Below z1.heap.size z1 (z1.alloc (.cells #[.int .i64 (vOf (L3.drop k)).1, .int .i64 (vOf (L3.drop k)).2.1, .string (vOf (L3.drop k)).2.2] 34)) := below_more (Below.refl _ _) _
          have Rp2 := Rp1.later bz
          have Bq2 := Bq1.later bz
          have Br2 := Br1.later bz
          have Ov2 := Ov1.later bz
          have Or2 := Or1.trans (.of_below bz)
          have hz1 : w6.heap.size ≤ z1.heap.size := Or1.size
          clear Rp1 Bq1 Br1 Ov1 Or1
          generalize z1.alloc (.cells #[.int .i64 (vOf (L3.drop k)).1, .int .i64 (vOf (L3.drop k)).2.1, .string (vOf (L3.drop k)).2.2] 34) = z2 at hv1 bz Rp2 Bq2 Br2 Ov2 Or2 ⊢
          refine ⟨anyW _, ?_⟩
          refine wpAnyH_all (rs := [5]) (by kernel_rfl) (by simp) (fun i hi => ?_)
          obtain rfl : i = 5 := by simpa using hi
          refine wpOp_doG 5 (by rfl) (by rfl) ?_
          refine wp_appendV1 (.tmp 26) (.tmp 29) rfl w6.heap.size vr (aV L3 k) rfl Ov2 z1.heap.size (vOf (L3.drop k)) rfl hv1 HLN.out (Nat.le_trans hz1 bz.size) ?_
          intro g cap z3 Ov3 hgr
          refine ⟨anyW _, ?_⟩
          have Rp3 := Rp2.kept hgr (fun g' hg' => (by have := (Ov2.lt g' hg').1; have := HLT.out; omega))
          have Bq3 := Bq2.kept hgr (Bq2.not_row (by decide) Ov2)
          have Br3 := Br2.kept hgr (Br2.not_row (by decide) Ov2)
          have Or3 := oth_grown Or2 Ov2 hgr (Nat.le_refl _)
          rw [← aV_succ] at Ov3
          clear Rp2 Bq2 Br2 Ov2 Or2 hgr hv1
          refine takeH 6 31 (.pointer (some ⟨q, 11, none⟩)) rfl rfl (by kernel_rfl) (by kernel_rfl) (by kernel_rfl) (fun c a w h => h) (.inl ⟨rfl, fun w _ => by go_simp⟩) (anyW _) ?_
          simp only [List.setIfInBounds_toArray, List.set_cons_zero, List.set_cons_succ]
          refine wpAnyH_all (rs := [7]) (by kernel_rfl) (by simp) (fun i hi => ?_)
          obtain rfl : i = 7 := by simpa using hi
          refine wpOp_doG 7 (by rfl) (by rfl) ?_
          refine wpo_storeC 35 (.tmp 31) (.tmp 30) q 11 (.slice (some ⟨g, 0, none⟩) ((aV L3 k).length + 1) cap) (evC X nilS vr) 37 sizeVs (show 11 < 14 by decide) rfl rfl rfl rfl rfl Bq3 ?_
          intro z4 Bq4 oz4
          change _ ∧ wpAnyH _ _ _ _ _ _ _ (Act.mk _ _) _
          refine ⟨anyW _, ?_⟩
          replace Bq4 : Blk z4 q (evC X nilS (.slice (some ⟨g, 0, none⟩) ((aV L3 k).length + 1) cap)) 37 := Bq4
          have Rp4 := Rp3.oth oz4 hp2
          have Br4 := Br3.oth oz4 (by omega) (by omega)
          have Ov4 := OwnV.oth Ov3 oz4 Bq3 (by decide)
          have Or4 := Or3.trans oz4.mono'
          clear Bq3 Br3 Rp3 Ov3 Or3 oz4
          refine wpAnyH_done (by kernel_rfl) ?_ _
          simp only [Exit.inBlock]
          go_wp2
          go_roundw
          case rel =>
            refine ⟨k + 1, _, by omega, ?_, Bq4, Br4, Ov4, Or4⟩
            rw [← List.tail_drop]; exact Rp4
          case measure =>
            rw [Rp4.len, HLA.out, List.length_tail]; omega
        · skip
          refine wpOp_doG 3 (by rfl) (by rfl) ?_
          go_wp2_with fail
          refine (rd_value p _ _ _ Rp (HSm.out k)).mono ?_
          rintro e z1 ⟨rfl, Rp1, oz⟩
          have Bq1 := Bq.oth oz (by omega) (by omega)
          have Br1 := Br.oth oz (by omega) (by omega)
          obtain ⟨_, Bp⟩ := Rp.blk
          have Ov1 := OwnV.oth Ov oz Bp (by decide)
          have Or1 := Or.trans oz.mono
          clear Bq Br Ov Or Rp Bp oz
          refine ⟨anyW _, ?_⟩
          refine wpAnyH_all (rs := [1, 4]) (by kernel_rfl) (by simp) (fun i hi => ?_)
          simp only [List.mem_cons, List.not_mem_nil, or_false] at hi
          rcases hi with rfl | rfl
          · skip
            refine wpOp_doG 1 (by rfl) (by rfl) ?_
            have c11 := Bq1.cell 11 vr rfl
            go_wp2_with fail
            clear c11
            refine ⟨anyW _, ?_⟩
            refine wpAnyH_all (rs := [4]) (by kernel_rfl) (by simp) (fun i hi => ?_)
            obtain rfl : i = 4 := by simpa using hi
            refine wpOp_doG 4 (by rfl) (by rfl) ?_
            go_wp2_with fail
            have hv1 : VSl (z1.alloc (.cells #[.int .i64 (vOf (L3.drop k)).1, .int .i64 (vOf (L3.drop k)).2.1, .string (vOf (L3.drop k)).2.2] 34)) (.slice (some ⟨z1.heap.size, 0, none⟩) 1 1) [vOf (L3.drop k)] := vsl_one z1 (vOf (L3.drop k))
            have bz : Below z1.heap.size z1 (z1.alloc (.cells #[.int .i64 (vOf (L3.drop k)).1, .int .i64 (vOf (L3.drop k)).2.1, .string (vOf (L3.drop k)).2.2] 34)) := below_more (Below.refl _ _) _
            have Rp2 := Rp1.later bz
            have Bq2 := Bq1.later bz
            have Br2 := Br1.later bz
            have Ov2 := Ov1.later bz
            have Or2 := Or1.trans (.of_below bz)
            have hz1 : w6.heap.size ≤ z1.heap.size := Or1.size
            clear Rp1 Bq1 Br1 Ov1 Or1
            generalize z1.alloc (.cells #[.int .i64 (vOf (L3.drop k)).1, .int .i64 (vOf (L3.drop k)).2.1, .string (vOf (L3.drop k)).2.2] 34) = z2 at hv1 bz Rp2 Bq2 Br2 Ov2 Or2 ⊢
            refine ⟨anyW _, ?_⟩
            refine wpAnyH_all (rs := [5]) (by kernel_rfl) (by simp) (fun i hi => ?_)
            obtain rfl : i = 5 := by simpa using hi
            refine wpOp_doG 5 (by rfl) (by rfl) ?_
            refine wp_appendV1 (.tmp 26) (.tmp 29) rfl w6.heap.size vr (aV L3 k) rfl Ov2 z1.heap.size (vOf (L3.drop k)) rfl hv1 HLN.out (Nat.le_trans hz1 bz.size) ?_
            intro g cap z3 Ov3 hgr
            refine ⟨anyW _, ?_⟩
            have Rp3 := Rp2.kept hgr (fun g' hg' => (by have := (Ov2.lt g' hg').1; have := HLT.out; omega))
            have Bq3 := Bq2.kept hgr (Bq2.not_row (by decide) Ov2)
            have Br3 := Br2.kept hgr (Br2.not_row (by decide) Ov2)
            have Or3 := oth_grown Or2 Ov2 hgr (Nat.le_refl _)
            rw [← aV_succ] at Ov3
            clear Rp2 Bq2 Br2 Ov2 Or2 hgr hv1
            refine takeH 6 31 (.pointer (some ⟨q, 11, none⟩)) rfl rfl (by kernel_rfl) (by kernel_rfl) (by kernel_rfl) (fun c a w h => h) (.inl ⟨rfl, fun w _ => by go_simp⟩) (anyW _) ?_
            simp only [List.setIfInBounds_toArray, List.set_cons_zero, List.set_cons_succ]
            refine wpAnyH_all (rs := [7]) (by kernel_rfl) (by simp) (fun i hi => ?_)
            obtain rfl : i = 7 := by simpa using hi
            refine wpOp_doG 7 (by rfl) (by rfl) ?_
            refine wpo_storeC 35 (.tmp 31) (.tmp 30) q 11 (.slice (some ⟨g, 0, none⟩) ((aV L3 k).length + 1) cap) (evC X nilS vr) 37 sizeVs (show 11 < 14 by decide) rfl rfl rfl rfl rfl Bq3 ?_
            intro z4 Bq4 oz4
            change _ ∧ wpAnyH _ _ _ _ _ _ _ (Act.mk _ _) _
            refine ⟨anyW _, ?_⟩
            replace Bq4 : Blk z4 q (evC X nilS (.slice (some ⟨g, 0, none⟩) ((aV L3 k).length + 1) cap)) 37 := Bq4
            have Rp4 := Rp3.oth oz4 hp2
            have Br4 := Br3.oth oz4 (by omega) (by omega)
            have Ov4 := OwnV.oth Ov3 oz4 Bq3 (by decide)
            have Or4 := Or3.trans oz4.mono'
            clear Bq3 Br3 Rp3 Ov3 Or3 oz4
            refine wpAnyH_done (by kernel_rfl) ?_ _
            simp only [Exit.inBlock]
            go_wp2
            go_roundw
            case rel =>
              refine ⟨k + 1, _, by omega, ?_, Bq4, Br4, Ov4, Or4⟩
              rw [← List.tail_drop]; exact Rp4
            case measure =>
              rw [Rp4.len, HLA.out, List.length_tail]; omega
          · skip
            refine wpOp_doG 4 (by rfl) (by rfl) ?_
            go_wp2_with fail
            have hv1 : VSl (z1.alloc (.cells #[.int .i64 (vOf (L3.drop k)).1, .int .i64 (vOf (L3.drop k)).2.1, .string (vOf (L3.drop k)).2.2] 34)) (.slice (some ⟨z1.heap.size, 0, none⟩) 1 1) [vOf (L3.drop k)] := vsl_one z1 (vOf (L3.drop k))
            have bz : Below z1.heap.size z1 (z1.alloc (.cells #[.int .i64 (vOf (L3.drop k)).1, .int .i64 (vOf (L3.drop k)).2.1, .string (vOf (L3.drop k)).2.2] 34)) := below_more (Below.refl _ _) _
            have Rp2 := Rp1.later bz
            have Bq2 := Bq1.later bz
            have Br2 := Br1.later bz
            have Ov2 := Ov1.later bz
            have Or2 := Or1.trans (.of_below bz)
            have hz1 : w6.heap.size ≤ z1.heap.size := Or1.size
            clear Rp1 Bq1 Br1 Ov1 Or1
            generalize z1.alloc (.cells #[.int .i64 (vOf (L3.drop k)).1, .int .i64 (vOf (L3.drop k)).2.1, .string (vOf (L3.drop k)).2.2] 34) = z2 at hv1 bz Rp2 Bq2 Br2 Ov2 Or2 ⊢
            refine ⟨anyW _, ?_⟩
            refine wpAnyH_all (rs := [1]) (by kernel_rfl) (by simp) (fun i hi => ?_)
            obtain rfl : i = 1 := by simpa using hi
            refine wpOp_doG 1 (by rfl) (by rfl) ?_
            have c11 := Bq2.cell 11 vr rfl
            go_wp2_with fail
            clear c11
            refine ⟨anyW _, ?_⟩
            refine wpAnyH_all (rs := [5]) (by kernel_rfl) (by simp) (fun i hi => ?_)
            obtain rfl : i = 5 := by simpa using hi
            refine wpOp_doG 5 (by rfl) (by rfl) ?_
            refine wp_appendV1 (.tmp 26) (.tmp 29) rfl w6.heap.size vr (aV L3 k) rfl Ov2 z1.heap.size (vOf (L3.drop k)) rfl hv1 HLN.out (Nat.le_trans hz1 bz.size) ?_
            intro g cap z3 Ov3 hgr
            refine ⟨anyW _, ?_⟩
            have Rp3 := Rp2.kept hgr (fun g' hg' => (by have := (Ov2.lt g' hg').1; have := HLT.out; omega))
            have Bq3 := Bq2.kept hgr (Bq2.not_row (by decide) Ov2)
            have Br3 := Br2.kept hgr (Br2.not_row (by decide) Ov2)
            have Or3 := oth_grown Or2 Ov2 hgr (Nat.le_refl _)
            rw [← aV_succ] at Ov3
            clear Rp2 Bq2 Br2 Ov2 Or2 hgr hv1
            refine takeH 6 31 (.pointer (some ⟨q, 11, none⟩)) rfl rfl (by kernel_rfl) (by kernel_rfl) (by kernel_rfl) (fun c a w h => h) (.inl ⟨rfl, fun w _ => by go_simp⟩) (anyW _) ?_
            simp only [List.setIfInBounds_toArray, List.set_cons_zero, List.set_cons_succ]
            refine wpAnyH_all (rs := [7]) (by kernel_rfl) (by simp) (fun i hi => ?_)
            obtain rfl : i = 7 := by simpa using hi
            refine wpOp_doG 7 (by rfl) (by rfl) ?_
            refine wpo_storeC 35 (.tmp 31) (.tmp 30) q 11 (.slice (some ⟨g, 0, none⟩) ((aV L3 k).length + 1) cap) (evC X nilS vr) 37 sizeVs (show 11 < 14 by decide) rfl rfl rfl rfl rfl Bq3 ?_
            intro z4 Bq4 oz4
            change _ ∧ wpAnyH _ _ _ _ _ _ _ (Act.mk _ _) _
            refine ⟨anyW _, ?_⟩
            replace Bq4 : Blk z4 q (evC X nilS (.slice (some ⟨g, 0, none⟩) ((aV L3 k).length + 1) cap)) 37 := Bq4
            have Rp4 := Rp3.oth oz4 hp2
            have Br4 := Br3.oth oz4 (by omega) (by omega)
            have Ov4 := OwnV.oth Ov3 oz4 Bq3 (by decide)
            have Or4 := Or3.trans oz4.mono'
            clear Bq3 Br3 Rp3 Ov3 Or3 oz4
            refine wpAnyH_done (by kernel_rfl) ?_ _
            simp only [Exit.inBlock]
            go_wp2
            go_roundw
            case rel =>
              refine ⟨k + 1, _, by omega, ?_, Bq4, Br4, Ov4, Or4⟩
              rw [← List.tail_drop]; exact Rp4
            case measure =>
              rw [Rp4.len, HLA.out, List.length_tail]; omega
      · have e : k = L3.length := by omega
        subst e
        have hnil : L3.drop L3.length = [] := List.drop_length
        go_wp2_with fail
        refine (wd_more p _ _ _ Rp).mono ?_
        rintro e wz ⟨rfl, rfl⟩
        rw [decide_eq_false (show ¬ 0 < (L3.drop L3.length).length by rw [hnil]; exact Nat.lt_irrefl 0)]
        go_wp2_with fail
        obtain ⟨X2, hX2⟩ : ∃ X2, ({ X with r := aV L3 L3.length } : Ev) = X2 := ⟨_, rfl⟩
        have HX2 : Hid (({ X with r := aV L3 L3.length } : Ev) = X2) := hX2
        have Rz := Rp
        have Rr := Br
        have lw6 : w.heap.size ≤ w6.heap.size := HP6.out.size
        have Pz := HP6.out.step2 Or hqs
        have Va : OwnV wz w.heap.size nilS X2.a := by rw [← hX2, ← HX.out]; exact OwnV.nil _ _
        have Vr : OwnV wz w.heap.size vr X2.r := by rw [← hX2]; exact OwnV.base Ov lw6
        have Qz : Blk wz q (evC X2 nilS vr) 37 := by rw [← hX2]; exact Bq
        clear hX2 Ov lw6 Or Rp Bq Br HLA hdl HLT hlt hk
        go_wp2_with fail
        refine (wd_more p _ _ _ Rz).mono ?_
        rintro e wy ⟨rfl, rfl⟩
        go_wp2_with fail
        refine (rd_must p _ _ _ _ Rz).mono ?_
        rintro e w9 ⟨rfl, h9, o9⟩
        have Q9 := Qz.oth o9 (by omega) (by omega)
        have R9 := Rr.oth o9 (by omega) (by omega)
        obtain ⟨_, Bp⟩ := Rz.blk
        have Va9 := OwnV.oth Va o9 Bp (by decide)
        have Vr9 := OwnV.oth Vr o9 Bp (by decide)
        have P9 := Pz.trans o9
        have oa : (nilS).oneCell' = true := by obtain ⟨a1, c1, e1⟩ := Va9.form; rw [e1]; rfl
        have ob : (vr).oneCell' = true := by obtain ⟨a1, c1, e1⟩ := Vr9.form; rw [e1]; rfl
        clear Rz Qz Rr Va Vr Pz o9 Bp
        go_wp2_with (first
          | ((with_reducible refine wp_loadB 37 (.tmp 3) q 0 (evC X2 (nilS) (vr)) (evC X2 (nilS) (vr)) 37 _ Tryz.underlying37 ?_ ?_ ?_ ?_ Q9 (fun j v hv => by rw [Nat.zero_add]; exact hv) ?_); (exact rfl); (exact sizeE); (exact ⟨rfl, rfl⟩); (exact rfl))
          | ((with_reducible refine wp_storeB 37 (.tmp 2) (.tmp 39) r 0 (evC X2 (nilS) (vr)) (evC noEv nilS nilS) 37 ?_ ?_ (evC_one _ oa ob) ?_ ?_ ?_ R9 ?_); (exact sizeE); (exact (show 0 + 14 ≤ 14 by decide)); (exact ⟨rfl, rfl⟩); (exact rfl); (exact rfl); (intro wx Rx ox)))
        replace Rx : Blk wx r (evC X2 (nilS) (vr)) 37 := Rx
        refine ret_blk rfl r (evC X2 (nilS) (vr)) 37 _ Tryz.underlying37 rfl sizeE rfl Rx rfl ?_
        have Va' := OwnV.oth Va9 ox R9 (by decide)
        have Vr' := OwnV.oth Vr9 ox R9 (by decide)
        have hx := h9.oth ox (by omega)
        have eX : eEv L = X2 := by rw [← HX2.out, ← HX.out, ← HH.out.1]; unfold eEv; rw [if_neg HY.out.1, if_pos HY.out.2, HY.out.2]; rfl
        have eF1 : eF f L = rF f3 L3 L3.length := by unfold eF; rw [if_neg HY.out.1, if_pos HY.out.2, HH.out.1, HH.out.2]
        refine ⟨_, _, [], by rw [eX], ?_, by rw [eX]; exact Va', by rw [eX]; exact Vr', P9.step ox hrs⟩
        rw [eF1]
        rw [hnil] at hx
        have hk0 : kp (rF f3 L3 L3.length) (mf (!decide (0 < ([] : List (List UInt8)).length))) = rF f3 L3 L3.length := kp_zero _
        rw [← hk0]
        exact hx
  have hb1 : (((eY L : Nat) : Int) == 1) = false := by simp; omega
  have hb2 : (((eY L : Nat) : Int) == 2) = false := by simp; omega
  go_wp2_with ((with_reducible refine wp_storeC 3 (.tmp 12) (.tmp 11) q 4 (.int .i64 (eY L : Int)) (evC { noEv with t := (eT L).1, c := vOf L.tail } nilS nilS) 37 ?_ ?_ ?_ ?_ ?_ ?_ ?_ Q5 ?_); (exact sizeI); (exact (show 4 < 14 by decide)); (exact rfl); (exact rfl); (exact ⟨rfl, rfl⟩); (exact rfl); (exact rfl); (intro w6 Q6 o6); (have c4 : w6.cell? ⟨q, 4, none⟩ = some (.int .i64 (eY L : Int)) := Q6.cell 4 (.int .i64 (eY L : Int)) rfl); (replace Q6 : Blk w6 q (evC { noEv with t := (eT L).1, c := vOf L.tail, y := eY L } nilS nilS) 37 := Q6); (have h6 := h5.oth o6 hp2); (have R6 := R5.oth o6 (by omega) (by omega)); (have P6 := P5.step o6 hqs); (have b7 := below_oth b6 o6 hwq hwq b6.size); clear h5 R5 Q5 P5 b6 o6)
  obtain ⟨wz, hwz⟩ : ∃ wz, w6 = wz := ⟨_, rfl⟩
  rw [hwz] at h6 Q6 R6 P6 ⊢
  have Rz : Rdr wz p (l3 L) (e3 f L) := h6
  have Qz := Q6
  have Rr := R6
  have Pz := P6
  clear c4 h6 Q6 R6 P6 b7 hb1 hb2 hwz
  obtain ⟨X, hX⟩ : ∃ X, ({ noEv with t := (eT L).1, c := vOf L.tail, y := ((eY L : Nat) : Int) } : Ev) = X := ⟨_, rfl⟩
  have HX : Hid (({ noEv with t := (eT L).1, c := vOf L.tail, y := ((eY L : Nat) : Int) } : Ev) = X) := hX
  have Va : OwnV wz w.heap.size nilS X.a := by rw [← hX]; exact OwnV.nil _ _
  have Vr : OwnV wz w.heap.size nilS X.r := by rw [← hX]; exact OwnV.nil _ _
  rw [hX] at Qz
  clear hX
  go_wp2_with fail
  refine (wd_more p _ _ _ Rz).mono ?_
  rintro e wy ⟨rfl, rfl⟩
  go_wp2_with fail
  refine (rd_must p _ _ _ _ Rz).mono ?_
  rintro e w9 ⟨rfl, h9, o9⟩
  have Q9 := Qz.oth o9 (by omega) (by omega)
  have R9 := Rr.oth o9 (by omega) (by omega)
  obtain ⟨_, Bp⟩ := Rz.blk
  have Va9 := OwnV.oth Va o9 Bp (by decide)
  have Vr9 := OwnV.oth Vr o9 Bp (by decide)
  have P9 := Pz.trans o9
  have oa : (nilS).oneCell' = true := by obtain ⟨a1, c1, e1⟩ := Va9.form; rw [e1]; rfl
  have ob : (nilS).oneCell' = true := by obtain ⟨a1, c1, e1⟩ := Vr9.form; rw [e1]; rfl
  clear Rz Qz Rr Va Vr Pz o9 Bp
  go_wp2_with (first
    | ((with_reducible refine wp_loadB 37 (.tmp 3) q 0 (evC X (nilS) (nilS)) (evC X (nilS) (nilS)) 37 _ Tryz.underlying37 ?_ ?_ ?_ ?_ Q9 (fun j v hv => by rw [Nat.zero_add]; exact hv) ?_); (exact rfl); (exact sizeE); (exact ⟨rfl, rfl⟩); (exact rfl))
    | ((with_reducible refine wp_storeB 37 (.tmp 2) (.tmp 39) r 0 (evC X (nilS) (nilS)) (evC noEv nilS nilS) 37 ?_ ?_ (evC_one _ oa ob) ?_ ?_ ?_ R9 ?_); (exact sizeE); (exact (show 0 + 14 ≤ 14 by decide)); (exact ⟨rfl, rfl⟩); (exact rfl); (exact rfl); (intro wx Rx ox)))
  replace Rx : Blk wx r (evC X (nilS) (nilS)) 37 := Rx
  refine ret_blk rfl r (evC X (nilS) (nilS)) 37 _ Tryz.underlying37 rfl sizeE rfl Rx rfl ?_
  have Va' := OwnV.oth Va9 ox R9 (by decide)
  have Vr' := OwnV.oth Vr9 ox R9 (by decide)
  have hx := h9.oth ox (by omega)
  have eX : eEv L = X := by rw [← HX.out]; unfold eEv; rw [if_neg hy, if_neg hy2]; rfl
  refine ⟨_, _, (l3 L), by rw [eX], ?_, by rw [eX]; exact Va', by rw [eX]; exact Vr', P9.step ox hrs⟩
  unfold eF
  rw [if_neg hy, if_neg hy2]
  exact hx
end Go.Proofs.YtdhlheilgagcpaaGreatDoor
