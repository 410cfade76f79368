/- A row of texts that the call owns: laid, appended to; the contract of texts. Conditions: the values' texts are at most 2^62 bytes, their numbers of 64 bits, and few enough. The contract of Print. Conditions: the tables and the event's lists lie in memory; the event's numbers are of 64 bits, its texts at most 2^62 bytes, its values few enough. -/
import Derived.Test.YtdhlheilgagcpaaGreatDoorEV
import Derived.Test.YtdhlheilgagcpaaGreatDoorBQ
import Derived.Test.YtdhlheilgagcpaaGreatDoorBR
namespace Go.Proofs.YtdhlheilgagcpaaGreatDoor
open Go.RowKit Go.PlainAid Ln
set_option linter.unusedVariables false
set_option linter.unusedSimpArgs false

theorem own_three (w : World) (B : Nat) (a b c : ByteArray) (hB : B ≤ w.heap.size) : OwnS (w.alloc (.cells #[.string a, .string b, .string c] 9)) B (.slice (some ⟨w.heap.size, 0, none⟩) 3 3) [tx a, tx b, tx c] := by
  have e : cellsS [tx a, tx b, tx c] = (#[.string a, .string b, .string c] : Array Value).toList := by simp [cellsS, bs_tx]
  unfold OwnS
  rw [e]
  exact World.ownsRow_lit w #[.string a, .string b, .string c] 3 hB (by decide) rfl
theorem addr_add (b o j : Nat) : (⟨b, o, none⟩ : Addr).add j = ⟨b, o + j, none⟩ := by simp [Addr.add]
/-- append of a row of texts to a row that the call owns, at an operation -/
theorem wpo_appendS {o : Oper} {a : Act} {w : World} {K : Act → World → Prop} {Q : Exit → Act → World → Prop} (s x : Operand)
    (ho : o.op = .call { callee := .builtin .append, args := #[s, x], argTypes := #[41, 41] }) (B : Nat) (v u : Value) (xs ys : List (List UInt8)) (hs : a.eval s = v) (hown : OwnS w B v xs)
    (hx : a.eval x = u) (hu : SSl w u ys) (hp : 0 < ys.length) (hlen : xs.length + ys.length ≤ 1000000) (hbase : B ≤ w.heap.size)
    (h : ∀ v' w', OwnS w' B v' (xs ++ ys) → w.grownBy w' v.ownBlock → v' ≠ .slice none 0 0 → K (a.put o.dst v') w') : o.wp Tryz.prog a w K Q := by
  obtain ⟨i0, hi, hz0, hz1, hz2⟩ := info_parts infoS
  obtain ⟨ad, c, hv, hl, hm, hn⟩ := hu.form
  subst hv
  obtain ⟨b, o', rfl, hb⟩ := SSl.block hu hp
  unfold OwnS at hown h
  refine wp_append_lies _ s x 41 ho B 9 i0 (.string ⟨#[]⟩) 1 16 Tryz.underlying41 hi hz0 hz1 hz2 rfl (by decide) v xs.length (cellsS xs) hs hown ⟨b, o', none⟩ ys.length c (cellsS ys) hx (by rw [cellsS_len, Nat.mul_one]) ?_ (cellsS_one _) hp (by unfold maxLen; omega) (by omega) hbase _ rfl ?_
  · intro j z hj
    have hj' : j < ys.length := by
      have := (List.getElem?_eq_some_iff.1 hj).1
      rwa [cellsS_len] at this
    rw [cellsS_at ys j hj'] at hj
    rw [← hj, addr_add]
    exact SSl.cell hu hj'
  · intro g cap w' hown' hgrow _ _
    refine h _ w' ?_ hgrow (fun e => by cases e)
    rw [cellsS_app, List.length_append]; exact hown'
/-- .. in a region, the row to append nil where it is empty -/
theorem wpList_appendSS {ops : Array Oper} {rest : List Oper} {o : Oper} {a : Act} {w : World} {Q : Exit → Act → World → Prop} (hgd : o.guard = none) (s x : Operand)
    (ho : o.op = .call { callee := .builtin .append, args := #[s, x], argTypes := #[41, 41] }) (B : Nat) (v u : Value) (xs ys : List (List UInt8)) (hs : a.eval s = v) (hown : OwnS w B v xs)
    (hx : a.eval x = u) (hu : SSl w u ys) (hnil : ys.length = 0 → u = .slice none 0 0) (hlen : xs.length + ys.length ≤ 1000000) (hbase : B ≤ w.heap.size)
    (h : ∀ v' w', OwnS w' B v' (xs ++ ys) → w.grownBy w' v.ownBlock → wpList Tryz.prog ops Q rest (a.put o.dst v') w') : wpList Tryz.prog ops Q (o :: rest) a w := by
  rcases Nat.eq_zero_or_pos ys.length with e | e
  · have hu0 := hnil e
    obtain rfl : ys = [] := List.eq_nil_of_length_eq_zero e
    obtain ⟨i0, hi, _, _, _⟩ := info_parts infoS
    refine wpList_append_own_none hgd s x 41 ho B 9 i0 1 Tryz.underlying41 hi v xs.length (cellsS xs) hs hown (hx.trans hu0) ?_
    exact h v w (by rw [List.append_nil]; exact hown) ⟨rfl, rfl, rfl, Nat.le_refl _, fun _ _ _ => rfl⟩
  · exact wpList_plain hgd fun K hK => wpo_appendS s x ho B v u xs ys hs hown hx hu e hlen hbase fun v' w' o' g' _ => hK _ _ (h v' w' o' g')
theorem take_pv (xs : List Val) (k : Nat) (h : k < xs.length) : (xs.take (k + 1)).map pv = (xs.take k).map pv ++ [pv (nv xs k)] := by
  rw [List.take_succ_eq_append_getElem h, List.map_append, nv_eq xs k h]; rfl
/-- how texts ends -/
def RTexts (w : World) (xs : List Val) (e : Ending) (w' : World) : Prop := ∃ v, e = .returned v ∧ OwnS w' w.heap.size v (xs.map pv) ∧ (xs.length = 0 → v = .slice none 0 0) ∧ Below w.heap.size w w'
set_option maxHeartbeats 2000000 in
theorem texts_any (v : Value) (xs : List Val) (w : World) (hp : Pt w) (hv : VSl w v xs) (hs : ∀ i, i < xs.length → (nv xs i).2.2.size ≤ 4611686018427387904) (hb : ∀ i, i < xs.length → bdV (nv xs i)) (hn : xs.length ≤ 900000) :
    Calls Tryz.prog 32 #[v] w fun e w' => RTexts w xs e w' := by
  obtain ⟨a, c, rfl, hl, hm, hc⟩ := hv
  have HC : Hid ((xs = [] ∧ (a = none → c = 0)) ∨ ∃ b o, a = some ⟨b, o, none⟩ ∧ b < w.heap.size ∧ ∀ i, i < xs.length → At w b (o + i * 3) (nv xs i)) := hc
  have HS : Hid (∀ i, i < xs.length → (nv xs i).2.2.size ≤ 4611686018427387904) := hs
  have HB : Hid (∀ i, i < xs.length → bdV (nv xs i)) := hb
  have HP : Hid (Pt w) := hp
  clear hc hs hb hp
  go_enter Tryz.func32, Tryz.ntmps32
  go_wp2
  go_loopw [3, 8] (fun l i w' => ∃ k : Nat, k ≤ xs.length ∧ i = .int .i64 (k : Int) ∧ Below w.heap.size w w' ∧ OwnS w' w.heap.size l ((xs.take k).map pv) ∧ (k = 0 → l = .slice none 0 0)) (fun l i w' => xs.length - (intOf i).toNat)
  case atStart => exact ⟨0, by omega, rfl, Below.refl _ _, OwnS.nil _ _, fun _ => rfl⟩
  case round =>
    obtain ⟨k, hk, rfl, hbel, hown, hnil⟩ := hrel
    have HO : Hid (OwnS wr w.heap.size u3 ((xs.take k).map pv)) := hown
    have HBel : Hid (Below w.heap.size w wr) := hbel
    have HN : Hid (k = 0 → u3 = .slice none 0 0) := hnil
    obtain ⟨av, cv, hform⟩ := hown.form
    have hln : ((xs.take k).map pv).length ≤ 900000 := by rw [List.length_map, List.length_take]; omega
    clear hown hnil
    by_cases hlt : k < xs.length
    · have hlt' : (k : Int) < (xs.length : Int) := by omega
      rcases HC.out with ⟨h0, _⟩ | ⟨b, o, rfl, hbl, hat⟩
      · rw [h0] at hlt; cases hlt
      obtain ⟨c0, c1, c2⟩ := (hat k hlt).later hbl hbel
      have HBx : Hid (Below w.heap.size w (wr.alloc (.cells #[.int .i64 (nv xs k).1, .int .i64 (nv xs k).2.1, .string (nv xs k).2.2] 34))) := below_more hbel _
      have hR := fun w' (hw : Below w.heap.size w w') => vprint_any (nv xs k).1 (nv xs k).2.1 (nv xs k).2.2 w' (HS.out k hlt) (HB.out k hlt) (HP.out.later hw)
      obtain ⟨y, hy⟩ : ∃ y, pv (nv xs k) = y := ⟨_, rfl⟩
      have hy2 : prt (nv xs k).1 (nv xs k).2.1 (nv xs k).2.2 = bs y := by rw [← hy]; exact (bs_tx _).symm
      rw [hy2] at hR
      have HY : Hid (pv (nv xs k) = y) := hy
      have HR : Hid (∀ w', Below w.heap.size w w' → _) := hR
      clear hat hy hy2 hR hbel hform
      go_wp2_with fail
      refine (HR.out _ HBx.out).mono ?_
      rintro e w2 ⟨rfl, b2⟩
      have HB2 : Hid (Below w.heap.size w w2) := below_next HBx.out b2
      have HO2 : Hid (OwnS w2 w.heap.size u3 ((xs.take k).map pv)) := (HO.out.later (below_more (Below.refl _ _) _)).later b2
      clear b2
      go_wp2_with (at_builtin; refine wpList_appendS rfl (.tmp 12) (.tmp 15) rfl w.heap.size u3 _ rfl (HO2.out.later (below_more (Below.refl _ _) _)) ⟨w2.heap.size, 0, none⟩ 1 y rfl (by simp) (by omega) (by have := HB2.out.size; simp; omega) ?_; intro v6 w6 o6 g6; have HO6 : Hid (OwnS w6 w.heap.size v6 ((xs.take k).map pv ++ [y])) := o6; have HB6 : Hid (Below w.heap.size w w6) := Below.grown (below_more HB2.out _) g6 (by have := HB2.out.size; simp; omega) (fun q h => (HO2.out.lt q h).1); clear o6 g6)
      go_roundw
      case rel =>
        refine ⟨k + 1, by omega, by go_num, HB6.out, ?_, fun h => by omega⟩
        rw [take_pv xs k hlt, HY.out]; exact HO6.out
      case measure => simp [intOf]; omega
    · have e : k = xs.length := by omega
      subst e
      rw [List.take_of_length_le (Nat.le_refl _)] at HO
      go_wp2
      go_ret
      exact ⟨_, rfl, HO.out, HN.out, HBel.out⟩
end Go.Proofs.YtdhlheilgagcpaaGreatDoor
namespace Go.Proofs.YtdhlheilgagcpaaGreatDoor
open Go.RowKit Go.PlainAid Ln
set_option linter.unusedVariables false
set_option linter.unusedSimpArgs false

/-- the second half of a code -/
def sndD : Code → Code
  | .seq _ b => b
  | c => c
theorem Blk.row {w w' : World} {p : Nat} {c : List Value} {t : TypeId} {v : Value} {L : List (List UInt8)} {B : Nat} (h : Blk w p c t) (hg : w.grownBy w' v.ownBlock) (ho : OwnS w B v L) (hp : p < B) : Blk w' p c t :=
  (hg.block p h.lt (fun e => by have := (ho.lt p e.symm).1; omega)).trans h
theorem below_row {w0 w w' : World} {v : Value} {L : List (List UInt8)} {B : Nat} (h : Below w0.heap.size w0 w) (hg : w.grownBy w' v.ownBlock) (ho : OwnS w B v L) (hB : w0.heap.size ≤ B) : Below w0.heap.size w0 w' :=
  Below.grown h hg h.size (fun k hk => Nat.le_trans hB (ho.lt k hk).1)
/-- what a list of words and a note become -/
def lst (L0 : List (List UInt8)) (x : Ev) : List (List UInt8) := L0 ++ x.a.map pv ++ x.r.map pv ++ (if x.nd = true then [59 :: tx x.n] else [])
set_option maxRecDepth 100000 in
set_option maxHeartbeats 4000000 in
theorem ep_tail (x : Ev) (va vr v : Value) (w wz : World) (p B : Nat) (L0 : List (List UInt8)) (x4 x5 x6 x7 x8 x9 x10 x11 x12 x13 x14 x15 x16 x17 x18 x19 x20 x21 x22 x23 x24 x25 x26 x27 x28 x29 x30 x31 x32 x33 x34 x35 x36 x37 x38 x39 x40 x41 x42 x43 x44 x45 x46 x47 x48 x49 x50 x51 x52 : Value) (hB : Blk wz p (evC x va vr) 37) (hpB : p < B) (hwB : w.heap.size ≤ B) (hBz : B ≤ wz.heap.size) (ho : OwnS wz B v L0) (hL : L0.length ≤ 6)
    (bel : Below w.heap.size w wz) (hp : Pt w) (h1 : VSl w va x.a) (h2 : VSl w vr x.r) (hz : SzE x) (hb : bdE x) (la : x.a.length ≤ 2) (lr : x.r.length ≤ 900000) (ln : x.n.size ≤ 100) (hj : (Lib.join (lst L0 x) [32]).length ≤ 1099511627776) :
    Code.wp Tryz.prog (sndD (sndD (sndD (sndD (Tryz.f14.body.getD .skip))))) (bodyPost Tryz.prog Tryz.f14 fun e w' => e = .returned (.string (bs (Lib.join (lst L0 x) [32]))) ∧ Below w.heap.size w w') ⟨#[.agg (evC x va vr).toArray, .pointer (some ⟨p, 0, none⟩), .string ⟨#[]⟩, v, x4, x5, x6, x7, x8, x9, x10, x11, x12, x13, x14, x15, x16, x17, x18, x19, x20, x21, x22, x23, x24, x25, x26, x27, x28, x29, x30, x31, x32, x33, x34, x35, x36, x37, x38, x39, x40, x41, x42, x43, x44, x45, x46, x47, x48, x49, x50, x51, x52], []⟩ wz := by
  obtain ⟨a0, a1, a2, a3, a4, a5, a6, a7, a8, a9, a10, a11, a12, a13⟩ := ev_cells hB
  have HB : Hid (Blk wz p (evC x va vr) 37) := hB
  have HO : Hid (OwnS wz B v L0) := ho
  have HBel : Hid (Below w.heap.size w wz) := bel
  have HP : Hid (Pt w) := hp
  have H1 : Hid (VSl w va x.a) := h1
  have H2 : Hid (VSl w vr x.r) := h2
  have HZ : Hid (SzE x) := hz
  have Hb : Hid (bdE x) := hb
  have HN : Hid (x.a.length ≤ 2 ∧ x.r.length ≤ 900000 ∧ L0.length ≤ 6) := ⟨la, lr, hL⟩
  have HW : Hid (p < B ∧ w.heap.size ≤ B ∧ B ≤ wz.heap.size) := ⟨hpB, hwB, hBz⟩
  have HLn : Hid (x.n.size ≤ 100) := ln
  clear ln
  have HJ : Hid ((Lib.join (lst L0 x) [32]).length ≤ 1099511627776) := hj
  clear hB ho bel hp h1 h2 hz hb la lr hL hpB hwB hBz hj
  unfold Tryz.f14
  dsimp only [sndD, Option.getD]
  go_wp2_with fail
  refine (texts_any va x.a _ (HP.out.later HBel.out) (H1.out.later HBel.out) HZ.out.2.2.1 Hb.out.2.2.2.1 (by have := HN.out; omega)).mono ?_
  rintro e w2 ⟨u, rfl, uo, un, b2⟩
  have HO2 : Hid (OwnS w2 B v L0) := HO.out.later b2
  have HB2 : Hid (Blk w2 p (evC x va vr) 37) := HB.out.later b2
  have HBel2 : Hid (Below w.heap.size w w2) := below_next HBel.out b2
  have HU : Hid (SSl w2 u (x.a.map pv)) := uo.ssl
  have HUn : Hid ((x.a.map pv).length = 0 → u = .slice none 0 0) := by intro h; exact un (by simpa using h)
  have HB2l : Hid (B ≤ w2.heap.size) := Nat.le_trans HW.out.2.2 b2.size
  clear uo un b2
  go_wp2_with (at_builtin; refine wpList_appendSS rfl (.tmp 33) (.tmp 36) rfl B v u L0 (x.a.map pv) rfl HO2.out rfl HU.out HUn.out (by have := HN.out; rw [List.length_map]; omega) HB2l.out ?_; intro v3 w3 o3 g3; have HO3 : Hid (OwnS w3 B v3 (L0 ++ x.a.map pv)) := o3; have HB3 : Hid (Blk w3 p (evC x va vr) 37) := HB2.out.row g3 HO2.out HW.out.1; have HBel3 : Hid (Below w.heap.size w w3) := below_row HBel2.out g3 HO2.out HW.out.2.1; have HB3l : Hid (B ≤ w3.heap.size) := Nat.le_trans HB2l.out g3.size; clear o3 g3 a0 a1 a2 a3 a4 a5 a6 a7 a8 a9 a10 a11 a12 a13; (obtain ⟨a0, a1, a2, a3, a4, a5, a6, a7, a8, a9, a10, a11, a12, a13⟩ := ev_cells HB3.out))
  refine (texts_any vr x.r _ (HP.out.later HBel3.out) (H2.out.later HBel3.out) HZ.out.2.2.2.1 Hb.out.2.2.2.2 HN.out.2.1).mono ?_
  rintro e w4 ⟨u2, rfl, uo, un, b4⟩
  have HO4 : Hid (OwnS w4 B v3 (L0 ++ x.a.map pv)) := HO3.out.later b4
  have HB4 : Hid (Blk w4 p (evC x va vr) 37) := HB3.out.later b4
  have HBel4 : Hid (Below w.heap.size w w4) := below_next HBel3.out b4
  have HU2 : Hid (SSl w4 u2 (x.r.map pv)) := uo.ssl
  have HUn2 : Hid ((x.r.map pv).length = 0 → u2 = .slice none 0 0) := by intro h; exact un (by simpa using h)
  have HB4l : Hid (B ≤ w4.heap.size) := Nat.le_trans HB3l.out b4.size
  clear uo un b4
  cases hnd : x.nd
  · have HE : Hid (lst L0 x = L0 ++ x.a.map pv ++ x.r.map pv) := by show lst L0 x = _; unfold lst; rw [hnd]; simp
    go_wp2_with (at_builtin; refine wpList_appendSS rfl (.tmp 38) (.tmp 41) rfl B v3 u2 (L0 ++ x.a.map pv) (x.r.map pv) rfl HO4.out rfl HU2.out HUn2.out (by have := HN.out; rw [List.length_append, List.length_map, List.length_map]; omega) HB4l.out ?_; intro v5 w5 o5 g5; have HO5 : Hid (OwnS w5 B v5 (lst L0 x)) := (by rw [HE.out]; exact o5); have HB5 : Hid (Blk w5 p (evC x va vr) 37) := HB4.out.row g5 HO4.out HW.out.1; have HBel5 : Hid (Below w.heap.size w w5) := below_row HBel4.out g5 HO4.out HW.out.2.1; clear o5 g5 a0 a1 a2 a3 a4 a5 a6 a7 a8 a9 a10 a11 a12 a13; (obtain ⟨a0, a1, a2, a3, a4, a5, a6, a7, a8, a9, a10, a11, a12, a13⟩ := ev_cells HB5.out); rw [hnd] at a12)
    refine (pjoin_any _ v5 (lst L0 x) HO5.out.ssl (by have := HN.out; rw [HE.out]; simp only [List.length_append, List.length_map]; omega) HJ.out).mono ?_
    rintro e w6 ⟨rfl, b6⟩
    go_wp2_with fail
    go_ret
    exact ⟨rfl, below_next HBel5.out b6⟩
  · have HE : Hid (lst L0 x = L0 ++ x.a.map pv ++ x.r.map pv ++ [59 :: tx x.n]) := by show lst L0 x = _; unfold lst; rw [hnd]; simp
    obtain ⟨q, hq⟩ : ∃ q, (⟨#[59]⟩ : ByteArray) ++ x.n = bs q ∧ 59 :: tx x.n = q := ⟨_, by rw [← bs_tx x.n]; exact bs_app [59] (tx x.n), rfl⟩
    have hq1 := hq.1
    have HQ : Hid (59 :: tx x.n = q) := hq.2
    have ln' := HLn.out
    clear hq
    go_wp2_with (first
      | (at_builtin; refine wpList_appendSS rfl (.tmp 38) (.tmp 41) rfl B v3 u2 (L0 ++ x.a.map pv) (x.r.map pv) rfl HO4.out rfl HU2.out HUn2.out (by have := HN.out; rw [List.length_append, List.length_map, List.length_map]; omega) HB4l.out ?_; intro v5 w5 o5 g5; have HO5 : Hid (OwnS w5 B v5 (L0 ++ x.a.map pv ++ x.r.map pv)) := o5; have HB5 : Hid (Blk w5 p (evC x va vr) 37) := HB4.out.row g5 HO4.out HW.out.1; have HBel5 : Hid (Below w.heap.size w w5) := below_row HBel4.out g5 HO4.out HW.out.2.1; have HB5l : Hid (B ≤ w5.heap.size) := Nat.le_trans HB4l.out g5.size; clear o5 g5 a0 a1 a2 a3 a4 a5 a6 a7 a8 a9 a10 a11 a12 a13; (obtain ⟨a0, a1, a2, a3, a4, a5, a6, a7, a8, a9, a10, a11, a12, a13⟩ := ev_cells HB5.out); rw [hnd] at a12)
      | (at_builtin; refine wpList_appendS rfl (.tmp 45) (.tmp 49) rfl B v5 (L0 ++ x.a.map pv ++ x.r.map pv) rfl (HO5.out.later (below_more (Below.refl _ _) _)) ⟨w5.heap.size, 0, none⟩ 1 q rfl (by simp) (by have := HN.out; simp only [List.length_append, List.length_map]; omega) (by have := HB5l.out; simp; omega) ?_; intro v6 w6 o6 g6; have HO6 : Hid (OwnS w6 B v6 (lst L0 x)) := (by rw [HE.out, HQ.out]; exact o6); have HBel6 : Hid (Below w.heap.size w w6) := below_row (below_more HBel5.out _) g6 (HO5.out.later (below_more (Below.refl _ _) _)) HW.out.2.1; clear o6 g6))
    refine (pjoin_any _ v6 (lst L0 x) HO6.out.ssl (by have := HN.out; rw [HE.out]; simp only [List.length_append, List.length_map, List.length_cons, List.length_nil]; omega) HJ.out).mono ?_
    rintro e w7 ⟨rfl, b7⟩
    go_wp2_with fail
    go_ret
    exact ⟨rfl, below_next HBel6.out b7⟩
end Go.Proofs.YtdhlheilgagcpaaGreatDoor
