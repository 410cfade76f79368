/- That the program's tables hold the signs and the words, out of what a row says of them; a start that meets it. No conditions. -/
import Derived.Test.YtdhlheilgagcpaaGreatDoorEF
import Derived.Test.YtdhlheilgagcpaaGreatDoorBG
import Derived.Lay
import Derived.ProofKit
import Derived.LaidMore
import Derived.OpenShut
import Derived.Stop.Joined
import Derived.Stop.LaidErr
import Derived.Deep.Slices
import Derived.Deep.Strs
namespace Go.Proofs.YtdhlheilgagcpaaGreatDoor
open Go.ChangeShapes Go.WideShapes Go.RowKit
set_option linter.unusedVariables false

theorem ownT : ownKnob Tryz.prog.godebug = none := by kernel_rfl
theorem laidOutT : laidOutB Tryz.prog = true := by kernel_rfl
theorem gSig : Tryz.prog.globalNamed "incognito/sign.signs" = some 4 := by kernel_rfl
theorem tSig : (Tryz.prog.globals[4]?).map (·.type) = some 146 := by kernel_rfl
/-- what the rows list -/
def laid1 : List (String × DataW Unit) := [("math/bits.deBruijn32tab", Rows.laid_math_bits_deBruijn32tab), ("math/bits.deBruijn64tab", Rows.laid_math_bits_deBruijn64tab), ("internal/strconv.uint64pow10", Rows.laid_internal_strconv_uint64pow10), ("unicode/utf8.acceptRanges", Rows.laid_unicode_utf8_acceptRanges), ("incognito/sign.models", Rows.laid_incognito_sign_models), ("incognito/sign.ops", Rows.laid_incognito_sign_ops), ("incognito/sign.signs", Rows.laid_incognito_sign_signs), ("incognito/event.types", Rows.laid_incognito_event_types), ("unicode/utf8.first", Rows.laid_unicode_utf8_first)]
/-- a row of numbers, and a sign, as data -/
def dSl {H : Type} : List Int → DataW H
  | [] => .nil
  | x :: xs => .slice ((x :: xs).map fun z => .lit (.int .i64 z)) []
def dRw {H : Type} (r : Rw) : DataW H := .agg [.lit (.int .i64 r.m), .lit (.int .i64 r.o), dSl r.inn, dSl r.out, .lit (.int .i64 r.c)]
theorem laid_signs : (Rows.laid_incognito_sign_signs : DataW Unit) = .agg (tab.map dRw) := rfl

theorem isl_open {H : Type} {enc : TypeId × Value → H} {W : World} {held : Bool} {fuel : Nat} {cs : List Value} {xs : List Int} {p : List MemPlace}
    (h : DataW.trod enc Tryz.prog W 0 (fun _ => true) held fuel 78 cs = some (dSl xs, p)) : ∃ v, cs = [v] ∧ ISl W v xs := by
  have hce : Tryz.prog.cellsOf 3 = 1 := by kernel_rfl
  rcases Deep.open_slice1 Tryz.underlying78 hce h with ⟨hcs, hx⟩ | ⟨x, l, c, m, n, V, D, Pl, hcs, _, hl, hm, hmm, hx, hr⟩
  · cases xs with
    | nil => exact ⟨_, hcs, ISl.nil W⟩
    | cons y ys => simp [dSl] at hx
  · cases xs with
    | nil => simp [dSl] at hx
    | cons y ys =>
      simp only [dSl, Prod.mk.injEq, DataW.slice.injEq] at hx
      obtain ⟨⟨hx, _⟩, _⟩ := hx
      unfold maxLen at hm
      have hlen : l = (y :: ys).length := by
        have := congrArg List.length hx
        simpa using this.symm
      have hmc : m = c := by simpa using hmm
      subst hlen
      refine ⟨_, hcs, some x, c, rfl, hl, by omega, .inr ?_⟩
      have each : ∀ i, i < (y :: ys).length → W.cell? (x.add i) = some (.int .i64 (nth (y :: ys) i)) := by
        intro i hi
        obtain ⟨h1, h2⟩ := hr i (by omega)
        obtain ⟨z, hz, hd, _⟩ := DataW.trod_int Tryz.underlying3 h2
        have e := congrArg (·[i]?) hx
        simp only [List.getElem?_map, List.getElem?_range hi, Option.map_some, List.getElem?_eq_getElem hi] at e
        have hd' : D i = .lit (.int .i64 z) := congrArg Prod.fst hd
        rw [hd'] at e
        simp only [Option.some.injEq, DataW.lit.injEq, Lit.int.injEq, true_and] at e
        simp only [List.cons.injEq, and_true] at hz
        rw [h1, hz, nth_eq _ i hi, e]
      obtain ⟨b, off, spot⟩ := x
      have hc := each 0 (by simp)
      have hspot : spot = none := by simpa [Addr.add] using World.cell?_spot hc
      subst hspot
      refine ⟨b, off, rfl, ?_, fun i hi => ?_⟩
      · have := World.block_lt_of_cell? W _ hc
        simpa [Addr.add] using this
      · have h1 := each i hi
        rw [Addr.add_mid] at h1
        exact h1

set_option maxRecDepth 100000 in
theorem row_open {H : Type} {enc : TypeId × Value → H} {W : World} {held : Bool} {fuel : Nat} {cs : List Value} {r : Rw} {p : List MemPlace}
    (h : DataW.trod enc Tryz.prog W 0 (fun _ => true) held fuel 128 cs = some (dRw r, p)) : ∃ vi vo, cs = rcs r vi vo ∧ ISl W vi r.inn ∧ ISl W vo r.out := by
  obtain ⟨xs, n, _, hx, hl, hlen, hf⟩ := DataW.trod_struct Tryz.underlying128 h
  have c0 : Tryz.prog.cellsOf 3 = 1 := by kernel_rfl
  have c1 : Tryz.prog.cellsOf 78 = 1 := by kernel_rfl
  have c5 : Tryz.prog.cellsOf 128 = 5 := by kernel_rfl
  rw [c5] at hl
  match cs, hl with
  | [v0, v1, v2, v3, v4], _ =>
    match xs, hlen with
    | [y0, y1, y2, y3, y4], _ =>
      have g0 := hf 0 _ rfl
      have g1 := hf 1 _ rfl
      have g2 := hf 2 _ rfl
      have g3 := hf 3 _ rfl
      have g4 := hf 4 _ rfl
      simp [c0, c1] at g0 g1 g2 g3 g4
      simp only [dRw, Prod.mk.injEq, DataW.agg.injEq, List.map_cons, List.map_nil, List.cons.injEq, and_true] at hx
      obtain ⟨⟨e0, e1, e2, e3, e4⟩, _⟩ := hx
      obtain ⟨z0, hz0, hd0, _⟩ := DataW.trod_int Tryz.underlying3 g0
      obtain ⟨z1, hz1, hd1, _⟩ := DataW.trod_int Tryz.underlying3 g1
      obtain ⟨z4, hz4, hd4, _⟩ := DataW.trod_int Tryz.underlying3 g4
      obtain ⟨y20, y21⟩ := y2
      obtain ⟨y30, y31⟩ := y3
      simp only at e2 e3
      subst e2 e3
      obtain ⟨vi, hvi, hi⟩ := isl_open g2
      obtain ⟨vo, hvo, ho⟩ := isl_open g3
      rw [hd0] at e0
      rw [hd1] at e1
      rw [hd4] at e4
      simp at hz0 hz1 hz4 hvi hvo e0 e1 e4
      refine ⟨vi, vo, ?_, hi, ho⟩
      unfold rcs
      rw [hz0, hz1, hz4, hvi, hvo, e0, e1, e4]

set_option maxRecDepth 100000 in
theorem tb_of_met {W : World} {r : List (String × DataW Unit)} (h : laidMet Tryz.prog (("incognito/sign.signs", Rows.laid_incognito_sign_signs) :: r) W) : Tb W := by
  obtain ⟨ps, ⟨g, t, cs, fuel, p, q, hg, ht, hvar, hd, _, _⟩, _⟩ := h
  obtain rfl := Option.some.inj (gSig.symm.trans hg)
  obtain rfl := Option.some.inj (tSig.symm.trans ht)
  rw [laid_signs] at hd
  obtain ⟨xs, n, _, hx, hl, hlen, hf⟩ := DataW.trod_array Tryz.underlying146 hd
  have c5 : Tryz.prog.cellsOf 128 = 5 := by kernel_rfl
  have c24 : Tryz.prog.cellsOf 146 = 120 := by kernel_rfl
  rw [c5] at hf
  rw [c24] at hl
  have hmap : xs.map (·.1) = tab.map dRw := by
    have := congrArg Prod.fst hx
    simpa using this.symm
  have each : ∀ i, i < 24 → ∃ vv : Value × Value, (cs.toList.drop (i * 5)).take 5 = rcs (rwA i) vv.1 vv.2 ∧ ISl W vv.1 (rwA i).inn ∧ ISl W vv.2 (rwA i).out := by
    intro i hi
    have h1 := hf i hi
    have hx' := congrArg (·[i]?) hmap
    simp only [List.getElem?_map, List.getElem?_eq_getElem (show i < xs.length by omega), List.getElem?_eq_getElem (show i < tab.length by rw [tab_len]; omega), Option.map_some, Option.some.injEq] at hx'
    rw [rwA_get i hi] at hx'
    rw [List.getElem?_eq_getElem (show i < xs.length by omega)] at h1
    generalize xs[i] = y at h1 hx'
    obtain ⟨y0, y1⟩ := y
    simp only at hx'
    subst hx'
    obtain ⟨vi, vo, a, b, c⟩ := row_open h1
    exact ⟨(vi, vo), a, b, c⟩
  obtain ⟨F, hF⟩ : ∃ F : Nat → Value × Value, ∀ i, i < 24 → (cs.toList.drop (i * 5)).take 5 = rcs (rwA i) (F i).1 (F i).2 ∧ ISl W (F i).1 (rwA i).inn ∧ ISl W (F i).2 (rwA i).out :=
    ⟨fun i => if h : i < 24 then (each i h).choose else (undef, undef), fun i hi => by simp only [dif_pos hi]; exact (each i hi).choose_spec⟩
  refine ⟨fun i => (F i).1, fun i => (F i).2, ?_, ?_, fun i hi => (hF i hi).2⟩
  · intro j v hv
    have hj : j < 120 := by
      have := (List.getElem?_eq_some_iff.1 hv).1
      rw [cellsT_len] at this; exact this
    have h1 := World.var?_cell gSig hvar j
    rw [Nat.zero_add, h1]
    have e1 := cellsT_cut (fun i => (F i).1) (fun i => (F i).2) (j / 5) (by omega)
    have e2 := (hF (j / 5) (by omega)).1
    have e3 := congrArg (·[j % 5]?) (e2.trans e1.symm)
    simp only [List.getElem?_take, List.getElem?_drop, show j % 5 < 5 by omega, if_true] at e3
    rw [show j / 5 * 5 + j % 5 = j by omega, hv] at e3
    simpa using e3
  · have h1 := World.var?_cell gSig hvar 0
    have : cs[0]? = some (cs[0]'(by simpa using (show 0 < cs.toList.length by omega))) := Array.getElem?_eq_getElem _
    rw [this] at h1
    exact World.block_lt_of_cell? W _ h1

theorem gMod : Tryz.prog.globalNamed "incognito/sign.models" = some 1 := by kernel_rfl
theorem tMod : (Tryz.prog.globals[1]?).map (·.type) = some 101 := by kernel_rfl
theorem gOps : Tryz.prog.globalNamed "incognito/sign.ops" = some 2 := by kernel_rfl
theorem tOps : (Tryz.prog.globals[2]?).map (·.type) = some 102 := by kernel_rfl
theorem gTyp : Tryz.prog.globalNamed "incognito/event.types" = some 0 := by kernel_rfl
theorem tTyp : (Tryz.prog.globals[0]?).map (·.type) = some 73 := by kernel_rfl
/-- a table of words as data -/
def dWs {H : Type} (f : Int → ByteArray) (n : Nat) : DataW H := .agg ((List.range n).map fun (i : Nat) => .lit (.string (f (i : Int)).data.toList))
theorem laid_models : (Rows.laid_incognito_sign_models : DataW Unit) = dWs mn 11 := by kernel_rfl
theorem laid_ops : (Rows.laid_incognito_sign_ops : DataW Unit) = dWs on 14 := by kernel_rfl
theorem laid_types : (Rows.laid_incognito_event_types : DataW Unit) = dWs tn 5 := by kernel_rfl
theorem ba_ext {s t : ByteArray} (h : s.data.toList = t.data.toList) : s = t := by
  cases s; cases t; simp at h; simp [h]
set_option maxRecDepth 100000 in
theorem wt_of_met {W : World} {x : String} {g n : Nat} {T : TypeId} {f : Int → ByteArray} {r : List (String × DataW Unit)}
    (h : laidMet Tryz.prog ((x, dWs f n) :: r) W) (hg : Tryz.prog.globalNamed x = some g) (ht : (Tryz.prog.globals[g]?).map (·.type) = some T)
    (hu : Tryz.prog.underlying T = some (.array n 9)) (hc : Tryz.prog.cellsOf T = n) (hn : 0 < n) : Wt W g n f := by
  obtain ⟨ps, ⟨g', t', cs, fuel, p, q, hg', ht', hvar, hd, _, _⟩, _⟩ := h
  obtain rfl := Option.some.inj (hg.symm.trans hg')
  obtain rfl := Option.some.inj (ht.symm.trans ht')
  obtain ⟨xs, m, _, hx, hl, hlen, hf⟩ := DataW.trod_array hu hd
  have c1 : Tryz.prog.cellsOf 9 = 1 := by kernel_rfl
  rw [c1] at hf
  rw [hc] at hl
  have hmap : xs.map (·.1) = (List.range n).map fun (i : Nat) => DataW.lit (.string (f (i : Int)).data.toList) := by
    have := congrArg Prod.fst hx
    simpa [dWs] using this.symm
  have each : ∀ i, i < n → cs.toList[i]? = some (.string (f (i : Int))) := by
    intro i hi
    have h1 := hf i hi
    have hx' := congrArg (·[i]?) hmap
    simp only [List.getElem?_map, List.getElem?_eq_getElem (show i < xs.length by omega), List.getElem?_range hi, Option.map_some, Option.some.injEq] at hx'
    rw [List.getElem?_eq_getElem (show i < xs.length by omega)] at h1
    obtain ⟨s, hs, hd', _⟩ := DataW.trod_string Tryz.underlying9 h1
    rw [hd'] at hx'
    simp only [DataW.lit.injEq, Lit.string.injEq] at hx'
    rw [← ba_ext hx']
    have h2 := congrArg (·[0]?) hs
    simpa [List.getElem?_take, List.getElem?_drop] using h2
  refine ⟨fun j v hv => ?_, ?_⟩
  · have hj : j < n := by have := (List.getElem?_eq_some_iff.1 hv).1; rwa [cellsW_len] at this
    rw [cellsW_at f n j hj] at hv
    injection hv with hv
    subst hv
    have h1 := World.var?_cell hg hvar j
    rw [Nat.zero_add, h1]
    simpa using each j hj
  · have h1 := World.var?_cell hg hvar 0
    have h2 := each 0 hn
    have h3 : cs[0]? = some (.string (f ((0 : Nat) : Int))) := by simpa using h2
    rw [h3] at h1
    exact World.block_lt_of_cell? W _ h1
theorem gPow : Tryz.prog.globalNamed "internal/strconv.uint64pow10" = some 5 := by kernel_rfl
theorem tPow : (Tryz.prog.globals[5]?).map (·.type) = some 149 := by kernel_rfl
theorem cellsOne : Tryz.prog.cellsOf 133 = 1 := by kernel_rfl
theorem cellsAll : Tryz.prog.cellsOf 149 = 20 := by kernel_rfl
theorem laid_pow : (Rows.laid_internal_strconv_uint64pow10 : DataW Unit) = Lib.tabData .u64 Lib.pow10Tab := rfl
set_option maxRecDepth 100000 in
theorem tbs_of_laid {W : World} (h : laidMetH Tryz.prog laid1 W) : Tbs W ∧ Pt W := by
  rw [MakeChecks.laidMetH_plain _ _ _ (by kernel_rfl)] at h
  unfold laid1 at h
  rw [laid_models, laid_ops, laid_types, laid_pow] at h
  have h0 := h.tail.tail
  have h1 := h0.tail.tail
  exact ⟨⟨tb_of_met h1.tail.tail, wt_of_met h1 gMod tMod Tryz.underlying101 (by kernel_rfl) (by omega), wt_of_met h1.tail gOps tOps Tryz.underlying102 (by kernel_rfl) (by omega), wt_of_met h1.tail.tail.tail gTyp tTyp Tryz.underlying73 (by kernel_rfl) (by omega)⟩, Lib.tabIs_of_head gPow tPow Tryz.underlying149 Tryz.underlying133 cellsOne cellsAll h0⟩
/-- a start that meets it -/
theorem all_met (os : Os) (args : Array Value) : laidMetH Tryz.prog laid1 ((World.laidAll Tryz.prog os laid1).forCall (fun _ _ => 0) ⟨#[], args, []⟩).memory := by
  rw [MakeChecks.laidMetH_plain _ _ _ (by kernel_rfl)]
  exact laidMet_laidAll _ (by kernel_rfl) (by kernel_rfl)
end Go.Proofs.YtdhlheilgagcpaaGreatDoor
