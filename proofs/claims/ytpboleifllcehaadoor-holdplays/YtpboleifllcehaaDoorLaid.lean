/- That the program's tables hold the signs, out of what a row says of them; a start that meets it. No conditions. -/
import Derived.Test.YtpboleifllcehaaDoorBS
import Derived.Lay
import Derived.ProofKit
import Derived.LaidMore
import Derived.OpenShut
import Derived.Stop.Joined
import Derived.Stop.LaidErr
import Derived.Deep.Slices
import Derived.Deep.Strs
namespace Go.Proofs.YtpboleifllcehaaDoor
open Go.ChangeShapes Go.WideShapes Go.RowKit
set_option linter.unusedVariables false

theorem ownT : ownKnob Tryd.prog.godebug = none := by kernel_rfl
theorem laidOutT : laidOutB Tryd.prog = true := by kernel_rfl
theorem gSig : Tryd.prog.globalNamed "incognito/sign.signs" = some 0 := by kernel_rfl
theorem tSig : (Tryd.prog.globals[0]?).map (·.type) = some 69 := by kernel_rfl
/-- what the rows list -/
def laid1 : List (String × DataW Unit) := [("incognito/sign.signs", Rows.laid_incognito_sign_signs)]
/-- a row of numbers, and a sign, as data -/
def dSl {H : Type} : List Int → DataW H
  | [] => .nil
  | x :: xs => .slice ((x :: xs).map fun z => .lit (.int .i64 z)) []
def dRw {H : Type} (r : Rw) : DataW H := .agg [.lit (.int .i64 r.m), .lit (.int .i64 r.o), dSl r.inn, dSl r.out, .lit (.int .i64 r.c)]
theorem laid_signs : (Rows.laid_incognito_sign_signs : DataW Unit) = .agg (tab.map dRw) := rfl

theorem isl_open {H : Type} {enc : TypeId × Value → H} {W : World} {held : Bool} {fuel : Nat} {cs : List Value} {xs : List Int} {p : List MemPlace}
    (h : DataW.trod enc Tryd.prog W 0 (fun _ => true) held fuel 44 cs = some (dSl xs, p)) : ∃ v, cs = [v] ∧ ISl W v xs := by
  have hce : Tryd.prog.cellsOf 3 = 1 := by kernel_rfl
  rcases Deep.open_slice1 Tryd.underlying44 hce h with ⟨hcs, hx⟩ | ⟨x, l, c, m, n, V, D, Pl, hcs, _, hl, hm, hmm, hx, hr⟩
  · cases xs with
    | nil => exact ⟨_, hcs, ISl.nil W⟩
    | cons y ys => simp [dSl] at hx
  · cases xs with
    | nil => simp [dSl] at hx
    | cons y ys =>
      simp only [dSl, Prod.mk.injEq, DataW.slice.injEq] at hx
      obtain ⟨⟨hx, _⟩, _⟩ := hx
      unfold maxLen at hm
      have hlen : l = (y :: ys).length := by
        have := congrArg List.length hx
        simpa using this.symm
      have hmc : m = c := by simpa using hmm
      subst hlen
      refine ⟨_, hcs, some x, c, rfl, hl, by omega, .inr ?_⟩
      have each : ∀ i, i < (y :: ys).length → W.cell? (x.add i) = some (.int .i64 (nth (y :: ys) i)) := by
        intro i hi
        obtain ⟨h1, h2⟩ := hr i (by omega)
        obtain ⟨z, hz, hd, _⟩ := DataW.trod_int Tryd.underlying3 h2
        have e := congrArg (·[i]?) hx
        simp only [List.getElem?_map, List.getElem?_range hi, Option.map_some, List.getElem?_eq_getElem hi] at e
        have hd' : D i = .lit (.int .i64 z) := congrArg Prod.fst hd
        rw [hd'] at e
        simp only [Option.some.injEq, DataW.lit.injEq, Lit.int.injEq, true_and] at e
        simp only [List.cons.injEq, and_true] at hz
        rw [h1, hz, nth_eq _ i hi, e]
      obtain ⟨b, off, spot⟩ := x
      have hc := each 0 (by simp)
      have hspot : spot = none := by simpa [Addr.add] using World.cell?_spot hc
      subst hspot
      refine ⟨b, off, rfl, ?_, fun i hi => ?_⟩
      · have := World.block_lt_of_cell? W _ hc
        simpa [Addr.add] using this
      · have h1 := each i hi
        rw [Addr.add_mid] at h1
        exact h1

set_option maxRecDepth 100000 in
theorem row_open {H : Type} {enc : TypeId × Value → H} {W : World} {held : Bool} {fuel : Nat} {cs : List Value} {r : Rw} {p : List MemPlace}
    (h : DataW.trod enc Tryd.prog W 0 (fun _ => true) held fuel 60 cs = some (dRw r, p)) : ∃ vi vo, cs = rcs r vi vo ∧ ISl W vi r.inn ∧ ISl W vo r.out := by
  obtain ⟨xs, n, _, hx, hl, hlen, hf⟩ := DataW.trod_struct Tryd.underlying60 h
  have c0 : Tryd.prog.cellsOf 3 = 1 := by kernel_rfl
  have c1 : Tryd.prog.cellsOf 44 = 1 := by kernel_rfl
  have c5 : Tryd.prog.cellsOf 60 = 5 := by kernel_rfl
  rw [c5] at hl
  match cs, hl with
  | [v0, v1, v2, v3, v4], _ =>
    match xs, hlen with
    | [y0, y1, y2, y3, y4], _ =>
      have g0 := hf 0 _ rfl
      have g1 := hf 1 _ rfl
      have g2 := hf 2 _ rfl
      have g3 := hf 3 _ rfl
      have g4 := hf 4 _ rfl
      simp [c0, c1] at g0 g1 g2 g3 g4
      simp only [dRw, Prod.mk.injEq, DataW.agg.injEq, List.map_cons, List.map_nil, List.cons.injEq, and_true] at hx
      obtain ⟨⟨e0, e1, e2, e3, e4⟩, _⟩ := hx
      obtain ⟨z0, hz0, hd0, _⟩ := DataW.trod_int Tryd.underlying3 g0
      obtain ⟨z1, hz1, hd1, _⟩ := DataW.trod_int Tryd.underlying3 g1
      obtain ⟨z4, hz4, hd4, _⟩ := DataW.trod_int Tryd.underlying3 g4
      obtain ⟨y20, y21⟩ := y2
      obtain ⟨y30, y31⟩ := y3
      simp only at e2 e3
      subst e2 e3
      obtain ⟨vi, hvi, hi⟩ := isl_open g2
      obtain ⟨vo, hvo, ho⟩ := isl_open g3
      rw [hd0] at e0
      rw [hd1] at e1
      rw [hd4] at e4
      simp at hz0 hz1 hz4 hvi hvo e0 e1 e4
      refine ⟨vi, vo, ?_, hi, ho⟩
      unfold rcs
      rw [hz0, hz1, hz4, hvi, hvo, e0, e1, e4]

set_option maxRecDepth 100000 in
theorem tb_of_met {W : World} {r : List (String × DataW Unit)} (h : laidMet Tryd.prog (("incognito/sign.signs", Rows.laid_incognito_sign_signs) :: r) W) : Tb W := by
  obtain ⟨ps, ⟨g, t, cs, fuel, p, q, hg, ht, hvar, hd, _, _⟩, _⟩ := h
  obtain rfl := Option.some.inj (gSig.symm.trans hg)
  obtain rfl := Option.some.inj (tSig.symm.trans ht)
  rw [laid_signs] at hd
  obtain ⟨xs, n, _, hx, hl, hlen, hf⟩ := DataW.trod_array Tryd.underlying69 hd
  have c5 : Tryd.prog.cellsOf 60 = 5 := by kernel_rfl
  have c24 : Tryd.prog.cellsOf 69 = 120 := by kernel_rfl
  rw [c5] at hf
  rw [c24] at hl
  have hmap : xs.map (·.1) = tab.map dRw := by
    have := congrArg Prod.fst hx
    simpa using this.symm
  have each : ∀ i, i < 24 → ∃ vv : Value × Value, (cs.toList.drop (i * 5)).take 5 = rcs (rwA i) vv.1 vv.2 ∧ ISl W vv.1 (rwA i).inn ∧ ISl W vv.2 (rwA i).out := by
    intro i hi
    have h1 := hf i hi
    have hx' := congrArg (·[i]?) hmap
    simp only [List.getElem?_map, List.getElem?_eq_getElem (show i < xs.length by omega), List.getElem?_eq_getElem (show i < tab.length by rw [tab_len]; omega), Option.map_some, Option.some.injEq] at hx'
    rw [rwA_get i hi] at hx'
    rw [List.getElem?_eq_getElem (show i < xs.length by omega)] at h1
    generalize xs[i] = y at h1 hx'
    obtain ⟨y0, y1⟩ := y
    simp only at hx'
    subst hx'
    obtain ⟨vi, vo, a, b, c⟩ := row_open h1
    exact ⟨(vi, vo), a, b, c⟩
  obtain ⟨F, hF⟩ : ∃ F : Nat → Value × Value, ∀ i, i < 24 → (cs.toList.drop (i * 5)).take 5 = rcs (rwA i) (F i).1 (F i).2 ∧ ISl W (F i).1 (rwA i).inn ∧ ISl W (F i).2 (rwA i).out :=
    ⟨fun i => if h : i < 24 then (each i h).choose else (undef, undef), fun i hi => by simp only [dif_pos hi]; exact (each i hi).choose_spec⟩
  refine ⟨fun i => (F i).1, fun i => (F i).2, ?_, ?_, fun i hi => (hF i hi).2⟩
  · intro j v hv
    have hj : j < 120 := by
      have := (List.getElem?_eq_some_iff.1 hv).1
      rw [cellsT_len] at this; exact this
    have h1 := World.var?_cell gSig hvar j
    rw [Nat.zero_add, h1]
    have e1 := cellsT_cut (fun i => (F i).1) (fun i => (F i).2) (j / 5) (by omega)
    have e2 := (hF (j / 5) (by omega)).1
    have e3 := congrArg (·[j % 5]?) (e2.trans e1.symm)
    simp only [List.getElem?_take, List.getElem?_drop, show j % 5 < 5 by omega, if_true] at e3
    rw [show j / 5 * 5 + j % 5 = j by omega, hv] at e3
    simpa using e3
  · have h1 := World.var?_cell gSig hvar 0
    have : cs[0]? = some (cs[0]'(by simpa using (show 0 < cs.toList.length by omega))) := Array.getElem?_eq_getElem _
    rw [this] at h1
    exact World.block_lt_of_cell? W _ h1

theorem tb_of_laid {W : World} (h : laidMetH Tryd.prog laid1 W) : Tb W := by
  rw [MakeChecks.laidMetH_plain _ _ _ (by kernel_rfl)] at h
  exact tb_of_met h
/-- a start that meets it -/
theorem all_met (os : Os) (args : Array Value) : laidMetH Tryd.prog laid1 ((World.laidAll Tryd.prog os laid1).forCall (fun _ _ => 0) ⟨#[], args, []⟩).memory := by
  rw [MakeChecks.laidMetH_plain _ _ _ (by kernel_rfl)]
  exact laidMet_laidAll _ (by kernel_rfl) (by kernel_rfl)
end Go.Proofs.YtpboleifllcehaaDoor
