/- The walk of SignWords; the three tables out of what its row says of them. Conditions: the tables lie in memory. -/
import Derived.Test.YtoefcbhcceikoaaDoorSP
namespace Go.Proofs.YtoefcbhcceikoaaDoor
open Go.RowKit Go.PlainAid
set_option linter.unusedVariables false
set_option linter.unusedSimpArgs false

set_option maxHeartbeats 4000000 in
theorem law_words (s : ByteArray) (n : Int) (w : World) (ht : Tb w) (hm : Wt w 0 11 mn) (ho : Wt w 1 14 on) :
    Calls Tryd.prog 3 #[.string s, .int .i64 n] w fun e w' => e = .returned (.bool true) ∧ Below w.heap.size w w' := by
  have HT : Hid (Tb w) := ht
  have HM : Hid (Wt w 0 11 mn) := hm
  have HO : Hid (Wt w 1 14 on) := ho
  clear ht hm ho
  by_cases hs : 100 < s.size
  · have hs' : (100 : Int) < (s.size : Int) := by omega
    go_enter Tryd.func3, Tryd.ntmps3
    go_wp2_with fail
    refine (wakes_any _ HT.out).mono ?_
    rintro e w1 ⟨rfl, hb1⟩
    go_wp2
    go_ret
    exact ⟨rfl, hb1⟩
  have hs' : ¬ (100 : Int) < (s.size : Int) := by omega
  go_enter Tryd.func3, Tryd.ntmps3
  go_wp2_with fail
  refine (wakes_any _ HT.out).mono ?_
  rintro e w1 ⟨rfl, hb1⟩
  go_wp2_with fail
  refine (model_any s _ (HM.out.later hb1)).mono ?_
  rintro e w2 ⟨a, rfl, ha, hal, hb2⟩
  have h12 := below_next hb1 hb2
  have HA : Hid (IsW mn 11 s a) := ha
  clear hb1 hb2 ha
  go_wp2_with fail
  refine (op_any s _ (HO.out.later h12)).mono ?_
  rintro e w3 ⟨b, rfl, hb, hbl, hb3⟩
  have h13 := below_next h12 hb3
  have HB : Hid (IsW on 14 s b) := hb
  clear h12 hb3 hb
  go_wp2_with fail
  refine (rmodel_any s _).mono ?_
  rintro e w4 ⟨a', rfl, ha, _, hb4⟩
  obtain rfl := isW_one apart_m HA.out ha
  have h14 := below_next h13 hb4
  clear h13 hb4 ha
  go_wp2_with fail
  refine (rop_any s _).mono ?_
  rintro e w5 ⟨b', rfl, hb, _, hb5⟩
  obtain rfl := isW_one apart_o HB.out hb
  have h15 := below_next h14 hb5
  clear h14 hb5 hb
  go_wp2_with fail
  refine (modelName_any n _ (HM.out.later h15)).mono ?_
  rintro e w6 ⟨rfl, hb6⟩
  have h16 := below_next h15 hb6
  clear h15 hb6
  go_wp2_with fail
  refine (rmodelName_any n _).mono ?_
  rintro e w7 ⟨rfl, hb7⟩
  have h17 := below_next h16 hb7
  clear h16 hb7
  go_wp2_with fail
  refine (opName_any n _ (HO.out.later h17)).mono ?_
  rintro e w8 ⟨rfl, hb8⟩
  have h18 := below_next h17 hb8
  clear h17 hb8
  go_wp2_with fail
  refine (ropName_any n _).mono ?_
  rintro e w9 ⟨rfl, hb9⟩
  go_wp2
  go_ret
  exact ⟨rfl, below_next h18 hb9⟩

theorem gMod : Tryd.prog.globalNamed "incognito/sign.models" = some 0 := by kernel_rfl
theorem tMod : (Tryd.prog.globals[0]?).map (·.type) = some 47 := by kernel_rfl
theorem gOps : Tryd.prog.globalNamed "incognito/sign.ops" = some 1 := by kernel_rfl
theorem tOps : (Tryd.prog.globals[1]?).map (·.type) = some 48 := by kernel_rfl
/-- a table of words as data -/
def dWs {H : Type} (f : Int → ByteArray) (n : Nat) : DataW H := .agg ((List.range n).map fun (i : Nat) => .lit (.string (f (i : Int)).data.toList))
theorem laid_models : (Rows.laid_incognito_sign_models : DataW Unit) = dWs mn 11 := by kernel_rfl
theorem laid_ops : (Rows.laid_incognito_sign_ops : DataW Unit) = dWs on 14 := by kernel_rfl
theorem ba_ext {s t : ByteArray} (h : s.data.toList = t.data.toList) : s = t := by
  cases s; cases t; simp at h; simp [h]
theorem wt_of_met {W : World} {x : String} {g n : Nat} {T : TypeId} {f : Int → ByteArray} {r : List (String × DataW Unit)}
    (h : laidMet Tryd.prog ((x, dWs f n) :: r) W) (hg : Tryd.prog.globalNamed x = some g) (ht : (Tryd.prog.globals[g]?).map (·.type) = some T)
    (hu : Tryd.prog.underlying T = some (.array n 9)) (hc : Tryd.prog.cellsOf T = n) (hn : 0 < n) : Wt W g n f := by
  obtain ⟨ps, ⟨g', t', cs, fuel, p, q, hg', ht', hvar, hd, _, _⟩, _⟩ := h
  obtain rfl := Option.some.inj (hg.symm.trans hg')
  obtain rfl := Option.some.inj (ht.symm.trans ht')
  obtain ⟨xs, m, _, hx, hl, hlen, hf⟩ := DataW.trod_array hu hd
  have c1 : Tryd.prog.cellsOf 9 = 1 := by kernel_rfl
  rw [c1] at hf
  rw [hc] at hl
  have hmap : xs.map (·.1) = (List.range n).map fun (i : Nat) => DataW.lit (.string (f (i : Int)).data.toList) := by
    have := congrArg Prod.fst hx
    simpa [dWs] using this.symm
  have each : ∀ i, i < n → cs.toList[i]? = some (.string (f (i : Int))) := by
    intro i hi
    have h1 := hf i hi
    have hx' := congrArg (·[i]?) hmap
    simp only [List.getElem?_map, List.getElem?_eq_getElem (show i < xs.length by omega), List.getElem?_range hi, Option.map_some, Option.some.injEq] at hx'
    rw [List.getElem?_eq_getElem (show i < xs.length by omega)] at h1
    obtain ⟨s, hs, hd', _⟩ := DataW.trod_string Tryd.underlying9 h1
    rw [hd'] at hx'
    simp only [DataW.lit.injEq, Lit.string.injEq] at hx'
    rw [← ba_ext hx']
    have h2 := congrArg (·[0]?) hs
    simpa [List.getElem?_take, List.getElem?_drop] using h2
  refine ⟨fun j v hv => ?_, ?_⟩
  · have hj : j < n := by have := (List.getElem?_eq_some_iff.1 hv).1; rwa [cellsW_len] at this
    rw [cellsW_at f n j hj] at hv
    injection hv with hv
    subst hv
    have h1 := World.var?_cell hg hvar j
    rw [Nat.zero_add, h1]
    simpa using each j hj
  · have h1 := World.var?_cell hg hvar 0
    have h2 := each 0 hn
    have h3 : cs[0]? = some (.string (f ((0 : Nat) : Int))) := by simpa using h2
    rw [h3] at h1
    exact World.block_lt_of_cell? W _ h1
theorem three_of_laid {W : World} (h : laidMetH Tryd.prog laid3 W) : Tb W ∧ Wt W 0 11 mn ∧ Wt W 1 14 on := by
  rw [MakeChecks.laidMetH_plain _ _ _ (by kernel_rfl)] at h
  unfold laid3 at h
  rw [laid_models, laid_ops] at h
  refine ⟨tb_of_laid ?_, wt_of_met h gMod tMod Tryd.underlying47 (by kernel_rfl) (by omega), wt_of_met h.tail gOps tOps Tryd.underlying48 (by kernel_rfl) (by omega)⟩
  rw [MakeChecks.laidMetH_plain _ _ _ (by kernel_rfl)]
  exact h.tail.tail
/-- the door's own heap meets it -/
theorem door_met3 (os : Os) (args : Array Value) : laidMetH Tryd.prog laid3 ((World.doorLaid Tryd.prog 68 os).forCall (fun _ _ => 0) ⟨#[], args, []⟩).memory :=
  laidMetH_of_parts3 (fuel := 8) (laidMet_of_run' 8 (by kernel_rfl) (by kernel_rfl)) (by kernel_rfl) (by kernel_rfl)
end Go.Proofs.YtoefcbhcceikoaaDoor
