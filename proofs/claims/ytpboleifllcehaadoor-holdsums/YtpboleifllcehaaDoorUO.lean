/- A list of deeds that came in, opened: its cells, the deeds' lists in memory, numbers and sizes. No conditions. -/
import Derived.Test.YtpboleifllcehaaDoorBA
import Derived.Test.YtpboleifllcehaaDoorUA
namespace Go.Proofs.YtpboleifllcehaaDoor
open Go.ChangeShapes Go.WideShapes Go.RowKit Go.PlainAid Ln
set_option linter.unusedVariables false
set_option linter.unusedSimpArgs false

/-- its numbers are in range -/
def bdD (x : Dd) : Prop := bdV x.c ∧ (∀ i, i < x.a.length → bdV (nv x.a i))
/-- its sizes are what memory holds -/
def LgD (x : Dd) : Prop := x.c.2.2.size ≤ 140737488351232 ∧ (∀ i, i < x.a.length → (nv x.a i).2.2.size ≤ 140737488351232) ∧ x.a.length ≤ 140737488351232
set_option maxRecDepth 100000 in
set_option maxHeartbeats 4000000 in
theorem open_ddcells {H : Type} {enc : TypeId × Value → H} {W : World} {held : Bool} {fuel : Nat} {l : List Value} {y : DataW H × List MemPlace} (hl5 : l.length = 5)
    (hf : DataW.trod enc Tryd.prog W 0 (fun _ => true) held fuel 36 l = some y) (hs : ∀ n ∈ y.1.weights Tryd.prog 36, n ≤ reachBytes) :
    ∃ (x : Dd) (va : Value), l = ddC x va ∧ VSl W va x.a ∧ bdD x ∧ LgD x := by
  obtain ⟨xs, n, _, hx, hl, hlen, hf⟩ := DataW.trod_struct Tryd.underlying36 hf
  have k1 : Tryd.prog.cellsOf 3 = 1 := by kernel_rfl
  have k3 : Tryd.prog.cellsOf 25 = 3 := by kernel_rfl
  have k4 : Tryd.prog.cellsOf 26 = 1 := by kernel_rfl
  match l, hl5 with
  | [v0, v1, v2, v3, v4], _ =>
    match xs, hlen with
    | [y0, y1, y2], _ =>
      have g0 := hf 0 _ rfl
      have g1 := hf 1 _ rfl
      have g2 := hf 2 _ rfl
      simp [k1, k3, k4] at g0 g1 g2
      have hd0 : y.1 = .agg [y0.1, y1.1, y2.1] := by
        rw [hx]; rfl
      have hw : ∀ (j : Nat) (t : TypeId) (e : DataW H), ([25, 3, 26] : List TypeId)[j]? = some t → ([y0.1, y1.1, y2.1] : List (DataW H))[j]? = some e → ∀ q ∈ e.weights Tryd.prog t, q ≤ reachBytes := by
        intro j t e h1 h2 q hq
        refine hs q ?_
        rw [hd0]
        simp only [DataW.weights, Tryd.underlying36]
        exact DataW.weights_mem_each (j := j) (by simpa using h1) h2 q hq
      obtain ⟨a0, ha0, e0, b0, _⟩ := open_val rfl g0
      obtain ⟨a1, ha1, _, _⟩ := DataW.trod_int Tryd.underlying3 g1
      obtain ⟨la, s2, b2, z2, n2⟩ := vsl_ofE g2 (hw 2 _ _ rfl rfl)
      have q0 := val_weights (H := H) (x := a0) (by rw [← e0]; exact hw 0 _ _ rfl rfl)
      simp at ha0 ha1
      refine ⟨⟨a0, a1, la⟩, v4, ?_, s2, ⟨b0, b2⟩, ⟨q0, z2, n2⟩⟩
      simp [ddC, ha0, ha1]
theorem choose_dds {n : Nat} {p : Nat → YD → Prop} (h : ∀ i, i < n → ∃ x, p i x) : ∃ xs : List YD, xs.length = n ∧ ∀ i, i < n → p i (yd xs i) := by
  induction n with
  | zero => exact ⟨[], rfl, fun i hi => by omega⟩
  | succ n ih =>
    obtain ⟨xs, hl, hx⟩ := ih fun i hi => h i (by omega)
    obtain ⟨y, hy⟩ := h n (by omega)
    refine ⟨xs ++ [y], by simp [hl], fun i hi => ?_⟩
    by_cases e : i < n
    · rw [yd_left _ _ i (by omega)]; exact hx i e
    · have e : i = xs.length + 0 := by omega
      rw [e, yd_right xs [y] 0 (by simp), yd_zero]
      rw [show xs.length + 0 = n from by omega]; exact hy
set_option maxRecDepth 100000 in
theorem open_deeds {H : Type} {enc : TypeId × Value → H} {W : World} {r : Reach} {b0 : Nat} {held : Bool} {v : Value} {d : DataW H} {ps : List MemPlace}
    (hv : Value.okWide Tryd.prog W r b0 22 v) (hd : DataW.Trod enc Tryd.prog W 0 (fun _ => true) held 22 v d ps) (hs : ∀ n ∈ d.weights Tryd.prog 22, n ≤ reachBytes) :
    ∃ ys : List YD, DSl W v ys ∧ InD W ys ∧ (∀ i, i < ys.length → bdD (yd ys i).1 ∧ LgD (yd ys i).1) ∧ ys.length ≤ 140737488351232 := by
  have hce : Tryd.prog.cellsOf 36 = 5 := by kernel_rfl
  have hby : Tryd.prog.bytesOf 36 = 64 := by kernel_rfl
  obtain ⟨fuel, h⟩ := hd
  rcases Deep.open_slice Tryd.underlying22 h with ⟨hcs, _⟩ | ⟨x, len, cap, m, n, D, Pl, hcs, _, hl, hm, hmm, hx, hr⟩
  · obtain ⟨a, len, cap, rfl⟩ := okWide_slice Tryd.underlying22 hv
    simp [Value.cells] at hcs
    obtain ⟨rfl, rfl, rfl⟩ := hcs
    exact ⟨[], ⟨none, 0, rfl, by simp, by simp, .inl ⟨rfl, fun _ => rfl⟩⟩, fun i hi => absurd hi (Nat.not_lt_zero i), fun i hi => absurd hi (Nat.not_lt_zero i), Nat.zero_le _⟩
  · obtain ⟨a, len', cap', rfl⟩ := okWide_slice Tryd.underlying22 hv
    simp [Value.cells] at hcs
    obtain ⟨rfl, rfl, rfl⟩ := hcs
    unfold maxLen at hm
    have hmc : m = cap' := by simpa using hmm
    subst hmc
    have hd0 : d = .slice ((List.range len').map D) ((List.range (m - len')).map fun j => D (len' + j)) := by
      have := congrArg Prod.fst hx
      simpa using this
    have hlen : len' ≤ 140737488351232 := by
      have e := hs ((((List.range len').map D).length + ((List.range (m - len')).map fun j => D (len' + j)).length) * 64) (by rw [hd0]; simp only [DataW.weights, Tryd.underlying22, hby]; exact List.mem_cons_self)
      simp only [List.length_map, List.length_range] at e
      unfold reachBytes at e
      omega
    have each : ∀ i, i < len' → ∃ y : YD, (∀ j u, (encD y)[j]? = some u → W.cell? ((x.add (i * 5)).add j) = some u) ∧ VSl W y.2 y.1.a ∧ bdD y.1 ∧ LgD y.1 := by
      intro i hi
      obtain ⟨cs', h1, h2⟩ := hr i (by omega)
      rw [hce] at h1
      obtain ⟨_, hlen', hcell⟩ := World.cells?_some h1
      obtain ⟨z, va, e1, e2, e4, e5⟩ := open_ddcells hlen' h2 (fun q hq => by
        refine hs q ?_
        rw [hd0]
        simp only [DataW.weights, Tryd.underlying22]
        refine List.mem_cons_of_mem _ (List.mem_append_left _ (weightsAll_in (d := D i) ?_ q hq))
        exact List.mem_map.2 ⟨i, List.mem_range.2 hi, rfl⟩)
      subst e1
      refine ⟨(z, va), fun j u hj => ?_, e2, e4, e5⟩
      have hj5 : j < 5 := (List.getElem?_eq_some_iff.1 hj).1
      have := hcell j hj5
      have hj2 : (ddC z va)[j]? = some u := hj
      rw [hj2] at this
      exact this
    obtain ⟨ys, hxl, hx2⟩ := choose_dds each
    subst hxl
    refine ⟨ys, ⟨some x, m, rfl, by omega, by omega, ?_⟩, fun i hi => (hx2 i hi).2.1, fun i hi => (hx2 i hi).2.2, hlen⟩
    by_cases h0 : ys = []
    · exact .inl ⟨h0, fun h => by cases h⟩
    · have h0' : 0 < ys.length := List.length_pos_iff.2 h0
      obtain ⟨b, off, spot⟩ := x
      have hc := (hx2 0 h0').1 0 _ rfl
      have hspot : spot = none := by simpa [Addr.add] using World.cell?_spot hc
      subst hspot
      refine .inr ⟨b, off, rfl, ?_, fun i hi j u hj => ?_⟩
      · have := World.block_lt_of_cell? W _ hc
        simpa [Addr.add] using this
      · have := (hx2 i hi).1 j u hj
        rw [Addr.add_mid, Addr.add_mid] at this
        exact this
/-- a list of values that came in -/
theorem open_vals {H : Type} {enc : TypeId × Value → H} {W : World} {r : Reach} {b0 : Nat} {held : Bool} {v : Value} {d : DataW H} {ps : List MemPlace}
    (hv : Value.okWide Tryd.prog W r b0 26 v) (hd : DataW.Trod enc Tryd.prog W 0 (fun _ => true) held 26 v d ps) (hs : ∀ n ∈ d.weights Tryd.prog 26, n ≤ reachBytes) : ∃ xs : List Val, VSl W v xs ∧ xs.length ≤ 140737488351232 := by
  obtain ⟨fuel, h⟩ := hd
  obtain ⟨a, len, cap, rfl⟩ := okWide_slice Tryd.underlying26 hv
  obtain ⟨xs, h1, _, _, h2⟩ := vsl_ofE (v := .slice a len cap) (y := (d, ps)) (by simpa [Value.cells] using h) hs
  exact ⟨xs, h1, h2⟩
end Go.Proofs.YtpboleifllcehaaDoor
