/- A list of events that came in, opened: its cells, the events' lists in memory, numbers and sizes. No conditions. -/
import Derived.Test.YtgdegbmakbfaaaaDoorOE
import Derived.Test.YtgdegbmakbfaaaaDoorBH
namespace Go.Proofs.YtgdegbmakbfaaaaDoor
open Go.ChangeShapes Go.WideShapes Go.RowKit Go.PlainAid Ln
set_option linter.unusedVariables false
set_option linter.unusedSimpArgs false

set_option maxRecDepth 100000 in
set_option maxHeartbeats 4000000 in
theorem open_evcells {H : Type} {enc : TypeId × Value → H} {W : World} {held : Bool} {fuel : Nat} {l : List Value} {y : DataW H × List MemPlace} (hl14 : l.length = 14)
    (hf : DataW.trod enc Tryd.prog W 0 (fun _ => true) held fuel 47 l = some y) (hs : ∀ n ∈ y.1.weights Tryd.prog 47, n ≤ reachBytes) :
    ∃ (x : Ev) (va vr : Value), l = evC x va vr ∧ VSl W va x.a ∧ VSl W vr x.r ∧ bdE x ∧ LgE x ∧ (Lit.int .i64 x.c.1).wf = true := by
  obtain ⟨xs, n, _, hx, hl, hlen, hf⟩ := DataW.trod_struct Tryd.underlying47 hf
  have k1 : Tryd.prog.cellsOf 3 = 1 := by kernel_rfl
  have k2 : Tryd.prog.cellsOf 2 = 1 := by kernel_rfl
  have k3 : Tryd.prog.cellsOf 38 = 3 := by kernel_rfl
  have k4 : Tryd.prog.cellsOf 39 = 1 := by kernel_rfl
  have k5 : Tryd.prog.cellsOf 4 = 1 := by kernel_rfl
  have k6 : Tryd.prog.cellsOf 9 = 1 := by kernel_rfl
  match l, hl14 with
  | [v0, v1, v2, v3, v4, v5, v6, v7, v8, v9, v10, v11, v12, v13], _ =>
    match xs, hlen with
    | [y0, y1, y2, y3, y4, y5, y6, y7, y8, y9], _ =>
      have g0 := hf 0 _ rfl
      have g1 := hf 1 _ rfl
      have g2 := hf 2 _ rfl
      have g3 := hf 3 _ rfl
      have g4 := hf 4 _ rfl
      have g5 := hf 5 _ rfl
      have g6 := hf 6 _ rfl
      have g7 := hf 7 _ rfl
      have g8 := hf 8 _ rfl
      have g9 := hf 9 _ rfl
      simp [k1, k2, k3, k4, k5, k6] at g0 g1 g2 g3 g4 g5 g6 g7 g8 g9
      have hd0 : y.1 = .agg [y0.1, y1.1, y2.1, y3.1, y4.1, y5.1, y6.1, y7.1, y8.1, y9.1] := by
        rw [hx]; rfl
      have hw : ∀ (j : Nat) (t : TypeId) (e : DataW H), ([2, 38, 3, 3, 38, 3, 39, 39, 4, 9] : List TypeId)[j]? = some t → ([y0.1, y1.1, y2.1, y3.1, y4.1, y5.1, y6.1, y7.1, y8.1, y9.1] : List (DataW H))[j]? = some e → ∀ q ∈ e.weights Tryd.prog t, q ≤ reachBytes := by
        intro j t e h1 h2 q hq
        refine hs q ?_
        rw [hd0]
        simp only [DataW.weights, Tryd.underlying47]
        exact DataW.weights_mem_each (j := j) (by simpa using h1) h2 q hq
      obtain ⟨a0, ha0, _, w0⟩ := DataW.trod_int Tryd.underlying2 g0
      obtain ⟨a1, ha1, e1, b1, wk⟩ := open_val rfl g1
      obtain ⟨a2, ha2, _, _⟩ := DataW.trod_int Tryd.underlying3 g2
      obtain ⟨a3, ha3, _, _⟩ := DataW.trod_int Tryd.underlying3 g3
      obtain ⟨a4, ha4, e4, b4, _⟩ := open_val rfl g4
      obtain ⟨a5, ha5, _, _⟩ := DataW.trod_int Tryd.underlying3 g5
      obtain ⟨la, s6, b6, z6, n6⟩ := vsl_ofE g6 (hw 6 _ _ rfl rfl)
      obtain ⟨lr, s7, b7, z7, n7⟩ := vsl_ofE g7 (hw 7 _ _ rfl rfl)
      obtain ⟨a8, ha8, _⟩ := DataW.trod_bool Tryd.underlying4 g8
      obtain ⟨a9, ha9, e9, _⟩ := DataW.trod_string Tryd.underlying9 g9
      have q1 := val_weights (H := H) (x := a1) (by rw [← e1]; exact hw 1 _ _ rfl rfl)
      have q4 := val_weights (H := H) (x := a4) (by rw [← e4]; exact hw 4 _ _ rfl rfl)
      have q9 : a9.size ≤ 140737488351232 := by
        have e := hw 9 _ _ rfl rfl a9.data.toList.length (by rw [e9]; simp [DataW.weights])
        have : a9.data.toList.length = a9.size := tx_len a9
        unfold reachBytes at e
        omega
      have hb := bounds_i64 w0
      simp at ha0 ha1 ha2 ha3 ha4 ha5 ha8 ha9
      refine ⟨⟨a0, a1, a2, a3, a4, a5, la, lr, a8, a9⟩, v10, v11, ?_, s6, s7, ⟨hb.2, b1, b4, b6, b7⟩, ⟨q1, q4, q9, z6, z7, n6, n7⟩, wk⟩
      simp [evC, ha0, ha1, ha2, ha3, ha4, ha5, ha8, ha9]
theorem choose_evs {n : Nat} {p : Nat → YE → Prop} (h : ∀ i, i < n → ∃ x, p i x) : ∃ xs : List YE, xs.length = n ∧ ∀ i, i < n → p i (ye xs i) := by
  induction n with
  | zero => exact ⟨[], rfl, fun i hi => by omega⟩
  | succ n ih =>
    obtain ⟨xs, hl, hx⟩ := ih fun i hi => h i (by omega)
    obtain ⟨y, hy⟩ := h n (by omega)
    refine ⟨xs ++ [y], by simp [hl], fun i hi => ?_⟩
    by_cases e : i < n
    · rw [ye_left _ _ i (by omega)]; exact hx i e
    · have e : i = xs.length + 0 := by omega
      rw [e, ye_right xs [y] 0 (by simp), ye_zero]
      rw [show xs.length + 0 = n from by omega]; exact hy
set_option maxRecDepth 100000 in
theorem open_evs {H : Type} {enc : TypeId × Value → H} {W : World} {r : Reach} {b0 : Nat} {held : Bool} {v : Value} {d : DataW H} {ps : List MemPlace}
    (hv : Value.okWide Tryd.prog W r b0 22 v) (hd : DataW.Trod enc Tryd.prog W 0 (fun _ => true) held 22 v d ps) (hs : ∀ n ∈ d.weights Tryd.prog 22, n ≤ reachBytes) :
    ∃ ys : List YE, YSl W v ys ∧ InL W ys ∧ (∀ i, i < ys.length → bdE (ye ys i).1 ∧ LgE (ye ys i).1 ∧ (Lit.int .i64 (ye ys i).1.c.1).wf = true) ∧ ys.length ≤ 140737488351232 := by
  have hce : Tryd.prog.cellsOf 47 = 14 := by kernel_rfl
  have hby : Tryd.prog.bytesOf 47 = 168 := by kernel_rfl
  obtain ⟨fuel, h⟩ := hd
  rcases Deep.open_slice Tryd.underlying22 h with ⟨hcs, _⟩ | ⟨x, len, cap, m, n, D, Pl, hcs, _, hl, hm, hmm, hx, hr⟩
  · obtain ⟨a, len, cap, rfl⟩ := okWide_slice Tryd.underlying22 hv
    simp [Value.cells] at hcs
    obtain ⟨rfl, rfl, rfl⟩ := hcs
    exact ⟨[], ⟨none, 0, rfl, by simp, by simp, .inl ⟨rfl, fun _ => rfl⟩⟩, fun i hi => absurd hi (Nat.not_lt_zero i), fun i hi => absurd hi (Nat.not_lt_zero i), Nat.zero_le _⟩
  · obtain ⟨a, len', cap', rfl⟩ := okWide_slice Tryd.underlying22 hv
    simp [Value.cells] at hcs
    obtain ⟨rfl, rfl, rfl⟩ := hcs
    unfold maxLen at hm
    have hmc : m = cap' := by simpa using hmm
    subst hmc
    have hd0 : d = .slice ((List.range len').map D) ((List.range (m - len')).map fun j => D (len' + j)) := by
      have := congrArg Prod.fst hx
      simpa using this
    have hlen : len' ≤ 140737488351232 := by
      have e := hs ((((List.range len').map D).length + ((List.range (m - len')).map fun j => D (len' + j)).length) * 168) (by rw [hd0]; simp only [DataW.weights, Tryd.underlying22, hby]; exact List.mem_cons_self)
      simp only [List.length_map, List.length_range] at e
      unfold reachBytes at e
      omega
    have each : ∀ i, i < len' → ∃ y : YE, (∀ j u, (encE y)[j]? = some u → W.cell? ((x.add (i * 14)).add j) = some u) ∧ VSl W y.2.1 y.1.a ∧ VSl W y.2.2 y.1.r ∧ bdE y.1 ∧ LgE y.1 ∧ (Lit.int .i64 y.1.c.1).wf = true := by
      intro i hi
      obtain ⟨cs', h1, h2⟩ := hr i (by omega)
      rw [hce] at h1
      obtain ⟨_, hlen', hcell⟩ := World.cells?_some h1
      obtain ⟨z, va, vr, e1, e2, e3, e4, e5⟩ := open_evcells hlen' h2 (fun q hq => by
        refine hs q ?_
        rw [hd0]
        simp only [DataW.weights, Tryd.underlying22]
        refine List.mem_cons_of_mem _ (List.mem_append_left _ (weightsAll_in (d := D i) ?_ q hq))
        exact List.mem_map.2 ⟨i, List.mem_range.2 hi, rfl⟩)
      subst e1
      refine ⟨(z, va, vr), fun j u hj => ?_, e2, e3, e4, e5⟩
      have hj14 : j < 14 := (List.getElem?_eq_some_iff.1 hj).1
      have := hcell j hj14
      have hj2 : (evC z va vr)[j]? = some u := hj
      rw [hj2] at this
      exact this
    obtain ⟨ys, hxl, hx2⟩ := choose_evs each
    subst hxl
    refine ⟨ys, ⟨some x, m, rfl, by omega, by omega, ?_⟩, fun i hi => ⟨(hx2 i hi).2.1, (hx2 i hi).2.2.1⟩, fun i hi => (hx2 i hi).2.2.2, hlen⟩
    by_cases h0 : ys = []
    · exact .inl ⟨h0, fun h => by cases h⟩
    · have h0' : 0 < ys.length := List.length_pos_iff.2 h0
      obtain ⟨b, off, spot⟩ := x
      have hc := (hx2 0 h0').1 0 _ rfl
      have hspot : spot = none := by simpa [Addr.add] using World.cell?_spot hc
      subst hspot
      refine .inr ⟨b, off, rfl, ?_, fun i hi j u hj => ?_⟩
      · have := World.block_lt_of_cell? W _ hc
        simpa [Addr.add] using this
      · have := (hx2 i hi).1 j u hj
        rw [Addr.add_mid, Addr.add_mid] at this
        exact this
set_option maxRecDepth 100000 in
theorem open_events {H : Type} {enc : TypeId × Value → H} {W : World} {r : Reach} {b0 : Nat} {held : Bool} {v : Value} {d : DataW H} {ps : List MemPlace}
    (hv : Value.okWide Tryd.prog W r b0 22 v) (hd : DataW.Trod enc Tryd.prog W 0 (fun _ => true) held 22 v d ps) (hs : ∀ n ∈ d.weights Tryd.prog 22, n ≤ reachBytes) :
    ∃ ys : List YE, YSl W v ys ∧ InL W ys ∧ (∀ i, i < ys.length → bdE (ye ys i).1 ∧ LgE (ye ys i).1) ∧ ys.length ≤ 140737488351232 := by
  obtain ⟨ys, h1, h2, h3, h4⟩ := open_evs hv hd hs
  exact ⟨ys, h1, h2, fun i hi => ⟨(h3 i hi).1, (h3 i hi).2.1⟩, h4⟩
end Go.Proofs.YtgdegbmakbfaaaaDoor
