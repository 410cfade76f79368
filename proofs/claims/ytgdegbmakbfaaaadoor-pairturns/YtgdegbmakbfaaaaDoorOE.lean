/- An event that came in, opened: its cells, its lists in memory, its numbers and sizes. No conditions. -/
import Derived.Test.YtgdegbmakbfaaaaDoorRG
import Derived.Lib.SmallJoins
import Derived.Deep.Slices
import Derived.Deep.Strs
import Derived.Deep.MidRow
import Derived.ProofKit
import Derived.OpenShut
import Derived.SizedLaws
namespace Go.Proofs.YtgdegbmakbfaaaaDoor
open Go.ChangeShapes Go.WideShapes Go.RowKit Go.PlainAid Ln
set_option linter.unusedVariables false
set_option linter.unusedSimpArgs false

theorem choose_vals {n : Nat} {p : Nat → Val → Prop} (h : ∀ i, i < n → ∃ x, p i x) : ∃ xs : List Val, xs.length = n ∧ ∀ i, i < n → p i (nv xs i) := by
  induction n with
  | zero => exact ⟨[], rfl, fun i hi => by omega⟩
  | succ n ih =>
    obtain ⟨xs, hl, hx⟩ := ih fun i hi => h i (by omega)
    obtain ⟨y, hy⟩ := h n (by omega)
    refine ⟨xs ++ [y], by simp [hl], fun i hi => ?_⟩
    by_cases e : i < n
    · have : nv (xs ++ [y]) i = nv xs i := by
        rw [nv_eq _ i (by simp; omega), nv_eq _ i (by omega), List.getElem_append_left (by omega)]
      rw [this]; exact hx i e
    · have e : i = n := by omega
      subst e
      have : nv (xs ++ [y]) i = y := by
        rw [nv_eq _ i (by simp; omega), List.getElem_append_right (by omega)]; simp [hl]
      rw [this]; exact hy

/-- a value as data -/
def dVal {H : Type} (x : Val) : DataW H := .agg [.lit (.int .i64 x.1), .lit (.int .i64 x.2.1), .lit (.string x.2.2.data.toList)]
set_option maxRecDepth 100000 in
theorem open_val {H : Type} {enc : TypeId × Value → H} {W : World} {held : Bool} {fuel : Nat} {cs : List Value} {y : DataW H × List MemPlace} (hl : cs.length = 3)
    (h : DataW.trod enc Tryd.prog W 0 (fun _ => true) held fuel 38 cs = some y) : ∃ x : Val, cs = [.int .i64 x.1, .int .i64 x.2.1, .string x.2.2] ∧ y.1 = dVal x ∧ bdV x ∧ (Lit.int .i64 x.1).wf = true := by
  obtain ⟨y0, y1, y2, k, hx, _, g0, g1, g2⟩ := Deep.trod_struct3 Tryd.underlying38 h
  match cs, hl with
  | [v0, v1, v2], _ =>
    have c0 : Tryd.prog.cellsOf 3 = 1 := by kernel_rfl
    have c1 : Tryd.prog.cellsOf 2 = 1 := by kernel_rfl
    have c2 : Tryd.prog.cellsOf 9 = 1 := by kernel_rfl
    simp [c0, c1, c2] at g0 g1 g2
    obtain ⟨a, ha, da, wa⟩ := DataW.trod_int Tryd.underlying3 g0
    obtain ⟨n, hn, dn, wn⟩ := DataW.trod_int Tryd.underlying2 g1
    obtain ⟨s, hs, ds, _⟩ := DataW.trod_string Tryd.underlying9 g2
    simp at ha hn hs
    subst ha hn hs
    have hb := bounds_i64 wn
    refine ⟨(a, n, s), rfl, ?_, ?_⟩
    · rw [hx, da, dn, ds]; rfl
    · exact ⟨⟨hb.1, hb.2⟩, wa⟩
set_option maxRecDepth 100000 in
theorem val_weights {H : Type} {x : Val} (h : ∀ n ∈ (dVal x : DataW H).weights Tryd.prog 38, n ≤ reachBytes) : x.2.2.size ≤ 140737488351232 := by
  have e := h x.2.2.data.toList.length (by simp [dVal, DataW.weights, DataW.weightsEach, Tryd.underlying38])
  have : x.2.2.data.toList.length = x.2.2.size := tx_len x.2.2
  unfold reachBytes at e
  omega
theorem weightsAll_in {H : Type} {P : Program} {e : TypeId} : ∀ {l : List (DataW H)} {d : DataW H}, d ∈ l → ∀ n ∈ d.weights P e, n ∈ DataW.weightsAll P e l
  | d0 :: l, d, hd, n, hn => by
    simp only [DataW.weightsAll, List.mem_append]
    rcases List.mem_cons.1 hd with rfl | hd
    · exact .inl hn
    · exact .inr (weightsAll_in hd n hn)
set_option maxRecDepth 100000 in
theorem vsl_ofE {H : Type} {enc : TypeId × Value → H} {W : World} {held : Bool} {fuel : Nat} {v : Value} {y : DataW H × List MemPlace}
    (h : DataW.trod enc Tryd.prog W 0 (fun _ => true) held fuel 39 [v] = some y) (hs : ∀ n ∈ y.1.weights Tryd.prog 39, n ≤ reachBytes) :
    ∃ xs, VSl W v xs ∧ (∀ i, i < xs.length → bdV (nv xs i)) ∧ (∀ i, i < xs.length → (nv xs i).2.2.size ≤ 140737488351232) ∧ xs.length ≤ 140737488351232 := by
  have hce : Tryd.prog.cellsOf 38 = 3 := by kernel_rfl
  have hby : Tryd.prog.bytesOf 38 = 32 := by kernel_rfl
  rcases Deep.open_slice Tryd.underlying39 h with ⟨hcs, _⟩ | ⟨x, len, cap, m, n, D, Pl, hcs, _, hl, hm, hmm, hx, hr⟩
  · simp at hcs
    subst hcs
    exact ⟨[], ⟨none, 0, rfl, by simp, by simp, .inl ⟨rfl, fun _ => rfl⟩⟩, fun i hi => absurd hi (Nat.not_lt_zero i), fun i hi => absurd hi (Nat.not_lt_zero i), Nat.zero_le _⟩
  · simp at hcs
    subst hcs
    unfold maxLen at hm
    have hmc : m = cap := by simpa using hmm
    subst hmc
    have hlen : len ≤ 140737488351232 := by
      have e := hs ((((List.range len).map D).length + ((List.range (m - len)).map fun j => D (len + j)).length) * 32) (by rw [hx]; simp only [DataW.weights, Tryd.underlying39, hby]; exact List.mem_cons_self)
      simp only [List.length_map, List.length_range] at e
      unfold reachBytes at e
      omega
    have each : ∀ i, i < len → ∃ y : Val, W.cell? (x.add (i * 3)) = some (.int .i64 y.1) ∧ W.cell? (x.add (i * 3 + 1)) = some (.int .i64 y.2.1) ∧ W.cell? (x.add (i * 3 + 2)) = some (.string y.2.2) ∧ bdV y ∧ y.2.2.size ≤ 140737488351232 := by
      intro i hi
      obtain ⟨cs', h1, h2⟩ := hr i (by omega)
      rw [hce] at h1
      obtain ⟨_, hlen', hcell⟩ := World.cells?_some h1
      obtain ⟨z, e1, e2, e3, _⟩ := open_val hlen' h2
      subst e1
      have e4 : D i = dVal z := e2
      have e5 : z.2.2.size ≤ 140737488351232 := by
        refine val_weights (H := H) fun q hq => hs q ?_
        rw [hx]
        simp only [DataW.weights, Tryd.underlying39]
        refine List.mem_cons_of_mem _ (List.mem_append_left _ (weightsAll_in (d := D i) ?_ q (by rw [e4]; exact hq)))
        exact List.mem_map.2 ⟨i, List.mem_range.2 hi, rfl⟩
      have c0 := hcell 0 (by omega)
      have c1 := hcell 1 (by omega)
      have c2 := hcell 2 (by omega)
      rw [Deep.add_add] at c0 c1 c2
      exact ⟨z, by simpa using c0, by simpa using c1, by simpa using c2, e3, e5⟩
    obtain ⟨xs, hxl, hx2⟩ := choose_vals each
    subst hxl
    refine ⟨xs, ⟨some x, m, rfl, by omega, by omega, ?_⟩, fun i hi => (hx2 i hi).2.2.2.1, fun i hi => (hx2 i hi).2.2.2.2, hlen⟩
    by_cases h0 : xs = []
    · exact .inl ⟨h0, fun h => by cases h⟩
    · have h0' : 0 < xs.length := List.length_pos_iff.2 h0
      obtain ⟨b, off, spot⟩ := x
      have hc := (hx2 0 h0').1
      have hspot : spot = none := by simpa [Addr.add] using World.cell?_spot hc
      subst hspot
      refine .inr ⟨b, off, rfl, ?_, fun i hi => ?_⟩
      · have := World.block_lt_of_cell? W _ hc
        simpa [Addr.add] using this
      · obtain ⟨h1, h2, h3, _⟩ := hx2 i hi
        rw [Addr.add_mid] at h1 h2 h3
        exact ⟨h1, by rw [Nat.add_assoc]; exact h2, by rw [Nat.add_assoc]; exact h3⟩
set_option maxRecDepth 100000 in
set_option maxHeartbeats 4000000 in
theorem open_event {H : Type} {enc : TypeId × Value → H} {W : World} {r : Reach} {b0 : Nat} {held : Bool} {v : Value} {d : DataW H} {ps : List MemPlace}
    (hv : Value.okWide Tryd.prog W r b0 47 v) (hd : DataW.Trod enc Tryd.prog W 0 (fun _ => true) held 47 v d ps) (hs : ∀ n ∈ d.weights Tryd.prog 47, n ≤ reachBytes) :
    ∃ (x : Ev) (va vr : Value), v = .agg (evC x va vr).toArray ∧ VSl W va x.a ∧ VSl W vr x.r ∧ bdE x ∧ LgE x := by
  obtain ⟨cs, rfl, hsz⟩ := okWide_struct Tryd.underlying47 hv
  obtain ⟨fuel, hf⟩ := hd
  have c14 : Tryd.prog.cellsOf 47 = 14 := by kernel_rfl
  rw [c14] at hsz
  obtain ⟨l, rfl⟩ : ∃ l, cs = List.toArray l := ⟨cs.toList, rfl⟩
  have hc : (Value.agg l.toArray).cells.toList = l := by simp [Value.cells]
  rw [hc] at hf
  obtain ⟨xs, n, _, hx, hl, hlen, hf⟩ := DataW.trod_struct Tryd.underlying47 hf
  have k1 : Tryd.prog.cellsOf 3 = 1 := by kernel_rfl
  have k2 : Tryd.prog.cellsOf 2 = 1 := by kernel_rfl
  have k3 : Tryd.prog.cellsOf 38 = 3 := by kernel_rfl
  have k4 : Tryd.prog.cellsOf 39 = 1 := by kernel_rfl
  have k5 : Tryd.prog.cellsOf 4 = 1 := by kernel_rfl
  have k6 : Tryd.prog.cellsOf 9 = 1 := by kernel_rfl
  have hl14 : l.length = 14 := by simpa using hsz
  match l, hl14 with
  | [v0, v1, v2, v3, v4, v5, v6, v7, v8, v9, v10, v11, v12, v13], _ =>
    match xs, hlen with
    | [y0, y1, y2, y3, y4, y5, y6, y7, y8, y9], _ =>
      have g0 := hf 0 _ rfl
      have g1 := hf 1 _ rfl
      have g2 := hf 2 _ rfl
      have g3 := hf 3 _ rfl
      have g4 := hf 4 _ rfl
      have g5 := hf 5 _ rfl
      have g6 := hf 6 _ rfl
      have g7 := hf 7 _ rfl
      have g8 := hf 8 _ rfl
      have g9 := hf 9 _ rfl
      simp [k1, k2, k3, k4, k5, k6] at g0 g1 g2 g3 g4 g5 g6 g7 g8 g9
      have hd0 : d = .agg [y0.1, y1.1, y2.1, y3.1, y4.1, y5.1, y6.1, y7.1, y8.1, y9.1] := by
        have := congrArg Prod.fst hx
        simpa using this
      have hw : ∀ (j : Nat) (t : TypeId) (e : DataW H), ([2, 38, 3, 3, 38, 3, 39, 39, 4, 9] : List TypeId)[j]? = some t → ([y0.1, y1.1, y2.1, y3.1, y4.1, y5.1, y6.1, y7.1, y8.1, y9.1] : List (DataW H))[j]? = some e → ∀ q ∈ e.weights Tryd.prog t, q ≤ reachBytes := by
        intro j t e h1 h2 q hq
        refine hs q ?_
        rw [hd0]
        simp only [DataW.weights, Tryd.underlying47]
        exact DataW.weights_mem_each (j := j) (by simpa using h1) h2 q hq
      obtain ⟨a0, ha0, _, w0⟩ := DataW.trod_int Tryd.underlying2 g0
      obtain ⟨a1, ha1, e1, b1, _⟩ := open_val rfl g1
      obtain ⟨a2, ha2, _, _⟩ := DataW.trod_int Tryd.underlying3 g2
      obtain ⟨a3, ha3, _, _⟩ := DataW.trod_int Tryd.underlying3 g3
      obtain ⟨a4, ha4, e4, b4, _⟩ := open_val rfl g4
      obtain ⟨a5, ha5, _, _⟩ := DataW.trod_int Tryd.underlying3 g5
      obtain ⟨la, s6, b6, z6, n6⟩ := vsl_ofE g6 (hw 6 _ _ rfl rfl)
      obtain ⟨lr, s7, b7, z7, n7⟩ := vsl_ofE g7 (hw 7 _ _ rfl rfl)
      obtain ⟨a8, ha8, _⟩ := DataW.trod_bool Tryd.underlying4 g8
      obtain ⟨a9, ha9, e9, _⟩ := DataW.trod_string Tryd.underlying9 g9
      have q1 := val_weights (H := H) (x := a1) (by rw [← e1]; exact hw 1 _ _ rfl rfl)
      have q4 := val_weights (H := H) (x := a4) (by rw [← e4]; exact hw 4 _ _ rfl rfl)
      have q9 : a9.size ≤ 140737488351232 := by
        have e := hw 9 _ _ rfl rfl a9.data.toList.length (by rw [e9]; simp [DataW.weights])
        have : a9.data.toList.length = a9.size := tx_len a9
        unfold reachBytes at e
        omega
      have hb := bounds_i64 w0
      simp at ha0 ha1 ha2 ha3 ha4 ha5 ha8 ha9
      refine ⟨⟨a0, a1, a2, a3, a4, a5, la, lr, a8, a9⟩, v10, v11, ?_, s6, s7, ⟨hb.2, b1, b4, b6, b7⟩, ⟨q1, q4, q9, z6, z7, n6, n7⟩⟩
      simp [evC, ha0, ha1, ha2, ha3, ha4, ha5, ha8, ha9]
end Go.Proofs.YtgdegbmakbfaaaaDoor
