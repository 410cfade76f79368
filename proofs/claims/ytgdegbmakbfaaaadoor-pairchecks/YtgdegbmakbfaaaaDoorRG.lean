/- The contract of the document's Great. Conditions: the event's lists lie in memory; its texts are at most 2^47 bytes, its lists at most 2^47 values. -/
import Derived.Test.YtgdegbmakbfaaaaDoorRF
namespace Go.Proofs.YtgdegbmakbfaaaaDoor
open Go.RowKit Go.PlainAid Ln
set_option linter.unusedVariables false
set_option linter.unusedSimpArgs false

/-- no more than statements take -/
def SmE (x : Ev) : Prop := x.c.2.2.size ≤ 2000 ∧ x.k.2.2.size ≤ 2000 ∧ x.n.size ≤ 2000 ∧ x.a.length ≤ 2000 ∧ x.r.length ≤ 2000 ∧ (∀ i, i < x.a.length → (nv x.a i).2.2.size ≤ 2000) ∧ (∀ i, i < x.r.length → (nv x.r i).2.2.size ≤ 2000)
/-- no more than a machine holds -/
def LgE (x : Ev) : Prop := x.c.2.2.size ≤ 140737488351232 ∧ x.k.2.2.size ≤ 140737488351232 ∧ x.n.size ≤ 140737488351232 ∧ (∀ i, i < x.a.length → (nv x.a i).2.2.size ≤ 140737488351232) ∧ (∀ i, i < x.r.length → (nv x.r i).2.2.size ≤ 140737488351232) ∧ x.a.length ≤ 140737488351232 ∧ x.r.length ≤ 140737488351232
theorem SmE.sz {x : Ev} (h : SmE x) : SzE x := by
  obtain ⟨h1, h2, h3, h4, h5, h6, h7⟩ := h
  exact ⟨by omega, by omega, fun i hi => by have := h6 i hi; omega, fun i hi => by have := h7 i hi; omega, by omega, by omega⟩
def RGrE (w : World) (x : Ev) (e : Ending) (w' : World) : Prop := ∃ b, e = .returned (.bool b) ∧ (b = false → SmE x) ∧ Below w.heap.size w w'
theorem sz_succ (xs : List Val) (k s t : Nat) (h : ∀ i, i < k → (nv xs i).2.2.size ≤ s) (hs : s ≤ t) (hk : (nv xs k).2.2.size ≤ t) : ∀ i, i < k + 1 → (nv xs i).2.2.size ≤ t := fun i hi => by
  by_cases e : i = k
  · rw [e]; exact hk
  · have := h i (by omega); omega
set_option maxRecDepth 100000 in
set_option maxHeartbeats 8000000 in
theorem rgreat_ev (x : Ev) (va vr : Value) (w : World) (h1 : VSl w va x.a) (h2 : VSl w vr x.r) (hz : LgE x) :
    Calls Tryd.prog 19 #[.agg (evC x va vr).toArray] w fun e w' => RGrE w x e w' := by
  obtain ⟨av, cv, rfl⟩ : ∃ a c, va = .slice a x.a.length c := by obtain ⟨a, c, h, _⟩ := h1; exact ⟨a, c, h⟩
  obtain ⟨ar, cr, rfl⟩ : ∃ a c, vr = .slice a x.r.length c := by obtain ⟨a, c, h, _⟩ := h2; exact ⟨a, c, h⟩
  obtain ⟨w1, hw1⟩ : ∃ w1, w.alloc (.cells (evC x (.slice av x.a.length cv) (.slice ar x.r.length cr)).toArray 47) = w1 := ⟨_, rfl⟩
  have B1 := Blk.new w (evC x (.slice av x.a.length cv) (.slice ar x.r.length cr)) 47
  rw [hw1] at B1
  have b1 : Below w.heap.size w w1 := by rw [← hw1]; exact below_more (Below.refl _ _) _
  have ea := hw1
  simp only [evC] at ea
  obtain ⟨p, hpp⟩ : ∃ p, w.heap.size = p := ⟨_, rfl⟩
  rw [hpp] at B1
  have HBel : Hid (Below w.heap.size w w1) := b1
  have H1 : Hid (VSl w (.slice av x.a.length cv) x.a) := h1
  have H2 : Hid (VSl w (.slice ar x.r.length cr) x.r) := h2
  have HZ : Hid (LgE x) := hz
  obtain ⟨a0, a1, a2, a3, a4, a5, a6, a7, a8, a9, a10, a11, a12, a13⟩ := ev_cells B1
  obtain ⟨z1, z2, z3, _⟩ := hz
  clear hw1 B1 b1 h1 h2
  simp only [evC]
  go_enter Tryd.func19, Tryd.ntmps19
  go_wp2
  go_loop [3, 4] (fun n i => ∃ k s : Nat, k ≤ x.a.length ∧ i = .int .i64 (k : Int) ∧ n = .int .i64 (s : Int) ∧ s ≤ 900000000000000 ∧ x.c.2.2.size ≤ s ∧ x.k.2.2.size ≤ s ∧ x.n.size ≤ s ∧ k ≤ s ∧ ∀ i, i < k → (nv x.a i).2.2.size ≤ s) (fun n i => x.a.length - (intOf i).toNat)
  case atStart => exact ⟨0, x.c.2.2.size + x.k.2.2.size + x.n.size, by omega, rfl, congrArg (Value.int IntKind.i64) (by omega), by omega, by omega, by omega, by omega, by omega, fun i h => by omega⟩
  case round =>
    obtain ⟨k, s, hk, rfl, rfl, hs, g1, g2, g3, hks, hall⟩ := hrel
    have HA : Hid (∀ i, i < k → (nv x.a i).2.2.size ≤ s) := hall
    clear hall
    by_cases hlt : k < x.a.length
    · have hlt' : (k : Int) < (x.a.length : Int) := by omega
      by_cases hle : s ≤ 2000
      · have hle' : (s : Int) ≤ 2000 := by omega
        obtain ⟨b, o, rfl⟩ := vat_block' (H1.out.later HBel.out) (by omega)
        obtain ⟨c0, c1, c2⟩ := vat_cells' (H1.out.later HBel.out) rfl hlt
        have hz := HZ.out.2.2.2.1 k hlt
        have hnr := HZ.out.2.2.2.2.2.1
        go_wp2
        go_round
        case rel => exact ⟨k + 1, s + 1 + (nv x.a k).2.2.size, by omega, congrArg (Value.int IntKind.i64) (by omega), congrArg (Value.int IntKind.i64) (by omega), by omega, by omega, by omega, by omega, by omega, sz_succ x.a k s _ HA.out (by omega) (by omega)⟩
        case measure => simp [intOf]; omega
      · have hle' : ¬ (s : Int) ≤ 2000 := by omega
        have HS : Hid (s ≤ 900000000000000 ∧ x.c.2.2.size ≤ s ∧ x.k.2.2.size ≤ s ∧ x.n.size ≤ s ∧ (s ≤ 2000 → x.a.length ≤ s ∧ ∀ i, i < x.a.length → (nv x.a i).2.2.size ≤ s)) := ⟨hs, g1, g2, g3, fun h => absurd h hle⟩
        clear HA g1 g2 g3 hks hk
        go_wp2
        go_loop [3, 5] (fun n i => ∃ j s2 : Nat, j ≤ x.r.length ∧ i = .int .i64 (j : Int) ∧ n = .int .i64 (s2 : Int) ∧ s2 ≤ 900000000000000 ∧ s ≤ s2 ∧ j ≤ s2 ∧ ∀ i, i < j → (nv x.r i).2.2.size ≤ s2) (fun n i => x.r.length - (intOf i).toNat)
        case atStart => exact ⟨0, s, by omega, rfl, rfl, HS.out.1, by omega, by omega, fun i h => by omega⟩
        case round =>
          obtain ⟨j, s2, hj, rfl, rfl, hs2, hss, hjs, hall⟩ := hrel
          have HA2 : Hid (∀ i, i < j → (nv x.r i).2.2.size ≤ s2) := hall
          clear hall
          by_cases hlt : j < x.r.length
          · have hlt' : (j : Int) < (x.r.length : Int) := by omega
            by_cases hle : s2 ≤ 2000
            · exact absurd hle (by omega)
            · have hle' : ¬ (s2 : Int) ≤ 2000 := by omega
              have hgt : (2000 : Int) < (s2 : Int) := by omega
              go_wp2
              go_ret
              exact ⟨true, rfl, (fun h => Bool.noConfusion h), HBel.out⟩
          · have hlt' : ¬ (j : Int) < (x.r.length : Int) := by omega
            by_cases hle : s2 ≤ 2000
            · exact absurd hle (by omega)
            · have hle' : ¬ (s2 : Int) ≤ 2000 := by omega
              have hgt : (2000 : Int) < (s2 : Int) := by omega
              go_wp2
              go_ret
              exact ⟨true, rfl, (fun h => Bool.noConfusion h), HBel.out⟩
    · have hlt' : ¬ (k : Int) < (x.a.length : Int) := by omega
      have HS : Hid (s ≤ 900000000000000 ∧ x.c.2.2.size ≤ s ∧ x.k.2.2.size ≤ s ∧ x.n.size ≤ s ∧ (s ≤ 2000 → x.a.length ≤ s ∧ ∀ i, i < x.a.length → (nv x.a i).2.2.size ≤ s)) := ⟨hs, g1, g2, g3, fun h => ⟨by omega, fun i hi => HA.out i (by omega)⟩⟩
      clear HA g1 g2 g3 hks hk
      go_wp2
      go_loop [3, 5] (fun n i => ∃ j s2 : Nat, j ≤ x.r.length ∧ i = .int .i64 (j : Int) ∧ n = .int .i64 (s2 : Int) ∧ s2 ≤ 900000000000000 ∧ s ≤ s2 ∧ j ≤ s2 ∧ ∀ i, i < j → (nv x.r i).2.2.size ≤ s2) (fun n i => x.r.length - (intOf i).toNat)
      case atStart => exact ⟨0, s, by omega, rfl, rfl, HS.out.1, by omega, by omega, fun i h => by omega⟩
      case round =>
        obtain ⟨j, s2, hj, rfl, rfl, hs2, hss, hjs, hall⟩ := hrel
        have HA2 : Hid (∀ i, i < j → (nv x.r i).2.2.size ≤ s2) := hall
        clear hall
        by_cases hlt : j < x.r.length
        · have hlt' : (j : Int) < (x.r.length : Int) := by omega
          by_cases hle : s2 ≤ 2000
          · have hle' : (s2 : Int) ≤ 2000 := by omega
            obtain ⟨b, o, rfl⟩ := vat_block' (H2.out.later HBel.out) (by omega)
            obtain ⟨c0, c1, c2⟩ := vat_cells' (H2.out.later HBel.out) rfl hlt
            have hz := HZ.out.2.2.2.2.1 j hlt
            have hnr := HZ.out.2.2.2.2.2.2
            go_wp2
            go_round
            case rel => exact ⟨j + 1, s2 + 1 + (nv x.r j).2.2.size, by omega, congrArg (Value.int IntKind.i64) (by omega), congrArg (Value.int IntKind.i64) (by omega), by omega, by omega, by omega, sz_succ x.r j s2 _ HA2.out (by omega) (by omega)⟩
            case measure => simp [intOf]; omega
          · have hle' : ¬ (s2 : Int) ≤ 2000 := by omega
            have hgt : (2000 : Int) < (s2 : Int) := by omega
            go_wp2
            go_ret
            exact ⟨true, rfl, (fun h => Bool.noConfusion h), HBel.out⟩
        · have hlt' : ¬ (j : Int) < (x.r.length : Int) := by omega
          by_cases hle : s2 ≤ 2000
          · have hgt : ¬ (2000 : Int) < (s2 : Int) := by omega
            have e : j = x.r.length := by omega
            have HF : Hid (SmE x) := by
              obtain ⟨q1, q2, q3, q4⟩ := HS.out.2
              obtain ⟨q5, q6⟩ := q4 (by omega)
              exact ⟨by omega, by omega, by omega, by omega, by omega, fun i hi => by have := q6 i hi; omega, fun i hi => by have := HA2.out i (by omega); omega⟩
            clear e
            go_wp2
            go_ret
            exact ⟨false, rfl, (fun _ => HF.out), HBel.out⟩
          · have hle' : ¬ (s2 : Int) ≤ 2000 := by omega
            have hgt : (2000 : Int) < (s2 : Int) := by omega
            go_wp2
            go_ret
            exact ⟨true, rfl, (fun h => Bool.noConfusion h), HBel.out⟩
end Go.Proofs.YtgdegbmakbfaaaaDoor
