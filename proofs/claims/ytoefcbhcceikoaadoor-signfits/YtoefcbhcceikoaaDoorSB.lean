/- A row cut out of the table; the contract of find. Conditions: the table lies in memory. -/
import Derived.Test.YtoefcbhcceikoaaDoorSA
namespace Go.Proofs.YtoefcbhcceikoaaDoor
open Go.RowKit Go.PlainAid
set_option linter.unusedVariables false
set_option linter.unusedSimpArgs false

theorem run_idxT (V U : Nat → Value) (k : Nat) (hk : k < 24) (w : World) : (Instr.index 58 (.agg (cellsT V U).toArray) (.int .i64 (k : Int))).run Tryd.prog w = .ok (.agg #[.int .i64 (rwA k).m, .int .i64 (rwA k).o, V k, U k, .int .i64 (rwA k).c]) w := by
  have hc := cellsT_cut V U k hk
  have hl := cellsT_len V U
  have hE : (0 : Int) ≤ (k : Int) ∧ (k : Int) < 24 := by omega
  have u := Tryd.underlying58
  have a5 := Tryd.isAgg51
  have z5 := Tryd.sizeOf51
  simp [Instr.index, run_underlying u, asIntOf, hE, go_sem, a5, z5, hk, hc, rcs]

/-- a struct of five cells laid in memory -/
def RBox (w : World) (p : Nat) (a b c d e : Value) : Prop :=
  p < w.heap.size ∧ w.cell? ⟨p, 0, none⟩ = some a ∧ w.cell? ⟨p, 1, none⟩ = some b ∧ w.cell? ⟨p, 2, none⟩ = some c ∧ w.cell? ⟨p, 3, none⟩ = some d ∧ w.cell? ⟨p, 4, none⟩ = some e ∧
    w.frozen? ⟨p, 0, none⟩ = false ∧ w.frozen? ⟨p, 1, none⟩ = false ∧ w.frozen? ⟨p, 2, none⟩ = false ∧ w.frozen? ⟨p, 3, none⟩ = false ∧ w.frozen? ⟨p, 4, none⟩ = false
theorem RBox.later {w w' : World} {p : Nat} {a b c d e : Value} (h : RBox w p a b c d e) (hb : Below w.heap.size w w') : RBox w' p a b c d e := by
  obtain ⟨h0, h1, h2, h3, h4, h5, f0, f1, f2, f3, f4⟩ := h
  exact ⟨Nat.lt_of_lt_of_le h0 hb.size, (hb.cell (p := ⟨p, 0, none⟩) h0).trans h1, (hb.cell (p := ⟨p, 1, none⟩) h0).trans h2, (hb.cell (p := ⟨p, 2, none⟩) h0).trans h3, (hb.cell (p := ⟨p, 3, none⟩) h0).trans h4, (hb.cell (p := ⟨p, 4, none⟩) h0).trans h5,
    (hb.frozen (p := ⟨p, 0, none⟩) h0).trans f0, (hb.frozen (p := ⟨p, 1, none⟩) h0).trans f1, (hb.frozen (p := ⟨p, 2, none⟩) h0).trans f2, (hb.frozen (p := ⟨p, 3, none⟩) h0).trans f3, (hb.frozen (p := ⟨p, 4, none⟩) h0).trans f4⟩
theorem RBox.new (w : World) (a b c d e : Value) (T : TypeId) : RBox (w.alloc (.cells #[a, b, c, d, e] T)) w.heap.size a b c d e :=
  ⟨by simp, by simp, by simp, by simp, by simp, by simp, by simp, by simp, by simp, by simp, by simp⟩
/-- five cells stored in memory of the call's own -/
theorem below_store5 {w a : World} (h : Below w.heap.size w a) {p : Nat} (hp : w.heap.size ≤ p) (x y z u v : Value) :
    Below w.heap.size w (((((a.setCell ⟨p, 0, none⟩ x).setCell ⟨p, 1, none⟩ y).setCell ⟨p, 2, none⟩ z).setCell ⟨p, 3, none⟩ u).setCell ⟨p, 4, none⟩ v) :=
  ((((h.setCell hp x).setCell hp y).setCell hp z).setCell hp u).setCell hp v

/-- how find ends -/
def RFind (w : World) (m o : Int) (e : Ending) (w' : World) : Prop :=
  ∃ vi vo, e = .returned (.tuple #[.agg #[.int .i64 (fr m o).m, .int .i64 (fr m o).o, vi, vo, .int .i64 (fr m o).c], .bool (fi m o)]) ∧ ISl w' vi (fr m o).inn ∧ ISl w' vo (fr m o).out ∧ Below w.heap.size w w'

set_option maxHeartbeats 4000000 in
theorem find_any (m o : Int) (w : World) (ht : Tb w) : Calls Tryd.prog 29 #[.int .i64 m, .int .i64 o] w fun e w' => RFind w m o e w' := by
  obtain ⟨V, U, hr, h2, hs⟩ := ht
  have HS : Hid (∀ i, i < 24 → ISl w (V i) (rwA i).inn ∧ ISl w (U i) (rwA i).out) := hs
  have HR : Hid (w.rangeAt 2 0 (cellsT V U)) := hr
  clear hs hr
  go_enter Tryd.func29, Tryd.ntmps29
  go_wp2_with ((with_reducible refine wpList_load_mid ?_ 58 (.global 2) ?_ 2 0 ?_ (cellsT V U) _ (World.rangeAt_alloc HR.out _) Tryd.underlying58 rfl (by rw [cellsT_len]; kernel_rfl) ?_); (exact rfl); (exact rfl); (exact rfl))
  have HI : Hid (∀ k, k < 24 → ∀ w, (Instr.index 58 (.agg (cellsT V U).toArray) (.int .i64 ((k : Nat) : Int))).run Tryd.prog w = .ok (.agg #[.int .i64 (rwA k).m, .int .i64 (rwA k).o, V k, U k, .int .i64 (rwA k).c]) w) := fun k hk w => run_idxT V U k hk w
  generalize (Value.agg (cellsT V U).toArray) = A at *
  have hb0 : Below w.heap.size w (w.alloc (.cells #[.int .i64 0, .int .i64 0, .slice none 0 0, .slice none 0 0, .int .i64 0] 51)) := below_more (Below.refl _ _) _
  have B0 := RBox.new w (.int .i64 0) (.int .i64 0) (.slice none 0 0) (.slice none 0 0) (.int .i64 0) 51
  generalize w.alloc (.cells #[.int .i64 0, .int .i64 0, .slice none 0 0, .slice none 0 0, .int .i64 0] 51) = w0 at *
  have HB : Hid (RBox w0 w.heap.size (.int .i64 0) (.int .i64 0) (.slice none 0 0) (.slice none 0 0) (.int .i64 0)) := B0
  clear B0
  go_loopw [9] (fun i wr => ∃ k : Nat, k ≤ 24 ∧ i = .int .i64 (k : Int) ∧ Below w0.heap.size w0 wr ∧ ∀ i, i < k → ¬ ((rwA i).m = m ∧ (rwA i).o = o)) (fun i wr => 24 - (intOf i).toNat)
  case atStart => exact ⟨0, by omega, rfl, Below.refl _ _, fun i h => by omega⟩
  case round =>
    obtain ⟨k, hk, rfl, hb, hall⟩ := hrel
    have HA : Hid (∀ i, i < k → ¬ ((rwA i).m = m ∧ (rwA i).o = o)) := hall
    clear hall
    obtain ⟨hp, c0, c1, c2, c3, c4, f0, f1, f2, f3, f4⟩ := HB.out.later hb
    have hne : ¬ w.heap.size = wr.heap.size := by omega
    have hne2 : ¬ wr.heap.size = w.heap.size := by omega
    by_cases hlt : k < 24
    · have hlt' : (k : Int) < 24 := by omega
      have hx := HI.out k hlt
      obtain ⟨si, so⟩ := HS.out k hlt
      have SI : Hid (ISl w (V k) (rwA k).inn) := si
      have SO : Hid (ISl w (U k) (rwA k).out) := so
      obtain ⟨ai, ci, ei⟩ := si.form
      obtain ⟨ao, co, eo⟩ := so.form
      rw [ei] at SI hx
      rw [eo] at SO hx
      clear si so ei eo
      obtain ⟨rm, hrm⟩ : ∃ x, (rwA k).m = x := ⟨_, rfl⟩
      obtain ⟨ro, hro⟩ : ∃ x, (rwA k).o = x := ⟨_, rfl⟩
      obtain ⟨rc, hrc⟩ : ∃ x, (rwA k).c = x := ⟨_, rfl⟩
      obtain ⟨li, hli⟩ : ∃ x, (rwA k).inn.length = x := ⟨_, rfl⟩
      obtain ⟨lo, hlo⟩ : ∃ x, (rwA k).out.length = x := ⟨_, rfl⟩
      rw [hrm, hro, hrc, hli, hlo] at hx
      rw [hli] at SI
      rw [hlo] at SO
      have HE : Hid ((rwA k).m = rm ∧ (rwA k).o = ro ∧ (rwA k).c = rc) := ⟨hrm, hro, hrc⟩
      clear hrm hro hrc hli hlo
      by_cases hm : rm = m
      · subst hm
        by_cases ho : ro = o
        · subst ho
          obtain ⟨hF, hI⟩ := fr_at hlt HA.out ⟨HE.out.1, HE.out.2.1⟩
          have HF : Hid (fr rm ro = rwA k ∧ fi rm ro = true) := ⟨hF, hI⟩
          clear hF hI
          go_wp2
          refine bodyPost_ret (v := .tuple #[.agg #[.int .i64 rm, .int .i64 ro, .slice ai li ci, .slice ao lo co, .int .i64 rc], .bool true]) (by simp [results, Tryd.f29, go_sem, hne, hne2, c0, c1, c2, c3, c4, f0, f1, f2, f3, f4, hp]) rfl ?_
          have hbe : Below w.heap.size w wr := below_next hb0 hb
          unfold RFind
          rw [HF.out.1, HF.out.2, HE.out.1, HE.out.2.1, HE.out.2.2]
          refine ⟨_, _, rfl, SI.out.later ?_, SO.out.later ?_, ?_⟩
          all_goals exact below_more (below_store5 hbe (Nat.le_refl _) _ _ _ _ _) _
        · have ho' : (ro == o) = false := by simp [ho]
          have HO : Hid (¬ ro = o) := ho
          clear ho
          go_wp2
          go_roundw
          case rel =>
            refine ⟨k + 1, by omega, by go_num, below_more hb _, fun i hi => ?_⟩
            by_cases e : i = k
            · subst e; exact fun h => HO.out (HE.out.2.1.symm.trans h.2)
            · exact HA.out i (by omega)
          case measure => simp [intOf]; omega
      · have hm' : (rm == m) = false := by simp [hm]
        have HO : Hid (¬ rm = m) := hm
        clear hm
        go_wp2
        go_roundw
        case rel =>
          refine ⟨k + 1, by omega, by go_num, below_more hb _, fun i hi => ?_⟩
          by_cases e : i = k
          · subst e; exact fun h => HO.out (HE.out.1.symm.trans h.1)
          · exact HA.out i (by omega)
        case measure => simp [intOf]; omega
    · have e : k = 24 := by omega
      subst e
      obtain ⟨hF, hI⟩ := fr_no HA.out
      have HF : Hid (fr m o = noRw ∧ fi m o = false) := ⟨hF, hI⟩
      clear hF hI
      go_wp2
      refine bodyPost_ret (v := .tuple #[.agg #[.int .i64 0, .int .i64 0, .slice none 0 0, .slice none 0 0, .int .i64 0], .bool false]) (by simp [results, Tryd.f29, go_sem, hne, hne2, c0, c1, c2, c3, c4, f0, f1, f2, f3, f4, hp]) rfl ?_
      have hbe : Below w.heap.size w wr := below_next hb0 hb
      unfold RFind
      rw [HF.out.1, HF.out.2]
      exact ⟨_, _, rfl, ISl.nil _, ISl.nil _, below_store5 hbe (Nat.le_refl _) _ _ _ _ _⟩
end Go.Proofs.YtoefcbhcceikoaaDoor
