/- What may come out, and of which domains; the contract of Outs. Conditions: texts of at most 2^62 bytes, at most a thousand values; the table lies in memory. -/
import Derived.Test.YtpboleifllcehaaDoorBD
namespace Go.Proofs.YtpboleifllcehaaDoor
open Go.RowKit Go.PlainAid Go.Sort
set_option linter.unusedVariables false
set_option linter.unusedSimpArgs false

/-- the domain of the i-th value that comes out -/
def domI (r : Rw) (i : Nat) : Int := nth r.out (i % r.out.length)
/-- may so many come out? -/
def manyB (r : Rw) (n : Nat) : Bool := if r.c = 2 then decide (n % 2 = 0) else decide (n = r.out.length)
def letV (r : Rw) (x : Val) (i : Nat) : Bool := letsB r.c (domI r i) x.1 x.2.1 x.2.2
def outsOK (r : Rw) (xs : List Val) : Bool := manyB r xs.length && decide (∀ i, i < xs.length → letV r (nv xs i) i = true)
def outsL (r : Rw) (xs : List Val) : List Int := if outsOK r xs = true then (List.range xs.length).map (domI r) else []
/-- how Outs ends -/
def ROuts (w : World) (m o : Int) (xs : List Val) (e : Ending) (w' : World) : Prop := ∃ v, e = .returned (.tuple #[v, .bool (fi m o && outsOK (fr m o) xs)]) ∧ ISl w' v (if fi m o = true then outsL (fr m o) xs else []) ∧ Below w.heap.size w w'
theorem outs_no {w w' : World} {m o : Int} {xs : List Val} (h : (fi m o && outsOK (fr m o) xs) = false) (hb : Below w.heap.size w w') : ROuts w m o xs (.returned (.tuple #[.slice none 0 0, .bool false])) w' := by
  refine ⟨_, by rw [h], ?_, hb⟩
  by_cases hf : fi m o = true
  · rw [if_pos hf]; unfold outsL
    rw [hf, Bool.true_and] at h
    rw [if_neg (by rw [h]; decide)]; exact ISl.nil _
  · rw [if_neg hf]; exact ISl.nil _
theorem fr_two {m o : Int} (h : (fr m o).c = 2) : (fr m o).out.length = 2 := by
  have := fr_all (p := fun r => decide (r.c = 2 → r.out.length = 2)) rfl m o
  exact of_decide_eq_true this h
theorem fr_lo (m o : Int) : (fr m o).out.length ≤ 2 := by
  have := fr_all (p := fun r => decide (r.out.length ≤ 2)) rfl m o
  exact of_decide_eq_true this
theorem asMany_any (m o : Int) (ai ao : Option Addr) (li ci co n : Nat) (w : World) (hn : n ≤ 1000000) :
    Calls Tryd.prog 28 #[.agg #[.int .i64 (fr m o).m, .int .i64 (fr m o).o, .slice ai li ci, .slice ao (fr m o).out.length co, .int .i64 (fr m o).c], .int .i64 (n : Int)] w fun e w' => e = .returned (.bool (manyB (fr m o) n)) ∧ Below w.heap.size w w' := by
  unfold manyB
  by_cases h : (fr m o).c = 2
  · rw [if_pos h, fr_two h, h]; exact asMany_two _ _ ai ao li ci co n w hn
  · rw [if_neg h]; exact asMany_one _ _ _ ai ao li ci _ co n w hn h
/-- the row of domains of which k are told -/
def rowK (r : Rw) (n k : Nat) : List Int := (List.range k).map (domI r) ++ List.replicate (n - k) 0
theorem rowK_len (r : Rw) (n k : Nat) (h : k ≤ n) : (rowK r n k).length = n := by simp [rowK]; omega
theorem rowK_set (r : Rw) (n k : Nat) (h : k < n) : (cellsI (rowK r n k)).set k (.int .i64 (domI r k)) = cellsI (rowK r n (k + 1)) := by
  rw [cellsI_set]
  congr 1
  obtain ⟨d, rfl⟩ : ∃ d, n = k + 1 + d := ⟨n - (k + 1), by omega⟩
  unfold rowK
  rw [show k + 1 + d - k = d + 1 by omega, show k + 1 + d - (k + 1) = d by omega, List.range_succ, List.map_append, List.append_assoc, List.replicate_succ, List.set_append]
  simp

theorem own_new (w : World) (n : Nat) (hn : n ≤ 1000000) : (w.alloc (.cells (cellsI (List.replicate n 0)).toArray 3)).ownsRow w.heap.size 3 1 (.slice (some ⟨w.heap.size, 0, none⟩) n n) n (cellsI (List.replicate n 0)) := by
  refine ⟨by simp [cellsI], .inr ⟨w.heap.size, n, _, rfl, Nat.le_refl _, heap_alloc_new _ _, Nat.le_refl _, by unfold maxLen; omega, by simp [cellsI], ?_⟩⟩
  simp [cellsI]
theorem rowK_0 (r : Rw) (n : Nat) : rowK r n 0 = List.replicate n 0 := by simp [rowK]
theorem rowK_all (r : Rw) (n : Nat) : rowK r n n = (List.range n).map (domI r) := by simp [rowK]
/-- where the domain lies: a row of one or two -/
theorem lo_cases {m o : Int} {n k : Nat} (hmy : manyB (fr m o) n = true) (hk : k < n) : ((fr m o).out.length = 1 ∧ k % (fr m o).out.length = 0) ∨ ((fr m o).out.length = 2 ∧ k % (fr m o).out.length = 0 ∧ k % 2 = 0) ∨ ((fr m o).out.length = 2 ∧ k % (fr m o).out.length = 1 ∧ k % 2 = 1) := by
  have h2 := fr_lo m o
  by_cases hc : (fr m o).c = 2
  · have := fr_two hc
    rw [this]; omega
  · unfold manyB at hmy
    rw [if_neg hc] at hmy
    have e := of_decide_eq_true hmy
    have h3 : (fr m o).out.length = 1 ∨ (fr m o).out.length = 2 := by omega
    rcases h3 with h3 | h3 <;> rw [h3] <;> omega

theorem far_cell {u : World} {p q k i : Nat} {v x : Value} (h : u.cell? ⟨q, i, none⟩ = some x) (hne : p ≠ q) : (u.setCell ⟨p, k, none⟩ v).drew.cell? ⟨q, i, none⟩ = some x :=
  (World.cell?_setCell_other (w := u) (a := ⟨p, k, none⟩) (b := ⟨q, i, none⟩) (v := v) (fun e => hne (congrArg Addr.block e))).trans h
theorem own_later {w w' : World} {B n : Nat} {v : Value} {cs : List Value} (h : w.ownsRow B 3 1 v n cs) (hb : Below w.heap.size w w') : w'.ownsRow B 3 1 v n cs :=
  World.ownsRow.kept h (row := none) ⟨hb.os, hb.tape, hb.output, hb.size, fun k hk _ => hb.block k hk⟩ (by cases v.ownBlock <;> simp)
theorem isl_rowK {w : World} {B : Nat} {v : Value} {r : Rw} {n : Nat} (h : w.ownsRow B 3 1 v n (cellsI (rowK r n n))) : ISl w v (rowK r n n) := by
  refine OwnI.isl (B := B) ?_
  unfold OwnI
  rw [rowK_len r n n (Nat.le_refl _)]
  exact h
theorem outsOK_no {r : Rw} {xs : List Val} {k : Nat} (hk : k < xs.length) (h : letV r (nv xs k) k = false) : outsOK r xs = false := by
  unfold outsOK
  rw [decide_eq_false (fun e => by have := e k hk; rw [h] at this; cases this), Bool.and_false]
theorem outsOK_all {r : Rw} {xs : List Val} (hm : manyB r xs.length = true) (h : ∀ i, i < xs.length → letV r (nv xs i) i = true) : outsOK r xs = true := by
  unfold outsOK
  rw [hm, decide_eq_true h]; rfl

set_option maxHeartbeats 4000000 in
theorem outs_any (m o : Int) (v : Value) (xs : List Val) (w : World) (ht : Tb w) (hv : VSl w v xs) (hs : ∀ i, i < xs.length → (nv xs i).2.2.size ≤ 4611686018427387904) (hn : xs.length ≤ 1000000) :
    Calls Tryd.prog 18 #[.int .i64 m, .int .i64 o, v] w fun e w' => ROuts w m o xs e w' := by
  have hF := find_any m o w ht
  clear ht
  have HV : Hid (VSl w v xs) := hv
  have HS : Hid (∀ i, i < xs.length → (nv xs i).2.2.size ≤ 4611686018427387904) := hs
  obtain ⟨a, c, rfl, hl, hm, _⟩ := hv
  have mixed : Tryd.prog.follows .mixedOrders = true := by kernel_rfl
  clear hs
  cases hfi : fi m o
  · go_enter Tryd.func18, Tryd.ntmps18
    go_wp2_with (go_at_call 27; refine hF.mono ?_; rintro e w1 ⟨vi, vo, rfl, hi, ho, hb1⟩; have HI : Hid (ISl w1 vo (fr m o).out) := ho; obtain ⟨ao, co, rfl⟩ := ho.form; obtain ⟨ai, ci, rfl⟩ := hi.form; clear hi ho)
    refine bodyPost_ret (v := .tuple #[.slice none 0 0, .bool false]) (by simp [results, Tryd.f18, go_sem]) rfl ?_
    exact outs_no (by rw [hfi]; rfl) (below_more hb1 _)
  · have hA := fun ai ao li ci co w => asMany_any m o ai ao li ci co xs.length w (by omega)
    cases hmy : manyB (fr m o) xs.length
    · rw [hmy] at hA
      go_enter Tryd.func18, Tryd.ntmps18
      go_wp2_with (first | (go_at_call 27; refine hF.mono ?_; rintro e w1 ⟨vi, vo, rfl, hi, ho, hb1⟩; have HI : Hid (ISl w1 vo (fr m o).out) := ho; obtain ⟨ao, co, rfl⟩ := ho.form; obtain ⟨ai, ci, rfl⟩ := hi.form; clear hi ho) | (go_at_call 28; refine (hA _ _ _ _ _ _).mono ?_; rintro e w3 ⟨rfl, hb3⟩))
      refine bodyPost_ret (v := .tuple #[.slice none 0 0, .bool false]) (by simp [results, Tryd.f18, go_sem]) rfl ?_
      exact outs_no (by rw [hfi]; unfold outsOK; rw [hmy]; rfl) (below_next (below_more hb1 _) hb3)
    · rw [hmy] at hA
      have hmk := fun w => makeI xs.length (by omega) w
      go_enter Tryd.func18, Tryd.ntmps18
      go_wp2_with (first | (go_at_call 27; refine hF.mono ?_; rintro e w1 ⟨vi, vo, rfl, hi, ho, hb1⟩; have HI : Hid (ISl w1 vo (fr m o).out) := ho; obtain ⟨ao, co, rfl⟩ := ho.form; obtain ⟨ai, ci, rfl⟩ := hi.form; clear hi ho) | (go_at_call 28; refine (hA _ _ _ _ _ _).mono ?_; rintro e w3 ⟨rfl, hb3⟩))
      have HM : Hid (manyB (fr m o) xs.length = true) := hmy
      have HF : Hid (fi m o = true) := hfi
      have HB : Hid (RBox w3 w1.heap.size (.int .i64 (fr m o).m) (.int .i64 (fr m o).o) (.slice ai (fr m o).inn.length ci) (.slice ao (fr m o).out.length co) (.int .i64 (fr m o).c)) := (RBox.new w1 _ _ _ _ _ 60).later hb3
      have hbw : Below w.heap.size w w3 := below_next (below_more hb1 _) hb3
      have hb13 : Below w1.heap.size w1 w3 := below_next (below_box _ _) hb3
      have HO0 := own_new w3 xs.length hn
      have hbo := below_box w3 (.cells (cellsI (List.replicate xs.length 0)).toArray 3)
      generalize w3.alloc (.cells (cellsI (List.replicate xs.length 0)).toArray 3) = w4 at *
      clear hb1 hb3 hF hA hmk hmy hfi
      go_loopw [33] (fun i wr => ∃ k : Nat, k ≤ xs.length ∧ i = .int .i64 (k : Int) ∧ wr.ownsRow w3.heap.size 3 1 (.slice (some ⟨w3.heap.size, 0, none⟩) xs.length xs.length) xs.length (cellsI (rowK (fr m o) xs.length k)) ∧ Below w3.heap.size w3 wr ∧ ∀ i, i < k → letV (fr m o) (nv xs i) i = true) (fun i wr => xs.length - (intOf i).toNat)
      case atStart => exact ⟨0, by omega, rfl, by rw [rowK_0]; exact HO0, hbo, fun i h => by omega⟩
      case round =>
        clear HO0 hbo
        obtain ⟨k, hk, rfl, hown, hb, hall⟩ := hrel
        have HA : Hid (∀ i, i < k → letV (fr m o) (nv xs i) i = true) := hall
        have HO : Hid (wr.ownsRow w3.heap.size 3 1 (.slice (some ⟨w3.heap.size, 0, none⟩) xs.length xs.length) xs.length (cellsI (rowK (fr m o) xs.length k))) := hown
        clear hall hown
        by_cases hlt : k < xs.length
        · have hlt' : (k : Int) < (xs.length : Int) := by omega
          have HV2 := HV.out.later (below_next hbw hb)
          have HI2 := HI.out.later (below_next hb13 hb)
          obtain ⟨p, q, rfl⟩ := vat_block HV2 (by omega)
          obtain ⟨a0, a1, a2⟩ := vat_cells HV2 hlt
          have hz := HS.out k hlt
          obtain ⟨x1, x2, x3, hx⟩ : ∃ x1 x2 x3, nv xs k = (x1, x2, x3) := ⟨_, _, _, rfl⟩
          rw [hx] at a0 a1 a2 hz
          dsimp only at a0 a1 a2 hz
          obtain ⟨hp, b0, b1, b2, b3, b4, _⟩ := HB.out.later hb
          have HX : Hid (nv xs k = (x1, x2, x3)) := hx
          clear HV2 hx
          go_wp2_with fail
          have V0 := VBox.new wr x1 x2 x3 25
          have hb3 := below_box wr (.cells #[.int .i64 x1, .int .i64 x2, .string x3] 25)
          have HI3 := HI2.later hb3
          obtain ⟨hp', d0, d1, d2, d3, d4, _⟩ := (HB.out.later hb).later hb3
          have hbu := below_more hb (.cells #[.int .i64 x1, .int .i64 x2, .string x3] 25)
          have HO2 : Hid ((wr.alloc (.cells #[.int .i64 x1, .int .i64 x2, .string x3] 25)).ownsRow w3.heap.size 3 1 (.slice (some ⟨w3.heap.size, 0, none⟩) xs.length xs.length) xs.length (cellsI (rowK (fr m o) xs.length k))) := HO.out.alloc _
          clear a0 a1 a2 b0 b1 b2 b3 b4 HI2 hb3 hp
          generalize wr.alloc (.cells #[.int .i64 x1, .int .i64 x2, .string x3] 25) = u at *
          have c1 : u.cell? ⟨w3.heap.size, k, none⟩ = some (.int .i64 (nth (rowK (fr m o) xs.length k) k)) := by
            rw [HO2.out.cellAt k (by omega)]; exact cellsI_at _ k (by rw [rowK_len _ _ _ hk]; omega)
          have f1 : u.frozen? ⟨w3.heap.size, k, none⟩ = false := HO2.out.frozenAt k
          obtain ⟨lo, hlo⟩ : ∃ lo, (fr m o).out.length = lo := ⟨_, rfl⟩
          obtain ⟨j, hj⟩ : ∃ j, k % lo = j := ⟨_, rfl⟩
          have hl0 : 0 < lo := by rw [← hlo]; rcases lo_cases HM.out hlt with ⟨h1, _⟩ | ⟨h1, _⟩ | ⟨h1, _⟩ <;> omega
          have hl2 : lo ≤ 2 := by rw [← hlo]; exact fr_lo m o
          have hjl : j < lo := by rw [← hj]; exact Nat.mod_lt _ hl0
          have hjl' : (j : Int) < (lo : Int) := by omega
          have t0 : ((lo : Int) == 0) = false := by simp; omega
          have t1 : ¬ (lo : Int) = 0 := by omega
          have t2 : (k : Int).tmod (lo : Int) = (j : Int) := by rw [Int.tmod_eq_emod_of_nonneg (by omega), ← hj]; exact (Int.natCast_emod k lo).symm
          obtain ⟨b, off, rfl, hbl, hci⟩ := isl_at HI3 (by omega)
          have r1 : u.cell? ⟨b, off + j, none⟩ = some (.int .i64 (domI (fr m o) k)) := by unfold domI; rw [hlo, hj]; exact hci j (by omega)
          rw [hlo] at d3
          have HD : Hid (∃ d, domI (fr m o) k = d) := ⟨_, rfl⟩
          obtain ⟨dk, hdk⟩ := HD.out
          have HDK : Hid (domI (fr m o) k = dk) := hdk
          rw [hdk] at r1
          have HLO : Hid ((fr m o).out.length = lo) := hlo
          clear hci HI3 hj hdk HD hlo
          have hw13 : w1.heap.size < w3.heap.size := HB.out.1
          have hw3r : w3.heap.size < wr.heap.size := (HO.out.lt _ rfl).2
          obtain ⟨_, v0, v1, v2, _⟩ := V0
          have hL := fun w => lets_any (fr m o).m (fr m o).o (fr m o).c dk x1 x2 x3 ai (some ⟨b, off, none⟩) (fr m o).inn.length ci lo co w hz
          have HE : Hid (letV (fr m o) (nv xs k) k = letsB (fr m o).c dk x1 x2 x3) := by show _ = _; unfold letV; rw [HX.out, HDK.out]
          generalize letsB (fr m o).c dk x1 x2 x3 = tb at hL HE
          go_region
          have d0' := far_cell (k := k) (v := .int .i64 dk) d0 (Nat.ne_of_gt hw13)
          have d1' := far_cell (k := k) (v := .int .i64 dk) d1 (Nat.ne_of_gt hw13)
          have d2' := far_cell (k := k) (v := .int .i64 dk) d2 (Nat.ne_of_gt hw13)
          have d3' := far_cell (k := k) (v := .int .i64 dk) d3 (Nat.ne_of_gt hw13)
          have d4' := far_cell (k := k) (v := .int .i64 dk) d4 (Nat.ne_of_gt hw13)
          have v0' := far_cell (k := k) (v := .int .i64 dk) v0 (Nat.ne_of_lt hw3r)
          have v1' := far_cell (k := k) (v := .int .i64 dk) v1 (Nat.ne_of_lt hw3r)
          have v2' := far_cell (k := k) (v := .int .i64 dk) v2 (Nat.ne_of_lt hw3r)
          have own' := (HO2.out.stored k (.int .i64 dk)).1.drew
          rw [← HDK.out, rowK_set _ _ _ hlt, HDK.out] at own'
          have c1' : (u.setCell ⟨w3.heap.size, k, none⟩ (.int .i64 dk)).drew.cell? ⟨w3.heap.size, k, none⟩ = some (.int .i64 dk) := World.cell?_setCell_same _ _ _ c1
          have hb2 : Below w3.heap.size w3 (u.setCell ⟨w3.heap.size, k, none⟩ (.int .i64 dk)).drew := (hbu.setCell (Nat.le_refl _) _).drew
          clear d0 d1 d2 d3 d4 v0 v1 v2 c1 f1 hbu HO2 HO r1 hbl hp'
          generalize (u.setCell ⟨w3.heap.size, k, none⟩ (.int .i64 dk)).drew = u2 at *
          have OWN : Hid (u2.ownsRow w3.heap.size 3 1 (.slice (some ⟨w3.heap.size, 0, none⟩) xs.length xs.length) xs.length (cellsI (rowK (fr m o) xs.length (k + 1)))) := own'
          clear own'
          replace d0' := fun d os => cell_regrown d0' d os
          replace d1' := fun d os => cell_regrown d1' d os
          replace d2' := fun d os => cell_regrown d2' d os
          replace d3' := fun d os => cell_regrown d3' d os
          replace d4' := fun d os => cell_regrown d4' d os
          replace v0' := fun d os => cell_regrown v0' d os
          replace v1' := fun d os => cell_regrown v1' d os
          replace v2' := fun d os => cell_regrown v2' d os
          replace c1' := fun d os => cell_regrown c1' d os
          go_wp2_with fail
          refine wp_region_quiet_below (by assumption) (by kernel_rfl) ?_
          repeat (quiet_step (first | (go_at_call 29; with_reducible exact Calls.regrown_of (hL _))))
          refine wpQuiet_nil ?_
          intro _ hw'
          obtain ⟨⟨dq, osq⟩, hw''⟩ := hw'
          subst hw''
          have hbq := below_regrown u2 dq osq
          have OWN2 : Hid ((grow (redrawn u2 dq) osq).ownsRow w3.heap.size 3 1 (.slice (some ⟨w3.heap.size, 0, none⟩) xs.length xs.length) xs.length (cellsI (rowK (fr m o) xs.length (k + 1)))) := own_later OWN.out hbq
          replace hb2 := below_next hb2 hbq
          cases tb
          · go_wp2
            refine bodyPost_ret (v := .tuple #[.slice none 0 0, .bool false]) (by simp [results, Tryd.f18, go_sem]) rfl ?_
            exact outs_no (by rw [HF.out, outsOK_no hlt HE.out]; rfl) (below_next hbw hb2)
          · go_wp2
            go_roundw
            case rel =>
              refine ⟨k + 1, by omega, by go_num, OWN2.out, hb2, fun i hi => ?_⟩
              by_cases e : i = k
              · subst e; exact HE.out
              · exact HA.out i (by omega)
            case measure => simp [intOf]; omega
        · have e : k = xs.length := by omega
          subst e
          go_wp2
          refine bodyPost_ret (v := .tuple #[.slice (some ⟨w3.heap.size, 0, none⟩) xs.length xs.length, .bool true]) (by simp [results, Tryd.f18, go_sem]) rfl ?_
          have hok := outsOK_all HM.out HA.out
          refine ⟨_, by rw [HF.out, hok]; rfl, ?_, below_next hbw hb⟩
          rw [if_pos HF.out]
          unfold outsL
          rw [if_pos hok, ← rowK_all]
          have h := HO.out
          exact isl_rowK h
end Go.Proofs.YtpboleifllcehaaDoor
