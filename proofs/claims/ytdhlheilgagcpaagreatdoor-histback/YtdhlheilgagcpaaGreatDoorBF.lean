/- The contracts of the reader's time, value, taken, model. Conditions: the reader lies in memory, its words are at most 2^62 bytes; for the last one, the table of words. The table of the types' words; the contract of the reader's kind. Conditions: the reader and the table lie in memory. Events; an event as it lies in memory; what the reader makes of words: the model and what is done, what is handed in. No conditions. -/
import Derived.Test.YtdhlheilgagcpaaGreatDoorBE
import Derived.Test.YtdhlheilgagcpaaGreatDoorBP
import Derived.Test.YtdhlheilgagcpaaGreatDoorSC
import Derived.Test.YtdhlheilgagcpaaGreatDoorSP
import Derived.Test.YtdhlheilgagcpaaGreatDoorBD
import Derived.OrdersHeld
namespace Go.Proofs.YtdhlheilgagcpaaGreatDoor
open Go.RowKit Go.PlainAid Ln
set_option linter.unusedVariables false
set_option linter.unusedSimpArgs false

/-- no word is longer than any string -/
def Sm (L : List (List UInt8)) : Prop := ∀ x ∈ L, x.length ≤ 4611686018427387904
theorem Sm.tail {L : List (List UInt8)} (h : Sm L) : Sm L.tail := fun x hx => h x (List.mem_of_mem_tail hx)
theorem Sm.hd {L : List (List UInt8)} (h : Sm L) : (hdW L).size ≤ 4611686018427387904 := by
  cases L with
  | nil => exact Nat.zero_le _
  | cons x xs => exact h x (by simp)
/-- a word as a value -/
def vOf (L : List (List UInt8)) : Val := ((parR (hdW L)).1, (parR (hdW L)).2.1, (parR (hdW L)).2.2.1)
/-- how a method that answers ends -/
def RAns (w : World) (p : Nat) (v : Value) (L : List (List UInt8)) (f : Int) (e : Ending) (w' : World) : Prop := e = .returned v ∧ Rdr w' p L f ∧ Oth p p w w'

theorem rd_time (p : Nat) (L : List (List UInt8)) (f : Int) (w : World) (h : Rdr w p L f) (hs : Sm L) :
    Calls Tryz.prog 49 #[.pointer (some ⟨p, 0, none⟩)] w fun en w' => RAns w p (.int .i64 (cntR (hdW L) 9223372036854775807).1) L.tail (kp f (cntR (hdW L) 9223372036854775807).2) en w' := by
  have hz := hs.hd
  have hN := wd_next p L f w h
  have hC := fun w => count_any (hdW L) 9223372036854775807 w hz (by decide) (by decide)
  clear h
  generalize cntR (hdW L) 9223372036854775807 = r at *
  go_enter Tryz.func49, Tryz.ntmps49
  go_wp2_with fail
  refine hN.mono ?_
  rintro e w1 ⟨rfl, h1, o1⟩
  go_wp2_with fail
  refine (hC _).mono ?_
  rintro e w2 ⟨rfl, b2⟩
  go_wp2_with fail
  refine (rd_keep p _ f r.2 _ (h1.later b2)).mono ?_
  rintro e w3 ⟨rfl, h3, o3⟩
  go_wp2
  go_ret
  exact ⟨rfl, h3, (o1.trans (.of_below b2)).trans o3⟩
theorem sizeV : (Tryz.prog.info? 34).map (·.size) = some 3 := by kernel_rfl
theorem sizeE : (Tryz.prog.info? 37).map (·.size) = some 14 := by kernel_rfl
/-- a value's cells as a list -/
abbrev vls (k n : Int) (s : ByteArray) : List Value := [.int .i64 k, .int .i64 n, .string s]
theorem vls_one (k n : Int) (s : ByteArray) : ∀ v ∈ vls k n s, v.oneCell' = true := by
  intro v hv; simp only [vls, List.mem_cons, List.not_mem_nil, or_false] at hv; rcases hv with rfl | rfl | rfl <;> rfl
set_option maxHeartbeats 1000000 in
theorem rd_value (p : Nat) (L : List (List UInt8)) (f : Int) (w : World) (h : Rdr w p L f) (hs : Sm L) :
    Calls Tryz.prog 54 #[.pointer (some ⟨p, 0, none⟩)] w fun en w' => RAns w p (.agg #[.int .i64 (vOf L).1, .int .i64 (vOf L).2.1, .string (vOf L).2.2]) L.tail (kp f (parR (hdW L)).2.2.2) en w' := by
  have hz := hs.hd
  have hC := fun w => vparse_any (hdW L) w hz
  unfold ansV at hC
  have h0 : Rdr (w.alloc (.cells #[.int .i64 0, .int .i64 0, .string ⟨#[]⟩] 34)) p L f := h.later (below_more (Below.refl _ _) _)
  have hN := wd_next p L f _ h0
  have B0 := Blk.new w (vls 0 0 ⟨#[]⟩) 34
  have hp := h.lt
  have O0 : Oth p p w (w.alloc (.cells #[.int .i64 0, .int .i64 0, .string ⟨#[]⟩] 34)) := .of_below (below_more (Below.refl _ _) _)
  clear h h0
  simp only [vOf]
  generalize parR (hdW L) = r at *
  obtain ⟨rk, rn, rs, re⟩ := r
  simp only at hC ⊢
  go_enter Tryz.func54, Tryz.ntmps54
  go_wp2_with fail
  refine hN.mono ?_
  rintro e w1 ⟨rfl, h1, o1⟩
  go_wp2_with fail
  refine (hC _).mono ?_
  rintro e w2 ⟨rfl, b2⟩
  have B1 : Blk w2 w.heap.size (vls 0 0 ⟨#[]⟩) 34 := (B0.oth o1 (by omega) (by omega)).later b2
  have h2 : Rdr w2 p L.tail f := h1.later b2
  have hp2 := h2.lt
  have hq2 := B1.lt
  have O2 : Oth p p w w2 := (O0.trans o1).trans (.of_below b2)
  clear hN B0 O0 h1 o1 b2
  go_wp2_with fail
  have B3 := Blk.new w2 (vls rk rn rs) 34
  have B2 : Blk (w2.alloc (.cells (vls rk rn rs).toArray 34)) w.heap.size (vls 0 0 ⟨#[]⟩) 34 := B1.alloc _
  refine (rd_keep p _ f re _ (h2.later (below_more (Below.refl _ _) _))).mono ?_
  rintro e w3 ⟨rfl, h3, o3⟩
  have B4 := B3.oth o3 (by omega) (by omega)
  have B5 := B2.oth o3 (by omega) (by omega)
  have O3 : Oth p p w w3 := (O2.trans (.of_below (below_more (Below.refl _ _) _))).trans o3
  clear B1 B2 B3 O2 o3 h2
  go_wp2_with (first
    | ((with_reducible refine wp_loadB 34 (.tmp 3) w2.heap.size 0 (vls rk rn rs) (vls rk rn rs) 34 _ Tryz.underlying34 ?_ ?_ ?_ ?_ B4 (fun j v hv => by rw [Nat.zero_add]; exact hv) ?_); (exact rfl); (exact sizeV); (exact ⟨rfl, rfl⟩); (exact rfl))
    | ((with_reducible refine wp_storeB 34 (.tmp 2) (.tmp 16) w.heap.size 0 (vls rk rn rs) (vls 0 0 ⟨#[]⟩) 34 ?_ ?_ (vls_one _ _ _) ?_ ?_ ?_ B5 ?_); (exact sizeV); (exact Nat.le_refl 3); (exact ⟨rfl, rfl⟩); (exact rfl); (exact rfl); (intro w4 B6 o4)))
  replace B6 : Blk w4 w.heap.size (vls rk rn rs) 34 := by simpa using B6
  refine ret_blk rfl w.heap.size (vls rk rn rs) 34 _ Tryz.underlying34 rfl sizeV rfl B6 rfl ⟨rfl, h3.oth o4 (by omega), O3.step o4 (Nat.le_refl _)⟩
/-- what a domain is told: the value, and the fault with it -/
def tkF (d f : Int) (L : List (List UInt8)) : Int := kp (kp f (parR (hdW L)).2.2.2) (mf (takesB d (parR (hdW L)).1 (parR (hdW L)).2.1 (parR (hdW L)).2.2.1))
theorem parR_sz {s : ByteArray} {m : Nat} (h : s.size ≤ m) : (parR s).2.2.1.size ≤ m := by
  have : (parR s).2.2.1 = noB ∨ (parR s).2.2.1 = s := by
    unfold parR; repeat' split
    all_goals simp
  rcases this with h' | h'
  · rw [h']; exact Nat.zero_le _
  · rw [h']; exact h
set_option maxHeartbeats 1000000 in
theorem rd_taken (p : Nat) (L : List (List UInt8)) (f d : Int) (w : World) (h : Rdr w p L f) (hs : Sm L) :
    Calls Tryz.prog 50 #[.pointer (some ⟨p, 0, none⟩), .int .i64 d] w fun en w' => RAns w p (.agg #[.int .i64 (vOf L).1, .int .i64 (vOf L).2.1, .string (vOf L).2.2]) L.tail (tkF d f L) en w' := by
  have h0 : Rdr (w.alloc (.cells #[.int .i64 0, .int .i64 0, .string ⟨#[]⟩] 34)) p L f := h.later (below_more (Below.refl _ _) _)
  have hN := rd_value p L f _ h0 hs
  have hz := parR_sz hs.hd
  have B0 := Blk.new w (vls 0 0 ⟨#[]⟩) 34
  have hp := h.lt
  have O0 : Oth p p w (w.alloc (.cells #[.int .i64 0, .int .i64 0, .string ⟨#[]⟩] 34)) := .of_below (below_more (Below.refl _ _) _)
  clear h h0
  unfold tkF
  simp only [vOf] at hN ⊢
  generalize parR (hdW L) = r at *
  obtain ⟨rk, rn, rs, re⟩ := r
  simp only at hN hz ⊢
  have hT := fun w => takes_any d rk rn rs w hz
  generalize takesB d rk rn rs = tb at *
  go_enter Tryz.func50, Tryz.ntmps50
  go_wp2_with fail
  refine hN.mono ?_
  rintro e w2 ⟨rfl, h2, o1⟩
  have B1 : Blk w2 w.heap.size (vls 0 0 ⟨#[]⟩) 34 := B0.oth o1 (by omega) (by omega)
  have hp2 := h2.lt
  have hq2 := B1.lt
  have O2 : Oth p p w w2 := O0.trans o1
  clear hN B0 O0 o1
  have B3 := Blk.new w2 (vls rk rn rs) 34
  have B2 : Blk (w2.alloc (.cells (vls rk rn rs).toArray 34)) w.heap.size (vls 0 0 ⟨#[]⟩) 34 := B1.alloc _
  have H2 : Rdr (w2.alloc (.cells (vls rk rn rs).toArray 34)) p L.tail (kp f re) := h2.later (below_more (Below.refl _ _) _)
  have O3 : Oth p p w (w2.alloc (.cells (vls rk rn rs).toArray 34)) := O2.trans (.of_below (below_more (Below.refl _ _) _))
  clear B1 O2 h2
  go_wp2_with fail
  refine (hT _).mono ?_
  rintro e w3 ⟨rfl, b3⟩
  replace B3 := B3.later b3
  replace B2 := B2.later b3
  replace H2 := H2.later b3
  replace O3 := O3.trans (.of_below b3)
  clear b3
  go_wp2_with fail
  refine (rd_must p _ _ tb _ H2).mono ?_
  rintro e w4 ⟨rfl, h4, o4⟩
  have B4 := B3.oth o4 (by omega) (by omega)
  have B5 := B2.oth o4 (by omega) (by omega)
  have O4 := O3.trans o4
  clear B3 B2 H2 O3 o4
  go_wp2_with (first
    | ((with_reducible refine wp_loadB 34 (.tmp 5) w2.heap.size 0 (vls rk rn rs) (vls rk rn rs) 34 _ Tryz.underlying34 ?_ ?_ ?_ ?_ B4 (fun j v hv => by rw [Nat.zero_add]; exact hv) ?_); (exact rfl); (exact sizeV); (exact ⟨rfl, rfl⟩); (exact rfl))
    | ((with_reducible refine wp_storeB 34 (.tmp 4) (.tmp 13) w.heap.size 0 (vls rk rn rs) (vls 0 0 ⟨#[]⟩) 34 ?_ ?_ (vls_one _ _ _) ?_ ?_ ?_ B5 ?_); (exact sizeV); (exact Nat.le_refl 3); (exact ⟨rfl, rfl⟩); (exact rfl); (exact rfl); (intro w5 B6 o5)))
  replace B6 : Blk w5 w.heap.size (vls rk rn rs) 34 := by simpa using B6
  refine ret_blk rfl w.heap.size (vls rk rn rs) 34 _ Tryz.underlying34 rfl sizeV rfl B6 rfl ⟨rfl, h4.oth o5 (by omega), O4.step o5 (Nat.le_refl _)⟩
/-- the model that a word is -/
def RMod (w : World) (p : Nat) (L : List (List UInt8)) (f : Int) (e : Ending) (w' : World) : Prop :=
  ∃ a : Nat, e = .returned (.int .i64 (a : Int)) ∧ IsW mn 11 (hdW L) a ∧ Rdr w' p L.tail (kp f (mf (decide (0 < a)))) ∧ Oth p p w w'
theorem rd_model (p : Nat) (L : List (List UInt8)) (f : Int) (w w0 : World) (h : Rdr w p L f) (hm : Wt w0 1 11 mn) (h0 : Below w0.heap.size w0 w) (hp : w0.heap.size ≤ p) :
    Calls Tryz.prog 73 #[.pointer (some ⟨p, 0, none⟩)] w fun en w' => RMod w p L f en w' := by
  have hN := wd_next p L f w h
  clear h
  go_enter Tryz.func73, Tryz.ntmps73
  go_wp2_with fail
  refine hN.mono ?_
  rintro e w1 ⟨rfl, h1, o1⟩
  have hm1 : Wt w1 1 11 mn := hm.later (below_oth h0 o1 hp hp h0.size)
  go_wp2_with fail
  refine (model_any (hdW L) _ hm1).mono ?_
  rintro e w2 ⟨a, rfl, ha, hal, b2⟩
  have e2 : decide ((0 : Int) < (a : Int)) = decide (0 < a) := by
    by_cases h : 0 < a
    · rw [decide_eq_true h, decide_eq_true (by omega)]
    · rw [decide_eq_false h, decide_eq_false (by omega)]
  rw [e2]
  go_wp2_with fail
  refine (rd_must p _ f (decide (0 < a)) _ (h1.later b2)).mono ?_
  rintro e w3 ⟨rfl, h3, o3⟩
  go_wp2
  go_ret
  refine ⟨a, rfl, ha, ?_, (o1.trans (.of_below b2)).trans o3⟩
  exact h3
end Go.Proofs.YtdhlheilgagcpaaGreatDoor
namespace Go.Proofs.YtdhlheilgagcpaaGreatDoor
open Go.RowKit Go.PlainAid Ln
set_option linter.unusedVariables false
set_option linter.unusedSimpArgs false

/-- the types' words -/
def tn (k : Int) : ByteArray := if k = 1 then ⟨#[105, 110, 118, 111, 107, 101]⟩ else if k = 2 then ⟨#[111, 107]⟩ else if k = 3 then ⟨#[102, 97, 105, 108]⟩ else if k = 4 then ⟨#[105, 110, 102, 111]⟩ else ⟨#[]⟩
theorem apart_t : apart tn 5 = true := by kernel_rfl
theorem run_idxK (k : Nat) (hk : k < 5) (w : World) : (Instr.index 73 (.agg (cellsW tn 5).toArray) (.int .i64 (k : Int))).run Tryz.prog w = .ok (.string (tn (k : Int))) w := by
  have hc := cellsW_at tn 5 k hk
  have hl := cellsW_len tn 5
  have hE : (0 : Int) ≤ (k : Int) ∧ (k : Int) < 5 := by omega
  have u := Tryz.underlying73
  have a5 := Tryz.isAgg9
  have z5 := Tryz.sizeOf9
  simp [Instr.index, run_underlying u, asIntOf, hE, go_sem, a5, z5, hk, hc, hl]
  exact (List.getElem?_eq_some_iff.1 hc).2
/-- the type that a word is -/
def RKind (w : World) (p : Nat) (L : List (List UInt8)) (f : Int) (e : Ending) (w' : World) : Prop :=
  ∃ a : Nat, e = .returned (.int .i64 (a : Int)) ∧ IsW tn 5 (hdW L) a ∧ Rdr w' p L.tail (kp f (mf (decide (0 < a)))) ∧ Oth p p w w'
set_option maxHeartbeats 2000000 in
theorem rd_kind (p : Nat) (L : List (List UInt8)) (f : Int) (w w0 : World) (h : Rdr w p L f) (hm : Wt w0 0 5 tn) (h0 : Below w0.heap.size w0 w) (hp : w0.heap.size ≤ p) :
    Calls Tryz.prog 51 #[.pointer (some ⟨p, 0, none⟩)] w fun en w' => RKind w p L f en w' := by
  have hN := wd_next p L f w h
  clear h
  unfold RKind
  generalize hdW L = s at *
  go_enter Tryz.func51, Tryz.ntmps51
  go_wp2_with fail
  refine hN.mono ?_
  rintro e w1 ⟨rfl, h1, o1⟩
  have hm1 : Wt w1 0 5 tn := hm.later (below_oth h0 o1 hp hp h0.size)
  have HR : Hid (w1.rangeAt 0 0 (cellsW tn 5)) := hm1.1
  have H1 : Hid (Rdr w1 p L.tail f) := h1
  have O1 : Hid (Oth p p w w1) := o1
  clear hm1 hm h0 hN h1 o1
  go_wp2_with ((with_reducible refine wpList_load_mid ?_ 73 (.global 0) ?_ 0 0 ?_ (cellsW tn 5) _ HR.out Tryz.underlying73 rfl (by rw [cellsW_len]; kernel_rfl) ?_); (exact rfl); (exact rfl); (exact rfl))
  have HI : Hid (∀ k, k < 5 → ∀ w, (Instr.index 73 (.agg (cellsW tn 5).toArray) (.int .i64 ((k : Nat) : Int))).run Tryz.prog w = .ok (.string (tn (k : Int))) w) := fun k hk w => run_idxK k hk w
  generalize (Value.agg (cellsW tn 5).toArray) = A at *
  go_loopw [11] (fun i wr => ∃ k : Nat, k ≤ 5 ∧ i = .int .i64 (k : Int) ∧ Below w1.heap.size w1 wr ∧ ∀ i : Nat, 0 < i → i < k → ((tn (i : Int)).toList == s.toList) = false) (fun i wr => 5 - (intOf i).toNat)
  case atStart => exact ⟨0, by omega, rfl, Below.refl _ _, fun i h0 h => by omega⟩
  case round =>
    obtain ⟨k, hk, rfl, hb, hall⟩ := hrel
    have HA : Hid (∀ i : Nat, 0 < i → i < k → ((tn (i : Int)).toList == s.toList) = false) := hall
    clear hall
    by_cases hlt : k < 5
    · have hlt' : (k : Int) < 5 := by omega
      have hx := HI.out k hlt
      have HE : Hid (∃ b, ((tn (k : Int)).toList == s.toList) = b) := ⟨_, rfl⟩
      obtain ⟨b, hb'⟩ := HE.out
      have HE' : Hid (((tn (k : Int)).toList == s.toList) = b) := hb'
      generalize tn (k : Int) = t at hx hb'
      cases b
      · go_wp2
        go_roundw
        case rel =>
          refine ⟨k + 1, by omega, by go_num, hb, fun i h0 hi => ?_⟩
          by_cases e : i = k
          · subst e; exact HE'.out
          · exact HA.out i h0 (by omega)
        case measure => simp [intOf]; omega
      · by_cases hk0 : k = 0
        · subst hk0
          have hx0 : ∀ w, (Instr.index 73 A (.int .i64 0)).run Tryz.prog w = .ok (.string t) w := hx
          clear hx hlt' hlt hk HI
          go_wp2
          go_roundw
          case rel => exact ⟨1, by omega, by go_num, hb, fun i h0 hi => by omega⟩
          case measure => simp [intOf]
        · have hk1 : ((k : Int) != 0) = true := by simp [hk0]
          go_wp2
          go_ret
          refine ⟨k, rfl, .inl ⟨hlt, HE'.out⟩, ?_, O1.out.trans (.of_below hb)⟩
          rw [decide_eq_true (show 0 < k by omega), show kp f (mf true) = f from kp_zero f]
          exact H1.out.later hb
    · have e : k = 5 := by omega
      subst e
      go_wp2_with fail
      refine (rd_keep p _ f 2 _ (H1.out.later hb)).mono ?_
      rintro e w3 ⟨rfl, h3, o3⟩
      go_wp2
      go_ret
      refine ⟨0, rfl, ?_, h3, (O1.out.trans (.of_below hb)).trans o3⟩
      by_cases hs : ((tn ((0 : Nat) : Int)).toList == s.toList) = true
      · exact .inl ⟨by omega, hs⟩
      · refine .inr ⟨rfl, fun i hi => ?_⟩
        by_cases e : i = 0
        · subst e; exact Bool.eq_false_iff.2 hs
        · exact HA.out i (by omega) hi
end Go.Proofs.YtdhlheilgagcpaaGreatDoor
namespace Go.Proofs.YtdhlheilgagcpaaGreatDoor
open Go.RowKit Go.PlainAid Ln
set_option linter.unusedVariables false
set_option linter.unusedSimpArgs false

/-- an event: time, client, type, model, key, what is done, what is handed in, what comes out, the note -/
structure Ev where
  t : Int
  c : Val
  y : Int
  m : Int
  k : Val
  o : Int
  a : List Val
  r : List Val
  nd : Bool
  n : ByteArray
def noEv : Ev := ⟨0, (0, 0, noB), 0, 0, (0, 0, noB), 0, [], [], false, noB⟩
/-- its cells; va and vr: the two slices -/
def evC (x : Ev) (va vr : Value) : List Value :=
  [.int .i64 x.t, .int .i64 x.c.1, .int .i64 x.c.2.1, .string x.c.2.2, .int .i64 x.y, .int .i64 x.m, .int .i64 x.k.1, .int .i64 x.k.2.1, .string x.k.2.2, .int .i64 x.o, va, vr, .bool x.nd, .string x.n]
theorem evC_len (x : Ev) (va vr : Value) : (evC x va vr).length = 14 := rfl
theorem evC_one (x : Ev) {va vr : Value} (h1 : va.oneCell' = true) (h2 : vr.oneCell' = true) : ∀ v ∈ evC x va vr, v.oneCell' = true := by
  intro v hv; simp only [evC, List.mem_cons, List.not_mem_nil, or_false] at hv
  rcases hv with rfl | rfl | rfl | rfl | rfl | rfl | rfl | rfl | rfl | rfl | rfl | rfl | rfl | rfl <;> first | rfl | assumption
/-- nothing yet -/
abbrev nilS : Value := .slice none 0 0

/-- the number of a word -/
def wI (f : Int → ByteArray) (n : Nat) (s : ByteArray) : Nat := ((List.range n).find? fun (i : Nat) => (f (i : Int)).toList == s.toList).getD 0
theorem isW_wI (f : Int → ByteArray) (n : Nat) (s : ByteArray) : IsW f n s (wI f n s) := by
  unfold wI
  cases h : (List.range n).find? fun (i : Nat) => (f (i : Int)).toList == s.toList with
  | none =>
    refine .inr ⟨rfl, fun i hi => ?_⟩
    have := List.find?_eq_none.1 h i (List.mem_range.2 hi)
    simpa using this
  | some a =>
    refine .inl ⟨?_, ?_⟩
    · have := List.mem_of_find?_eq_some h; exact List.mem_range.1 this
    · have := List.find?_some h; exact this
theorem isW_eq {f : Int → ByteArray} {n : Nat} (hf : apart f n = true) {s : ByteArray} {a : Nat} (h : IsW f n s a) : a = wI f n s := isW_one hf h (isW_wI f n s)

/-- the fault behind the first k domains; the first k values -/
def aF (ds : List Int) (f : Int) (L : List (List UInt8)) : Nat → Int
  | 0 => f
  | k + 1 => tkF (nth ds k) (aF ds f L k) (L.drop k)
def aV (L : List (List UInt8)) (n : Nat) : List Val := (List.range n).map fun i => vOf (L.drop i)
theorem aV_zero (L : List (List UInt8)) : aV L 0 = [] := rfl
theorem aV_succ (L : List (List UInt8)) (n : Nat) : aV L (n + 1) = aV L n ++ [vOf (L.drop n)] := by unfold aV; rw [List.range_succ, List.map_append]; rfl
theorem aV_len (L : List (List UInt8)) (n : Nat) : (aV L n).length = n := by simp [aV]
/-- the fault behind all values of a row -/
def rF (f : Int) (L : List (List UInt8)) : Nat → Int
  | 0 => f
  | k + 1 => kp (rF f L k) (parR (hdW (L.drop k))).2.2.2

/-! ### rows under a change of another block -/
theorem Oth.grown {p : Nat} {w w' : World} (h : Oth p p w w') : w.grownBy w' (some p) :=
  ⟨h.os, h.tape, h.output, h.size, fun j hj hn => h.block j hj (fun e => hn (by rw [e])) (fun e => hn (by rw [e]))⟩
theorem OwnV.oth {w w' : World} {B p : Nat} {v : Value} {xs : List Val} {c : List Value} {t : TypeId} (h : OwnV w B v xs) (ho : Oth p p w w') (hb : Blk w p c t) (ht : t ≠ 34) : OwnV w' B v xs :=
  World.ownsRow.kept h ho.grown (.inr (hb.not_row ht h).symm)
theorem oth_grown {p q : Nat} {a b c : World} {B : Nat} {v : Value} {xs : List Val} (h : Oth p q a b) (hv : OwnV b B v xs) (hg : b.grownBy c v.ownBlock) (hB : a.heap.size ≤ B) : Oth p q a c := by
  refine ⟨hg.os.trans h.os, hg.tape.trans h.tape, hg.output.trans h.output, Nat.le_trans h.size hg.size, fun j hj h1 h2 => ?_⟩
  refine (hg.block j (Nat.lt_of_lt_of_le hj h.size) (fun e => ?_)).trans (h.block j hj h1 h2)
  have := (hv.lt j e.symm).1
  omega
theorem Rdr.blk {w : World} {p : Nat} {L : List (List UInt8)} {f : Int} (h : Rdr w p L f) : ∃ c, Blk w p c 69 := by obtain ⟨v, h, _⟩ := h; exact ⟨_, h⟩
theorem SSl.kept {w w' : World} {v : Value} {xs : List (List UInt8)} {row : Option Nat} {p : Nat} (h : SSl w v xs) (hl : LoB p v) (hg : w.grownBy w' row) (hr : ∀ g, row = some g → p < g) : SSl w' v xs := by
  obtain ⟨a, c, rfl, h3, h4, h5⟩ := h
  refine ⟨a, c, rfl, h3, h4, h5.imp id ?_⟩
  rintro ⟨b, o, rfl, hb, hc⟩
  have hlt : b < p := hl b rfl
  exact ⟨b, o, rfl, Nat.lt_of_lt_of_le hb hg.size, fun i hi => hg.cell (hc i hi) (fun e => by have := hr b e.symm; omega)⟩
theorem Rdr.kept {w w' : World} {p : Nat} {L : List (List UInt8)} {f : Int} {row : Option Nat} (h : Rdr w p L f) (hg : w.grownBy w' row) (hr : ∀ g, row = some g → p < g) : Rdr w' p L f := by
  obtain ⟨v, h1, h2, h3⟩ := h
  exact ⟨v, h1.kept hg (fun e => by have := hr p e.symm; omega), SSl.kept h2 h3 hg hr, h3⟩
theorem ISl.oth {w w' : World} {v : Value} {xs : List Int} {p q : Nat} (h : ISl w v xs) (ho : Oth p q w w') (hn : ∀ g, v.ownBlock = some g → g ≠ p ∧ g ≠ q) : ISl w' v xs := by
  obtain ⟨a, c, rfl, h3, h4, h5⟩ := h
  refine ⟨a, c, rfl, h3, h4, h5.imp id ?_⟩
  rintro ⟨b, o, rfl, hb, hc⟩
  obtain ⟨n1, n2⟩ := hn b rfl
  refine ⟨b, o, rfl, Nat.lt_of_lt_of_le hb ho.size, fun i hi => ?_⟩
  have e : w'.heap[b]? = w.heap[b]? := ho.block b hb n1 n2
  have := hc i hi
  unfold World.cell? at this ⊢
  rw [e]; exact this
/-- a value in a new block, as a row of one -/
theorem vsl_one (w : World) (x : Val) : VSl (w.alloc (.cells (encV x).toArray 34)) (.slice (some ⟨w.heap.size, 0, none⟩) 1 1) [x] := by
  have hg : (w.alloc (.cells (encV x).toArray 34)).heap[w.heap.size]? = some (.cells (encV x).toArray 34 (0, 0)) := World.alloc_heap_new w _
  refine ⟨_, 1, rfl, Nat.le_refl _, by omega, .inr ⟨_, 0, rfl, (Array.getElem?_eq_some_iff.1 hg).1, fun i hi => ?_⟩⟩
  have e : i = 0 := by simp at hi; exact hi
  subst e
  exact ⟨(cell_of_row _ _ _ _ _ _ hg).trans rfl, (cell_of_row _ _ _ _ _ _ hg).trans rfl, (cell_of_row _ _ _ _ _ _ hg).trans rfl⟩
/-- append of one value, laid in a block of its own, to a row that the call owns -/
theorem wp_appendV1 {o : Oper} {a : Act} {w : World} {K : Act → World → Prop} {Q : Exit → Act → World → Prop} (s x : Operand)
    (ho : o.op = .call { callee := .builtin .append, args := #[s, x], argTypes := #[35, 35] }) (B : Nat) (v : Value) (xs : List Val) (hs : a.eval s = v) (hown : OwnV w B v xs)
    (g0 : Nat) (y : Val) (hx : a.eval x = .slice (some ⟨g0, 0, none⟩) 1 1) (hu : VSl w (.slice (some ⟨g0, 0, none⟩) 1 1) [y]) (hlen : xs.length + 1 ≤ 1000000) (hbase : B ≤ w.heap.size)
    (h : ∀ g cap w', OwnV w' B (.slice (some ⟨g, 0, none⟩) (xs.length + 1) cap) (xs ++ [y]) → w.grownBy w' v.ownBlock → K (a.put o.dst (.slice (some ⟨g, 0, none⟩) (xs.length + 1) cap)) w') : o.wp Tryz.prog a w K Q := by
  obtain ⟨i0, hi, hz0, hz1, hz2⟩ := info_parts infoV
  unfold OwnV at hown h
  refine wp_append_lies _ s x 35 ho B 34 i0 (.agg #[.int .i64 0, .int .i64 0, .string ⟨#[]⟩]) 3 32 Tryz.underlying35 hi hz0 hz1 hz2 rfl (by decide) v xs.length (cellsV xs) hs hown ⟨g0, 0, none⟩ 1 1 (cellsV [y]) hx (cellsV_len [y]) (vsl_cells hu) (cellsV_one _) (by omega) (by unfold maxLen; omega) (by omega) hbase _ rfl ?_
  intro g cap w' hown' hgrow _ _
  refine h g cap w' ?_ hgrow
  rw [cellsV_app, List.length_append]; exact hown'
theorem OwnV.base {w : World} {B B' : Nat} {v : Value} {xs : List Val} (h : OwnV w B v xs) (hB : B' ≤ B) : OwnV w B' v xs := by
  obtain ⟨h1, h2⟩ := h
  refine ⟨h1, h2.imp id ?_⟩
  rintro ⟨g, cap, cur, e, hb, r⟩
  exact ⟨g, cap, cur, e, Nat.le_trans hB hb, r⟩
theorem OwnV.form {w : World} {B : Nat} {v : Value} {xs : List Val} (h : OwnV w B v xs) : ∃ a c, v = .slice a xs.length c := by
  obtain ⟨a, c, hv, _⟩ := h.vsl.form; exact ⟨a, c, hv⟩

/-! ### regions that draw their order -/
/-- any world -/
def AnyW (w : World) : Prop := w = w
theorem anyW (w : World) : AnyW w := rfl
theorem takeH {P : Program} {ops : Array Oper} {Q : Exit → Act → World → Prop} {md : Region.Mode} {S : World → Prop} (i d : Nat) (v : Value) {oi : Oper} {fuel : Nat} {listed : Array Bool} {tm : Array Value} {df : List Deferred} {w : World} (hi : ops[i]? = some oi) (hd : oi.dst = some d)
    (hs : Region.noSelect ops = true) (hf : Region.free md ops listed i = true) (hr : (Region.ready md ops listed).contains i = true)
    (hQ : ∀ c a w, Q (.panic c) (a.put (some d) v) w → Q (.panic c) a w) (hy : YieldsIf P ops S oi v ⟨tm, df⟩) (hS : S w)
    (h : wpAnyH P md ops Q S fuel (listed.setIfInBounds i true) ⟨tm.setIfInBounds d v, df⟩ w) : wpAnyH P md ops Q S (fuel + 1) listed ⟨tm, df⟩ w := by
  refine wpAnyH_take hi hs hf hr (by rw [hd]; exact hQ) hy hS ?_
  rw [hd]
  exact h
theorem wpOp_doG {P : Program} {ops : Array Oper} {Q : Exit → Act → World → Prop} {K : Act → World → Prop} {a : Act} {w : World} {o : Oper} (i : Nat) (ho : ops[i]? = some o) (hg : Region.wanted o (yielded ops a.tmps) = true) (h : o.wp P a w K Q) : wpOp P ops Q i K a w := by
  unfold wpOp
  rw [ho]
  show if Region.wanted o (yielded ops a.tmps) then _ else _
  rw [if_pos hg]
  exact .inl h
end Go.Proofs.YtdhlheilgagcpaaGreatDoor
