/- The contract of the document's Print. Conditions: the event's lists lie in memory; the event's numbers are of 64 bits, its texts at most 2^62 bytes, its values few enough. The contract of the document's Print. Conditions: the event's lists lie in memory; the event's numbers are of 64 bits, its texts at most 2^62 bytes, its values few enough. -/
import Derived.Test.YtdhlheilgagcpaaGreatDoorRE
import Derived.Test.YtdhlheilgagcpaaGreatDoorRF
namespace Go.Proofs.YtdhlheilgagcpaaGreatDoor
open Go.RowKit Go.PlainAid Ln
set_option linter.unusedVariables false
set_option linter.unusedSimpArgs false

theorem yieldsIf_addS {P : Program} {ops : Array Oper} {S : World → Prop} {op : Oper} {a : Act} (hw : Region.wanted op (yielded ops a.tmps) = true) (t t2 : TypeId) (x y : Operand) (ho : op.op = .binOp .add t x y t2)
    (l r : ByteArray) (hx : a.eval x = .string l) (hy : a.eval y = .string r) (hz : l.size + r.size ≤ 9223372036854775807) : YieldsIf P ops S op (.string (l ++ r)) a :=
  .inl ⟨hw, fun w _ => by
    unfold execOp
    simp only [ho, hx, hy]
    simp [eqGuard, binOp_string_add, run_string_add_sum _ l r hz]⟩
theorem l0_mem {x : Ev} : ∀ l ∈ l0 x, l ∈ wds x := by
  intro l hl
  unfold l0 at hl
  unfold wds
  simp only [List.mem_cons, List.mem_append] at hl ⊢
  rcases hl with h | h | h | h
  · exact .inl h
  · exact .inr (.inl h)
  · exact .inr (.inr (.inl h))
  · exact .inr (.inr (.inr (.inl h)))
theorem a_mem {x : Ev} (k : Nat) : ∀ l ∈ (x.a.take k).map pv, l ∈ wds x := by
  intro l hl
  obtain ⟨v, hv, rfl⟩ := List.mem_map.1 hl
  have h : pv v ∈ x.a.map pv := List.mem_map.2 ⟨v, List.mem_of_mem_take hv, rfl⟩
  unfold wds
  simp only [List.mem_cons, List.mem_append]
  exact .inr (.inr (.inr (.inr (.inl h))))
theorem r_mem {x : Ev} (k : Nat) : ∀ l ∈ (x.r.take k).map pv, l ∈ wds x := by
  intro l hl
  obtain ⟨v, hv, rfl⟩ := List.mem_map.1 hl
  have h : pv v ∈ x.r.map pv := List.mem_map.2 ⟨v, List.mem_of_mem_take hv, rfl⟩
  unfold wds
  simp only [List.mem_cons, List.mem_append]
  exact .inr (.inr (.inr (.inr (.inr h))))
theorem l0_len (x : Ev) : (l0 x).length ≤ 6 := by
  unfold l0
  simp only [List.length_cons]
  split <;> simp
theorem pre_len {x : Ev} (h : rightE x = true) (hb : bdE x) (W : List (List UInt8)) (hW : ∀ l ∈ W, l ∈ wds x) (hn : W.length ≤ 1000000) : (Lib.join W [32]).length ≤ 62000000 := by
  have h1 := join_len W fun l hl => (wds_len h hb).1 l (hW l hl)
  have : W.length * (61 + 1) ≤ 1000000 * 62 := Nat.mul_le_mul_right _ hn
  omega
theorem pre_a {x : Ev} (h : rightE x = true) (hb : bdE x) (k : Nat) : (Lib.join (l0 x ++ (x.a.take k).map pv) [32]).length ≤ 62000000 := by
  refine pre_len h hb _ (fun l hl => ?_) ?_
  · rcases List.mem_append.1 hl with hl | hl
    · exact l0_mem l hl
    · exact a_mem k l hl
  · have h1 := l0_len x
    have h2 := a_len h
    simp only [List.length_append, List.length_map, List.length_take]; omega
theorem pre_r {x : Ev} (h : rightE x = true) (hb : bdE x) (hr : x.r.length ≤ 900000) (k : Nat) : (Lib.join (l0 x ++ x.a.map pv ++ (x.r.take k).map pv) [32]).length ≤ 62000000 := by
  refine pre_len h hb _ (fun l hl => ?_) ?_
  · rcases List.mem_append.1 hl with hl | hl
    · rcases List.mem_append.1 hl with hl | hl
      · exact l0_mem l hl
      · exact a_mem x.a.length l (by rw [List.take_of_length_le (Nat.le_refl _)]; exact hl)
    · exact r_mem k l hl
  · have h1 := l0_len x
    have h2 := a_len h
    simp only [List.length_append, List.length_map, List.length_take]; omega
theorem snoc_pv (W : List (List UInt8)) (zs : List Val) (k : Nat) (hk : k < zs.length) (h : W ≠ []) : Lib.join (W ++ (zs.take (k + 1)).map pv) [32] = Lib.join (W ++ (zs.take k).map pv) [32] ++ [32] ++ pv (nv zs k) := by
  rw [take_pv zs k hk, ← List.append_assoc, join_snoc _ _ (by intro e; exact h (List.append_eq_nil_iff.1 e).1)]; simp
theorem l0_ne (x : Ev) : l0 x ≠ [] := by unfold l0; simp
theorem l0a_ne (x : Ev) : l0 x ++ x.a.map pv ≠ [] := fun e => l0_ne x (List.append_eq_nil_iff.1 e).1
theorem right_a {x : Ev} (h : rightE x = true) : ∀ i, i < x.a.length → rV (nv x.a i) = true := by
  intro i hi
  simp only [rightE, Bool.and_eq_true] at h
  have h4 := h.2
  unfold typB at h4
  split at h4
  · simp only [Bool.and_eq_true] at h4
    exact takes_rV ((fitsL_t h4.1.2.2).2 i hi)
  · split at h4
    · simp only [Bool.and_eq_true, nonB, decide_eq_true_eq] at h4
      have := h4.1.2.2.2.2.2; omega
    · split at h4
      · simp only [Bool.and_eq_true, nonB, decide_eq_true_eq] at h4
        have := h4.1.2.2.2.2.2; omega
      · cases h4
theorem right_r {x : Ev} (h : rightE x = true) : ∀ i, i < x.r.length → rV (nv x.r i) = true := by
  intro i hi
  simp only [rightE, Bool.and_eq_true] at h
  have h4 := h.2
  unfold typB at h4
  split at h4
  · simp only [Bool.and_eq_true, decide_eq_true_eq] at h4
    have := h4.2; omega
  · split at h4
    · simp only [Bool.and_eq_true] at h4
      exact all_rV h4.2 i hi
    · split at h4
      · simp only [Bool.and_eq_true, decide_eq_true_eq] at h4
        have := h4.2; omega
      · cases h4
set_option maxRecDepth 100000 in
set_option maxHeartbeats 8000000 in
theorem er_tail (x : Ev) (av ar : Option Addr) (cv cr : Nat) (w w1 wz : World) (p : Nat) (x4 x5 x6 x7 x8 x9 x10 x11 x12 x13 x14 x15 x16 x17 x18 x19 x20 x21 x22 x23 x24 x25 x26 x27 x28 x29 x30 x31 x32 x33 x34 x35 x36 x37 x38 x39 x40 x41 x42 x43 x44 x45 x46 x47 x48 x49 x50 x51 x52 x53 x54 x55 x56 x57 x58 x59 x60 x61 x62 x63 x64 x65 x66 x67 x68 x69 x70 x71 x72 x73 x74 x75 x76 x77 x78 x79 x80 x81 x82 x83 x84 x85 x86 : Value) (hB : Blk w1 p (evC x (.slice av x.a.length cv) (.slice ar x.r.length cr)) 37) (hw1 : Below w.heap.size w w1) (bel : Below w1.heap.size w1 wz)
    (h1 : VSl w1 (.slice av x.a.length cv) x.a) (h2 : VSl w1 (.slice ar x.r.length cr) x.r) (hz : SzE x) (hb : bdE x) (lr : x.r.length ≤ 900000) (hr : rightE x = true) :
    Code.wp Tryz.prog (sndD (sndD (sndD (sndD (Tryz.f18.body.getD .skip))))) (bodyPost Tryz.prog Tryz.f18 fun e w' => e = .returned (.string (bs (Lib.join (lst (l0 x) x) [32]))) ∧ Below w.heap.size w w') ⟨#[.agg (evC x (.slice av x.a.length cv) (.slice ar x.r.length cr)).toArray, .pointer (some ⟨p, 0, none⟩), .string ⟨#[]⟩, .string (bs (Lib.join (l0 x) [32])), x4, x5, x6, x7, x8, x9, x10, x11, x12, x13, x14, x15, x16, x17, x18, x19, x20, x21, x22, x23, x24, x25, x26, x27, x28, x29, x30, x31, x32, x33, x34, x35, x36, x37, x38, x39, x40, x41, x42, x43, x44, x45, x46, x47, x48, x49, x50, x51, x52, x53, x54, x55, x56, x57, x58, x59, x60, x61, x62, x63, x64, x65, x66, x67, x68, x69, x70, x71, x72, x73, x74, x75, x76, x77, x78, x79, x80, x81, x82, x83, x84, x85, x86], []⟩ wz := by
  obtain ⟨a0, a1, a2, a3, a4, a5, a6, a7, a8, a9, a10, a11, a12, a13⟩ := ev_cells (hB.later bel)
  have HB0 : Hid (Blk w1 p (evC x (.slice av x.a.length cv) (.slice ar x.r.length cr)) 37) := hB
  have Hw1 : Hid (Below w.heap.size w w1) := hw1
  have HBel0 : Hid (Below w1.heap.size w1 wz) := bel
  have H1 : Hid (VSl w1 (.slice av x.a.length cv) x.a) := h1
  have H2 : Hid (VSl w1 (.slice ar x.r.length cr) x.r) := h2
  have HZ : Hid (SzE x) := hz
  have Hb : Hid (bdE x) := hb
  have HR : Hid (rightE x = true) := hr
  have HLa : Hid (x.a.length ≤ 2) := a_len hr
  have HLr : Hid (x.r.length ≤ 900000) := lr
  have HLn : Hid (x.n.size ≤ 100) := right_n hr
  have HJa : Hid (∀ k, (Lib.join (l0 x ++ (x.a.take k).map pv) [32]).length ≤ 62000000) := pre_a hr hb
  have HJr : Hid (∀ k, (Lib.join (l0 x ++ x.a.map pv ++ (x.r.take k).map pv) [32]).length ≤ 62000000) := pre_r hr hb lr
  clear hB hw1 bel h1 h2 hz hb lr hr
  unfold Tryz.f18
  dsimp only [sndD, Option.getD]
  go_wp2
  go_loopw [3, 4] (fun s i w' => ∃ k : Nat, k ≤ x.a.length ∧ i = .int .i64 (k : Int) ∧ s = .string (bs (Lib.join (l0 x ++ (x.a.take k).map pv) [32])) ∧ Below w1.heap.size w1 w') (fun s i w' => x.a.length - (intOf i).toNat)
  case atStart => exact ⟨0, by omega, rfl, by simp, HBel0.out⟩
  case round =>
    obtain ⟨k, hk, rfl, rfl, hbr⟩ := hrel
    have HBr : Hid (Below w1.heap.size w1 wr) := hbr
    have HBk : Hid (Blk wr p (evC x (.slice av x.a.length cv) (.slice ar x.r.length cr)) 37) := HB0.out.later hbr
    clear hbr a0 a1 a2 a3 a4 a5 a6 a7 a8 a9 a10 a11 a12 a13
    obtain ⟨a0, a1, a2, a3, a4, a5, a6, a7, a8, a9, a10, a11, a12, a13⟩ := ev_cells HBk.out
    by_cases hlt : k < x.a.length
    · have hlt' : (k : Int) < (x.a.length : Int) := by omega
      obtain ⟨b, o, rfl⟩ := vat_block' (H1.out.later HBr.out) (by omega)
      obtain ⟨c0, c1, c2⟩ := vat_cells' (H1.out.later HBr.out) rfl hlt
      have hP := fun w => vrprint_any (nv x.a k).1 (nv x.a k).2.1 (nv x.a k).2.2 w (HZ.out.2.2.1 k hlt) (Hb.out.2.2.2.1 k hlt)
      have hy := pv_len (right_a HR.out k hlt) (Hb.out.2.2.2.1 k hlt)
      have hnl := HLa.out
      have hj := HJa.out k
      have HJ : Hid (Lib.join (l0 x ++ (x.a.take (k + 1)).map pv) [32] = Lib.join (l0 x ++ (x.a.take k).map pv) [32] ++ [32] ++ pv (nv x.a k)) := snoc_pv _ x.a k hlt (l0_ne x)
      obtain ⟨y, hy2⟩ : ∃ y, pv (nv x.a k) = y := ⟨_, rfl⟩
      have hy3 : prt (nv x.a k).1 (nv x.a k).2.1 (nv x.a k).2.2 = bs y := by rw [← hy2]; exact (bs_tx _).symm
      rw [hy3] at hP
      rw [hy2] at HJ hy
      generalize Lib.join (l0 x ++ (x.a.take k).map pv) [32] = J at *
      have e1 : bs J ++ (⟨#[32]⟩ : ByteArray) = bs (J ++ [32]) := bs_app _ [32]
      have e2 := bs_app (J ++ [32]) y
      have z1 : (bs y).size = y.length := rfl
      have z2 : (bs J).size = J.length := rfl
      have z3 : (bs (J ++ [32])).size = J.length + 1 := by rw [bs_size]; simp
      have q1 : ¬ 9223372036854775807 < (bs J).size + 1 := by omega
      have q2 : ¬ 9223372036854775807 < (bs (J ++ [32])).size + (bs y).size := by omega
      have HP : Hid (∀ w, _) := hP
      clear hP hy2 hy3
      go_wp2_with fail
      refine (HP.out _).mono ?_
      rintro e w5 ⟨rfl, b5⟩
      have HB5 : Hid (Below w1.heap.size w1 w5) := below_next HBr.out b5
      clear b5
      go_wp2
      go_roundw
      case rel => exact ⟨k + 1, by omega, by go_num, by rw [HJ.out]; simp, HB5.out⟩
      case measure => simp [intOf]; omega
    · have e : k = x.a.length := by omega
      subst e
      rw [List.take_of_length_le (Nat.le_refl _)]
      clear hlt hk
      go_wp2
      go_loopw [3, 5] (fun s i w' => ∃ k : Nat, k ≤ x.r.length ∧ i = .int .i64 (k : Int) ∧ s = .string (bs (Lib.join (l0 x ++ x.a.map pv ++ (x.r.take k).map pv) [32])) ∧ Below w1.heap.size w1 w') (fun s i w' => x.r.length - (intOf i).toNat)
      case atStart => exact ⟨0, by omega, rfl, by simp, HBr.out⟩
      case round =>
        obtain ⟨k, hk, rfl, rfl, hbr⟩ := hrel
        have HBr : Hid (Below w1.heap.size w1 wr) := hbr
        have HBk : Hid (Blk wr p (evC x (.slice av x.a.length cv) (.slice ar x.r.length cr)) 37) := HB0.out.later hbr
        clear hbr a0 a1 a2 a3 a4 a5 a6 a7 a8 a9 a10 a11 a12 a13
        obtain ⟨a0, a1, a2, a3, a4, a5, a6, a7, a8, a9, a10, a11, a12, a13⟩ := ev_cells HBk.out
        by_cases hlt : k < x.r.length
        · have hlt' : (k : Int) < (x.r.length : Int) := by omega
          obtain ⟨b, o, rfl⟩ := vat_block' (H2.out.later HBr.out) (by omega)
          obtain ⟨c0, c1, c2⟩ := vat_cells' (H2.out.later HBr.out) rfl hlt
          have hP := fun w => vrprint_any (nv x.r k).1 (nv x.r k).2.1 (nv x.r k).2.2 w (HZ.out.2.2.2.1 k hlt) (Hb.out.2.2.2.2 k hlt)
          have hy := pv_len (right_r HR.out k hlt) (Hb.out.2.2.2.2 k hlt)
          have hnl := HLr.out
          have hj := HJr.out k
          have HJ : Hid (Lib.join (l0 x ++ x.a.map pv ++ (x.r.take (k + 1)).map pv) [32] = Lib.join (l0 x ++ x.a.map pv ++ (x.r.take k).map pv) [32] ++ [32] ++ pv (nv x.r k)) := snoc_pv _ x.r k hlt (l0a_ne x)
          obtain ⟨y, hy2⟩ : ∃ y, pv (nv x.r k) = y := ⟨_, rfl⟩
          have hy3 : prt (nv x.r k).1 (nv x.r k).2.1 (nv x.r k).2.2 = bs y := by rw [← hy2]; exact (bs_tx _).symm
          rw [hy3] at hP
          rw [hy2] at HJ hy
          generalize Lib.join (l0 x ++ x.a.map pv ++ (x.r.take k).map pv) [32] = J at *
          have e1 : bs J ++ (⟨#[32]⟩ : ByteArray) = bs (J ++ [32]) := bs_app _ [32]
          have e2 := bs_app (J ++ [32]) y
          have z1 : (bs y).size = y.length := rfl
          have z2 : (bs J).size = J.length := rfl
          have z3 : (bs (J ++ [32])).size = J.length + 1 := by rw [bs_size]; simp
          have q1 : ¬ 9223372036854775807 < (bs J).size + 1 := by omega
          have q2 : ¬ 9223372036854775807 < (bs (J ++ [32])).size + (bs y).size := by omega
          have HP : Hid (∀ w, _) := hP
          clear hP hy2 hy3
          go_wp2_with fail
          refine (HP.out _).mono ?_
          rintro e w5 ⟨rfl, b5⟩
          have HB5 : Hid (Below w1.heap.size w1 w5) := below_next HBr.out b5
          clear b5
          go_wp2
          go_roundw
          case rel => exact ⟨k + 1, by omega, by go_num, by rw [HJ.out]; simp, HB5.out⟩
          case measure => simp [intOf]; omega
        · have e : k = x.r.length := by omega
          subst e
          rw [List.take_of_length_le (Nat.le_refl _)]
          clear hlt hk
          have hj := HJr.out x.r.length
          rw [List.take_of_length_le (Nat.le_refl _)] at hj
          cases hnd : x.nd
          · have HE : Hid (Lib.join (lst (l0 x) x) [32] = Lib.join (l0 x ++ x.a.map pv ++ x.r.map pv) [32]) := by show _ = _; unfold lst; rw [hnd]; simp
            rw [hnd] at a12
            clear hnd
            go_wp2
            go_ret
            exact ⟨by rw [HE.out]; rfl, below_next Hw1.out HBr.out⟩
          · have HE : Hid (Lib.join (lst (l0 x) x) [32] = Lib.join (l0 x ++ x.a.map pv ++ x.r.map pv) [32] ++ [32, 59] ++ tx x.n) := by
              show _ = _
              unfold lst
              rw [hnd, if_pos rfl, join_snoc _ _ (by intro e; exact l0a_ne x (List.append_eq_nil_iff.1 e).1)]
              simp
            rw [hnd] at a12
            clear hnd
            generalize Lib.join (l0 x ++ x.a.map pv ++ x.r.map pv) [32] = J at *
            have ln := HLn.out
            have e1 : bs J ++ (⟨#[32, 59]⟩ : ByteArray) = bs (J ++ [32, 59]) := bs_app _ [32, 59]
            have e2 : bs (J ++ [32, 59]) ++ x.n = bs (J ++ [32, 59] ++ tx x.n) := by
              have h := bs_app (J ++ [32, 59]) (tx x.n)
              rw [bs_tx] at h; exact h
            have z2 : (bs J).size = J.length := rfl
            have z3 : (bs (J ++ [32, 59])).size = J.length + 2 := by rw [bs_size]; simp
            have q1 : ¬ 9223372036854775807 < (bs J).size + 2 := by omega
            have q2 : ¬ 9223372036854775807 < (bs (J ++ [32, 59])).size + x.n.size := by omega
            go_wp2
            go_ret
            exact ⟨by rw [HE.out]; show Ending.returned (.string (bs (J ++ 32 :: 59 :: tx x.n))) = _; simp, below_next Hw1.out HBr.out⟩
end Go.Proofs.YtdhlheilgagcpaaGreatDoor
namespace Go.Proofs.YtdhlheilgagcpaaGreatDoor
open Go.RowKit Go.PlainAid Ln
set_option linter.unusedVariables false
set_option linter.unusedSimpArgs false

/-- what stays as it is while the words are made -/
def SPq (p : Nat) (x : Ev) (va vr : Value) (w w' : World) : Prop := Blk w' p (evC x va vr) 37 ∧ Below w.heap.size w w'
theorem SPq.later {p : Nat} {x : Ev} {va vr : Value} {w w' w2 : World} (h : SPq p x va vr w w') (hb : Below w'.heap.size w' w2) : SPq p x va vr w w2 := ⟨h.1.later hb, below_next h.2 hb⟩
theorem SPq.drew {p : Nat} {x : Ev} {va vr : Value} {w w' : World} (h : SPq p x va vr w w') : SPq p x va vr w { w' with drawn := w'.drawn + 1 } := ⟨h.1.drew, h.2.os, h.2.tape, h.2.output, h.2.size, h.2.block⟩
theorem yieldsIf_addZ {P : Program} {ops : Array Oper} {S : World → Prop} {op : Oper} {a : Act} (hw : Region.wanted op (yielded ops a.tmps) = true) (t t2 : TypeId) (x y : Operand) (ho : op.op = .binOp .add t x y t2)
    (l r z : ByteArray) (hx : a.eval x = .string l) (hy : a.eval y = .string r) (hz : l.size + r.size ≤ 9223372036854775807) (he : l ++ r = z) : YieldsIf P ops S op (.string z) a := by
  subst he
  exact yieldsIf_addS hw t t2 x y ho l r hx hy hz
/-- the first two words -/
def jt (x : Ev) : List UInt8 := tx (txt x.t) ++ [32] ++ pv x.c
theorem jt_eq (x : Ev) : txt x.t ++ (⟨#[32]⟩ : ByteArray) ++ prt x.c.1 x.c.2.1 x.c.2.2 = bs (jt x) := by
  have e := bs_app (tx (txt x.t)) [32]
  have e2 := bs_app (tx (txt x.t) ++ [32]) (pv x.c)
  unfold jt
  rw [← e2, ← e, bs_tx]
  show _ = txt x.t ++ bs [32] ++ bs (tx (prt x.c.1 x.c.2.1 x.c.2.2))
  rw [bs_tx]; rfl
theorem l0_join {x : Ev} {y : Int} (h : x.y = y) (h1 : ¬ y = 1) : Lib.join (l0 x) [32] = jt x ++ 32 :: tx (tn y) := by
  unfold l0 jt
  rw [if_neg (by rw [h]; exact h1), h]
  rw [show [tx (txt x.t), pv x.c, tx (tn y)] = [tx (txt x.t), pv x.c] ++ [tx (tn y)] from rfl, join_snoc _ _ (by simp), show [tx (txt x.t), pv x.c] = [tx (txt x.t)] ++ [pv x.c] from rfl, join_snoc _ _ (by simp)]
  simp [Lib.join, Lib.joinTail]
theorem l0_join1 {x : Ev} (h : x.y = 1) : bs (jt x) ++ (⟨#[32, 105, 110, 118, 111, 107, 101, 32]⟩ : ByteArray) ++ mn x.m ++ (⟨#[32]⟩ : ByteArray) ++ prt x.k.1 x.k.2.1 x.k.2.2 ++ (⟨#[32]⟩ : ByteArray) ++ on x.o = bs (Lib.join (l0 x) [32]) := by
  refine tx_inj ?_
  rw [tx_bs]
  have e : tx (tn 1) = [105, 110, 118, 111, 107, 101] := by decide
  unfold l0
  rw [if_pos h, h, e]
  rw [show [tx (txt x.t), pv x.c, [105, 110, 118, 111, 107, 101], tx (mn x.m), pv x.k, tx (on x.o)] = (((([tx (txt x.t)] ++ [pv x.c]) ++ [[105, 110, 118, 111, 107, 101]]) ++ [tx (mn x.m)]) ++ [pv x.k]) ++ [tx (on x.o)] from rfl]
  rw [join_snoc _ _ (by simp), join_snoc _ _ (by simp), join_snoc _ _ (by simp), join_snoc _ _ (by simp), join_snoc _ _ (by simp)]
  simp [tx, bs, jt, pv, Lib.join, Lib.joinTail]
theorem word_sz {x : Ev} (h : rightE x = true) (hb : bdE x) : (txt x.t).size ≤ 61 ∧ (prt x.c.1 x.c.2.1 x.c.2.2).size ≤ 61 ∧ (bs (jt x)).size ≤ 123 ∧ (x.y = 1 → (mn x.m).size ≤ 61 ∧ (prt x.k.1 x.k.2.1 x.k.2.2).size ≤ 61 ∧ (on x.o).size ≤ 61) := by
  have hw := (wds_len h hb).1
  have h1 : (tx (txt x.t)).length ≤ 61 := hw _ (by unfold wds; simp)
  have h2 : (pv x.c).length ≤ 61 := hw _ (by unfold wds; simp)
  refine ⟨by rw [← tx_len]; exact h1, by rw [← tx_len]; exact h2, ?_, fun hy => ?_⟩
  · rw [bs_size]; unfold jt; simp only [List.length_append, List.length_cons, List.length_nil]; omega
  · refine ⟨?_, ?_, ?_⟩
    · rw [← tx_len]; exact hw _ (by unfold wds; rw [if_pos hy]; simp)
    · rw [← tx_len]; exact hw (pv x.k) (by unfold wds; rw [if_pos hy]; simp)
    · rw [← tx_len]; exact hw _ (by unfold wds; rw [if_pos hy]; simp)
set_option maxRecDepth 100000 in
set_option maxHeartbeats 8000000 in
theorem rprint_ev (x : Ev) (va vr : Value) (w : World) (h1 : VSl w va x.a) (h2 : VSl w vr x.r) (hz : SzE x) (hb : bdE x) (lr : x.r.length ≤ 900000) :
    Calls Tryz.prog 18 #[.agg (evC x va vr).toArray] w fun e w' => e = .returned (.string (if rightE x = true then bs (lineE x) else ⟨#[]⟩)) ∧ Below w.heap.size w w' := by
  have mixed : Tryz.prog.follows .mixedOrders = true := by kernel_rfl
  obtain ⟨av, cv, rfl⟩ : ∃ a c, va = .slice a x.a.length c := by obtain ⟨a, c, h, _⟩ := h1; exact ⟨a, c, h⟩
  obtain ⟨ar, cr, rfl⟩ : ∃ a c, vr = .slice a x.r.length c := by obtain ⟨a, c, h, _⟩ := h2; exact ⟨a, c, h⟩
  have hR := fun w' (hb : Below w.heap.size w w') => rright_ev x (.slice av x.a.length cv) (.slice ar x.r.length cr) w' (h1.later hb) (h2.later hb) hz
  obtain ⟨w1, hw1⟩ : ∃ w1, w.alloc (.cells (evC x (.slice av x.a.length cv) (.slice ar x.r.length cr)).toArray 37) = w1 := ⟨_, rfl⟩
  have B1 := Blk.new w (evC x (.slice av x.a.length cv) (.slice ar x.r.length cr)) 37
  rw [hw1] at B1
  have b1 : Below w.heap.size w w1 := by rw [← hw1]; exact below_more (Below.refl _ _) _
  have ea := hw1
  simp only [evC] at ea
  obtain ⟨p, hpp⟩ : ∃ p, w.heap.size = p := ⟨_, rfl⟩
  rw [hpp] at B1
  have HB1 : Hid (Blk w1 p (evC x (.slice av x.a.length cv) (.slice ar x.r.length cr)) 37) := B1
  have Hb1 : Hid (Below w.heap.size w w1) := b1
  obtain ⟨a0, a1, a2, a3, a4, a5, a6, a7, a8, a9, a10, a11, a12, a13⟩ := ev_cells B1
  have H1 : Hid (VSl w (.slice av x.a.length cv) x.a) := h1
  have H2 : Hid (VSl w (.slice ar x.r.length cr) x.r) := h2
  have HZ : Hid (SzE x) := hz
  have Hb : Hid (bdE x) := hb
  have HLr : Hid (x.r.length ≤ 900000) := lr
  have HR : Hid (∀ w', Below w.heap.size w w' → _) := hR
  clear hw1 B1 b1 h1 h2 hz hb lr hR
  cases hr : rightE x
  · rw [if_neg (by decide)]
    simp only [evC]
    go_enter Tryz.func18, Tryz.ntmps18
    go_wp2_with fail
    refine (HR.out _ Hb1.out).mono ?_
    rintro e w2 ⟨rfl, b2⟩
    rw [hr]
    go_wp2_with fail
    go_ret
    exact ⟨rfl, by first | exact below_next Hb1.out b2 | (rw [← hpp]; exact below_next Hb1.out b2)⟩
  · rw [if_pos rfl, ← join_lst]
    obtain ⟨k, hy, hk0, hk⟩ := right_y hr
    have HH : Hid (0 ≤ x.t ∧ x.t ≤ 9223372036854775807) := ⟨right_t hr, Hb.out.1⟩
    have HY4 : Hid (x.y = 1 ∨ x.y = 2 ∨ x.y = 3 ∨ x.y = 4) := by show _ ∨ _; omega
    have HRr : Hid (rightE x = true) := hr
    have HSz : Hid ((txt x.t).size ≤ 61 ∧ (prt x.c.1 x.c.2.1 x.c.2.2).size ≤ 61 ∧ (bs (jt x)).size ≤ 123 ∧ (x.y = 1 → (mn x.m).size ≤ 61 ∧ (prt x.k.1 x.k.2.1 x.k.2.2).size ≤ 61 ∧ (on x.o).size ≤ 61)) := word_sz hr Hb.out
    clear hy hk0 hk
    simp only [evC]
    go_enter Tryz.func18, Tryz.ntmps18
    go_wp2_with fail
    refine (HR.out _ Hb1.out).mono ?_
    rintro e w2 ⟨rfl, b2⟩
    rw [hr]
    have HW2 : Hid (SPq p x (.slice av x.a.length cv) (.slice ar x.r.length cr) w1 w2) := ⟨HB1.out.later b2, b2⟩
    clear b2 a0 a1 a2 a3 a4 a5 a6 a7 a8 a9 a10 a11 a12 a13 ea hr
    go_wp2_with fail
    rename_i K hKK
    have BRd := HW2.out.drew
    refine wp_region_held (S := SPq p x (.slice av x.a.length cv) (.slice ar x.r.length cr) w1) mixed ?_
    generalize ({ w2 with drawn := w2.drawn + 1 } : World) = n0 at BRd ⊢
    have HW := BRd
    clear BRd
    have c1 : (⟨#[32]⟩ : ByteArray).size = 1 := rfl
    have c8 : (⟨#[32, 105, 110, 118, 111, 107, 101, 32]⟩ : ByteArray).size = 8 := rfl
    refine takeH 0 9 (.pointer (some ⟨p, 0, none⟩)) rfl rfl (by kernel_rfl) (by kernel_rfl) (by kernel_rfl) (fun c a w h => h) (.inl ⟨rfl, fun w _ => by go_simp⟩) HW ?_
    simp only [List.setIfInBounds_toArray, List.set_cons_zero, List.set_cons_succ]
    refine takeH 1 10 (.int .i64 x.t) rfl rfl (by kernel_rfl) (by kernel_rfl) (by kernel_rfl) (fun c a w h => h) (.inl ⟨rfl, fun wx hx => by have c := hx.1.cell 0 (.int .i64 x.t) rfl; go_simp⟩) HW ?_
    simp only [List.setIfInBounds_toArray, List.set_cons_zero, List.set_cons_succ]
    refine takeH 4 13 (.pointer (some ⟨p, 1, none⟩)) rfl rfl (by kernel_rfl) (by kernel_rfl) (by kernel_rfl) (fun c a w h => h) (.inl ⟨rfl, fun w _ => by go_simp⟩) HW ?_
    simp only [List.setIfInBounds_toArray, List.set_cons_zero, List.set_cons_succ]
    refine takeH 5 14 (.agg (vls x.c.1 x.c.2.1 x.c.2.2).toArray) rfl rfl (by kernel_rfl) (by kernel_rfl) (by kernel_rfl) (fun c a w h => h) (yieldsIf_load_mid rfl 34 (.tmp 13) rfl p 1 rfl (vls x.c.1 x.c.2.1 x.c.2.2) _ (fun wx hx => hx.1.range 1 _ (evC_c x (.slice av x.a.length cv) (.slice ar x.r.length cr))) Tryz.underlying34 rfl sizeV) HW ?_
    simp only [List.setIfInBounds_toArray, List.set_cons_zero, List.set_cons_succ]
    refine wpAnyH_all (rs := [2]) (by kernel_rfl) (by simp) (fun i hi => ?_)
    obtain rfl : i = 2 := by simpa using hi
    refine wpOp_doG 2 (by rfl) (by rfl) ?_
    go_wp2_with fail
    refine (rprint_any x.t n0 (by have := HH.out.1; omega) HH.out.2).mono ?_
    rintro e n1 ⟨rfl, hb⟩
    refine ⟨HW.later hb, ?_⟩
    replace HW := HW.later hb
    clear hb
    refine takeH 3 12 (.string (txt x.t ++ ⟨#[32]⟩)) rfl rfl (by kernel_rfl) (by kernel_rfl) (by kernel_rfl) (fun c a w h => h) (yieldsIf_addS rfl 9 9 (.tmp 11) (.const (.string ⟨#[32]⟩)) rfl (txt x.t) (⟨#[32]⟩) rfl rfl (by have := HSz.out; simp only [ByteArray.size_append, c1, c8]; omega)) HW ?_
    simp only [List.setIfInBounds_toArray, List.set_cons_zero, List.set_cons_succ]
    refine wpAnyH_all (rs := [6]) (by kernel_rfl) (by simp) (fun i hi => ?_)
    obtain rfl : i = 6 := by simpa using hi
    refine wpOp_doG 6 (by rfl) (by rfl) ?_
    go_wp2_with fail
    refine (vrprint_any x.c.1 x.c.2.1 x.c.2.2 n1 HZ.out.1 Hb.out.2.1).mono ?_
    rintro e n2 ⟨rfl, hb⟩
    refine ⟨HW.later hb, ?_⟩
    replace HW := HW.later hb
    clear hb
    refine takeH 7 16 (.string (txt x.t ++ ⟨#[32]⟩ ++ prt x.c.1 x.c.2.1 x.c.2.2)) rfl rfl (by kernel_rfl) (by kernel_rfl) (by kernel_rfl) (fun c a w h => h) (yieldsIf_addS rfl 9 9 (.tmp 12) (.tmp 15) rfl (txt x.t ++ ⟨#[32]⟩) (prt x.c.1 x.c.2.1 x.c.2.2) rfl rfl (by have := HSz.out; simp only [ByteArray.size_append, c1, c8]; omega)) HW ?_
    simp only [List.setIfInBounds_toArray, List.set_cons_zero, List.set_cons_succ]
    refine takeH 8 3 (.string (txt x.t ++ ⟨#[32]⟩ ++ prt x.c.1 x.c.2.1 x.c.2.2)) rfl rfl (by kernel_rfl) (by kernel_rfl) (by kernel_rfl) (fun c a w h => h) (.inl ⟨rfl, fun w _ => rfl⟩) HW ?_
    simp only [List.setIfInBounds_toArray, List.set_cons_zero, List.set_cons_succ]
    refine wpAnyH_done (by kernel_rfl) ?_ _
    show K _ _
    apply hKK
    clear hKK
    rw [jt_eq]
    obtain ⟨a0, a1, a2, a3, a4, a5, a6, a7, a8, a9, a10, a11, a12, a13⟩ := ev_cells HW.1
    rcases HY4.out with hY | hY | hY | hY
    all_goals have HY : Hid (x.y = _) := hY
    all_goals clear hY
    · clear c1 c8
      have hy1 : (x.y == 1) = true := by rw [HY.out]; rfl
      have HY2 : Hid (x.y = 1) := HY.out
      go_step
      rename_i K1 hK1
      have HK1 : Hid (∀ a w, _ → K1 a w) := hK1
      clear hK1
      go_wp2_with fail
      have BRd := HW.drew
      clear HW a0 a1 a2 a3 a4 a5 a6 a7 a8 a9 a10 a11 a12 a13
      refine wp_region_held (S := SPq p x (.slice av x.a.length cv) (.slice ar x.r.length cr) w1) mixed ?_
      generalize ({ n2 with drawn := n2.drawn + 1 } : World) = m0 at BRd ⊢
      have HW := BRd
      clear BRd
      have c1 : (⟨#[32]⟩ : ByteArray).size = 1 := rfl
      have c8 : (⟨#[32, 105, 110, 118, 111, 107, 101, 32]⟩ : ByteArray).size = 8 := rfl
      obtain ⟨B0, hB0⟩ : ∃ z, bs (jt x) = z := ⟨_, rfl⟩
      obtain ⟨Z1, hZ1⟩ : ∃ z, B0 ++ (⟨#[32, 105, 110, 118, 111, 107, 101, 32]⟩ : ByteArray) = z := ⟨_, rfl⟩
      obtain ⟨Z2, hZ2⟩ : ∃ z, Z1 ++ mn x.m = z := ⟨_, rfl⟩
      obtain ⟨Z3, hZ3⟩ : ∃ z, Z2 ++ (⟨#[32]⟩ : ByteArray) = z := ⟨_, rfl⟩
      obtain ⟨Z4, hZ4⟩ : ∃ z, Z3 ++ prt x.k.1 x.k.2.1 x.k.2.2 = z := ⟨_, rfl⟩
      obtain ⟨Z5, hZ5⟩ : ∃ z, Z4 ++ (⟨#[32]⟩ : ByteArray) = z := ⟨_, rfl⟩
      obtain ⟨Z6, hZ6⟩ : ∃ z, Z5 ++ on x.o = z := ⟨_, rfl⟩
      have HZ7 : Hid (Z6 = bs (Lib.join (l0 x) [32])) := by
        show Z6 = _
        rw [← hZ6, ← hZ5, ← hZ4, ← hZ3, ← hZ2, ← hZ1, ← hB0]
        exact l0_join1 HY2.out
      have v0 := HSz.out.2.2.1
      rw [hB0] at v0
      obtain ⟨u1, u2, u3⟩ := HSz.out.2.2.2 HY2.out
      have v1 : Z1.size = B0.size + 8 := by rw [← hZ1, ByteArray.size_append]; rfl
      have v2 : Z2.size = Z1.size + (mn x.m).size := by rw [← hZ2, ByteArray.size_append]
      have v3 : Z3.size = Z2.size + 1 := by rw [← hZ3, ByteArray.size_append]; rfl
      have v4 : Z4.size = Z3.size + (prt x.k.1 x.k.2.1 x.k.2.2).size := by rw [← hZ4, ByteArray.size_append]
      have v5 : Z5.size = Z4.size + 1 := by rw [← hZ5, ByteArray.size_append]; rfl
      have v6 : B0.size ≤ 1000 ∧ Z1.size ≤ 1000 ∧ Z2.size ≤ 1000 ∧ Z3.size ≤ 1000 ∧ Z4.size ≤ 1000 ∧ Z5.size ≤ 1000 := by omega
      have HZ1 : Hid (_ = Z1) := hZ1
      have HZ2 : Hid (_ = Z2) := hZ2
      have HZ3 : Hid (_ = Z3) := hZ3
      have HZ4 : Hid (_ = Z4) := hZ4
      have HZ5 : Hid (_ = Z5) := hZ5
      have HZ6 : Hid (_ = Z6) := hZ6
      have HSz : Hid ((mn x.m).size ≤ 61 ∧ (prt x.k.1 x.k.2.1 x.k.2.2).size ≤ 61 ∧ (on x.o).size ≤ 61 ∧ B0.size ≤ 1000 ∧ Z1.size ≤ 1000 ∧ Z2.size ≤ 1000 ∧ Z3.size ≤ 1000 ∧ Z4.size ≤ 1000 ∧ Z5.size ≤ 1000) := ⟨u1, u2, u3, v6⟩
      rw [hB0]
      clear hZ1 hZ2 hZ3 hZ4 hZ5 hZ6 v0 v1 v2 v3 v4 v5 v6 u1 u2 u3 hB0
      refine takeH 0 23 (.string B0) rfl rfl (by kernel_rfl) (by kernel_rfl) (by kernel_rfl) (fun c a w h => h) (.inl ⟨rfl, fun w _ => rfl⟩) HW ?_
      simp only [List.setIfInBounds_toArray, List.set_cons_zero, List.set_cons_succ]
      refine takeH 1 24 (.string Z1) rfl rfl (by kernel_rfl) (by kernel_rfl) (by kernel_rfl) (fun c a w h => h) (yieldsIf_addZ rfl 9 9 (.tmp 23) (.const (.string ⟨#[32, 105, 110, 118, 111, 107, 101, 32]⟩)) rfl (B0) (⟨#[32, 105, 110, 118, 111, 107, 101, 32]⟩) Z1 rfl rfl (by have := HSz.out; have := c1; have := c8; omega) HZ1.out) HW ?_
      simp only [List.setIfInBounds_toArray, List.set_cons_zero, List.set_cons_succ]
      refine takeH 2 25 (.pointer (some ⟨p, 5, none⟩)) rfl rfl (by kernel_rfl) (by kernel_rfl) (by kernel_rfl) (fun c a w h => h) (.inl ⟨rfl, fun w _ => by go_simp⟩) HW ?_
      simp only [List.setIfInBounds_toArray, List.set_cons_zero, List.set_cons_succ]
      refine takeH 3 26 (.int .i64 x.m) rfl rfl (by kernel_rfl) (by kernel_rfl) (by kernel_rfl) (fun c a w h => h) (.inl ⟨rfl, fun wx hx => by have c := hx.1.cell 5 (.int .i64 x.m) rfl; go_simp⟩) HW ?_
      simp only [List.setIfInBounds_toArray, List.set_cons_zero, List.set_cons_succ]
      refine takeH 7 30 (.pointer (some ⟨p, 6, none⟩)) rfl rfl (by kernel_rfl) (by kernel_rfl) (by kernel_rfl) (fun c a w h => h) (.inl ⟨rfl, fun w _ => by go_simp⟩) HW ?_
      simp only [List.setIfInBounds_toArray, List.set_cons_zero, List.set_cons_succ]
      refine takeH 8 31 (.agg (vls x.k.1 x.k.2.1 x.k.2.2).toArray) rfl rfl (by kernel_rfl) (by kernel_rfl) (by kernel_rfl) (fun c a w h => h) (yieldsIf_load_mid rfl 34 (.tmp 30) rfl p 6 rfl (vls x.k.1 x.k.2.1 x.k.2.2) _ (fun wx hx => hx.1.range 6 _ (evC_k x (.slice av x.a.length cv) (.slice ar x.r.length cr))) Tryz.underlying34 rfl sizeV) HW ?_
      simp only [List.setIfInBounds_toArray, List.set_cons_zero, List.set_cons_succ]
      refine takeH 12 35 (.pointer (some ⟨p, 9, none⟩)) rfl rfl (by kernel_rfl) (by kernel_rfl) (by kernel_rfl) (fun c a w h => h) (.inl ⟨rfl, fun w _ => by go_simp⟩) HW ?_
      simp only [List.setIfInBounds_toArray, List.set_cons_zero, List.set_cons_succ]
      refine takeH 13 36 (.int .i64 x.o) rfl rfl (by kernel_rfl) (by kernel_rfl) (by kernel_rfl) (fun c a w h => h) (.inl ⟨rfl, fun wx hx => by have c := hx.1.cell 9 (.int .i64 x.o) rfl; go_simp⟩) HW ?_
      simp only [List.setIfInBounds_toArray, List.set_cons_zero, List.set_cons_succ]
      refine wpAnyH_all (rs := [4]) (by kernel_rfl) (by simp) (fun i hi => ?_)
      obtain rfl : i = 4 := by simpa using hi
      refine wpOp_doG 4 (by rfl) (by rfl) ?_
      go_wp2_with fail
      refine (rmodelName_any x.m m0).mono ?_
      rintro e q1 ⟨rfl, hb⟩
      refine ⟨HW.later hb, ?_⟩
      replace HW := HW.later hb
      clear hb
      refine takeH 5 28 (.string Z2) rfl rfl (by kernel_rfl) (by kernel_rfl) (by kernel_rfl) (fun c a w h => h) (yieldsIf_addZ rfl 9 9 (.tmp 24) (.tmp 27) rfl (Z1) (mn x.m) Z2 rfl rfl (by have := HSz.out; have := c1; have := c8; omega) HZ2.out) HW ?_
      simp only [List.setIfInBounds_toArray, List.set_cons_zero, List.set_cons_succ]
      refine takeH 6 29 (.string Z3) rfl rfl (by kernel_rfl) (by kernel_rfl) (by kernel_rfl) (fun c a w h => h) (yieldsIf_addZ rfl 9 9 (.tmp 28) (.const (.string ⟨#[32]⟩)) rfl (Z2) (⟨#[32]⟩) Z3 rfl rfl (by have := HSz.out; have := c1; have := c8; omega) HZ3.out) HW ?_
      simp only [List.setIfInBounds_toArray, List.set_cons_zero, List.set_cons_succ]
      refine wpAnyH_all (rs := [9]) (by kernel_rfl) (by simp) (fun i hi => ?_)
      obtain rfl : i = 9 := by simpa using hi
      refine wpOp_doG 9 (by rfl) (by rfl) ?_
      go_wp2_with fail
      refine (vrprint_any x.k.1 x.k.2.1 x.k.2.2 q1 HZ.out.2.1 Hb.out.2.2.1).mono ?_
      rintro e q2 ⟨rfl, hb⟩
      refine ⟨HW.later hb, ?_⟩
      replace HW := HW.later hb
      clear hb
      refine takeH 10 33 (.string Z4) rfl rfl (by kernel_rfl) (by kernel_rfl) (by kernel_rfl) (fun c a w h => h) (yieldsIf_addZ rfl 9 9 (.tmp 29) (.tmp 32) rfl (Z3) (prt x.k.1 x.k.2.1 x.k.2.2) Z4 rfl rfl (by have := HSz.out; have := c1; have := c8; omega) HZ4.out) HW ?_
      simp only [List.setIfInBounds_toArray, List.set_cons_zero, List.set_cons_succ]
      refine takeH 11 34 (.string Z5) rfl rfl (by kernel_rfl) (by kernel_rfl) (by kernel_rfl) (fun c a w h => h) (yieldsIf_addZ rfl 9 9 (.tmp 33) (.const (.string ⟨#[32]⟩)) rfl (Z4) (⟨#[32]⟩) Z5 rfl rfl (by have := HSz.out; have := c1; have := c8; omega) HZ5.out) HW ?_
      simp only [List.setIfInBounds_toArray, List.set_cons_zero, List.set_cons_succ]
      refine wpAnyH_all (rs := [14]) (by kernel_rfl) (by simp) (fun i hi => ?_)
      obtain rfl : i = 14 := by simpa using hi
      refine wpOp_doG 14 (by rfl) (by rfl) ?_
      go_wp2_with fail
      refine (ropName_any x.o q2).mono ?_
      rintro e q3 ⟨rfl, hb⟩
      refine ⟨HW.later hb, ?_⟩
      replace HW := HW.later hb
      clear hb
      refine takeH 15 38 (.string Z6) rfl rfl (by kernel_rfl) (by kernel_rfl) (by kernel_rfl) (fun c a w h => h) (yieldsIf_addZ rfl 9 9 (.tmp 34) (.tmp 37) rfl (Z5) (on x.o) Z6 rfl rfl (by have := HSz.out; have := c1; have := c8; omega) HZ6.out) HW ?_
      simp only [List.setIfInBounds_toArray, List.set_cons_zero, List.set_cons_succ]
      refine takeH 16 3 (.string Z6) rfl rfl (by kernel_rfl) (by kernel_rfl) (by kernel_rfl) (fun c a w h => h) (.inl ⟨rfl, fun w _ => rfl⟩) HW ?_
      simp only [List.setIfInBounds_toArray, List.set_cons_zero, List.set_cons_succ]
      refine wpAnyH_done (by kernel_rfl) ?_ _
      show K1 _ _
      refine HK1.out _ _ ?_
      rw [HZ7.out]
      exact er_tail x av ar cv cr w w1 q3 p _ _ _ _ _ _ _ _ _ _ _ _ _ _ _ _ _ _ _ _ _ _ _ _ _ _ _ _ _ _ _ _ _ _ _ _ _ _ _ _ _ _ _ _ _ _ _ _ _ _ _ _ _ _ _ _ _ _ _ _ _ _ _ _ _ _ _ _ _ _ _ _ _ _ _ _ _ _ _ _ _ _ _ HB1.out Hb1.out HW.2 (H1.out.later Hb1.out) (H2.out.later Hb1.out) HZ.out Hb.out HLr.out HRr.out
    · clear c1 c8
      have hy1 : (x.y == 1) = false := by rw [HY.out]; rfl
      have hy2 : (x.y == 2) = true := by rw [HY.out]; rfl
      have hy3 : (x.y == 3) = false := by rw [HY.out]; rfl
      have eL : Lib.join (l0 x) [32] = jt x ++ [32, 111, 107] := (l0_join HY.out (by decide)).trans (by rw [show tx (tn 2) = [111, 107] by decide])
      have HE : Hid (Lib.join (l0 x) [32] = jt x ++ [32, 111, 107]) := eL
      have hj := HSz.out.2.2.1
      generalize jt x = J at *
      have e1 : bs J ++ (⟨#[32, 111, 107]⟩ : ByteArray) = bs (J ++ [32, 111, 107]) := bs_app _ [32, 111, 107]
      have q1 : ¬ 9223372036854775807 < (bs J).size + 3 := by omega
      clear eL
      go_step
      rename_i K1 hK1
      have HK1 : Hid (∀ a w, _ → K1 a w) := hK1
      clear hK1
      go_wp2_with fail
      refine HK1.out _ _ ?_
      rw [← HE.out]
      exact er_tail x av ar cv cr w w1 n2 p _ _ _ _ _ _ _ _ _ _ _ _ _ _ _ _ _ _ _ _ _ _ _ _ _ _ _ _ _ _ _ _ _ _ _ _ _ _ _ _ _ _ _ _ _ _ _ _ _ _ _ _ _ _ _ _ _ _ _ _ _ _ _ _ _ _ _ _ _ _ _ _ _ _ _ _ _ _ _ _ _ _ _ HB1.out Hb1.out HW.2 (H1.out.later Hb1.out) (H2.out.later Hb1.out) HZ.out Hb.out HLr.out HRr.out
    · clear c1 c8
      have hy1 : (x.y == 1) = false := by rw [HY.out]; rfl
      have hy2 : (x.y == 2) = false := by rw [HY.out]; rfl
      have hy3 : (x.y == 3) = true := by rw [HY.out]; rfl
      have eL : Lib.join (l0 x) [32] = jt x ++ [32, 102, 97, 105, 108] := (l0_join HY.out (by decide)).trans (by rw [show tx (tn 3) = [102, 97, 105, 108] by decide])
      have HE : Hid (Lib.join (l0 x) [32] = jt x ++ [32, 102, 97, 105, 108]) := eL
      have hj := HSz.out.2.2.1
      generalize jt x = J at *
      have e1 : bs J ++ (⟨#[32, 102, 97, 105, 108]⟩ : ByteArray) = bs (J ++ [32, 102, 97, 105, 108]) := bs_app _ [32, 102, 97, 105, 108]
      have q1 : ¬ 9223372036854775807 < (bs J).size + 5 := by omega
      clear eL
      go_step
      rename_i K1 hK1
      have HK1 : Hid (∀ a w, _ → K1 a w) := hK1
      clear hK1
      go_wp2_with fail
      refine HK1.out _ _ ?_
      rw [← HE.out]
      exact er_tail x av ar cv cr w w1 n2 p _ _ _ _ _ _ _ _ _ _ _ _ _ _ _ _ _ _ _ _ _ _ _ _ _ _ _ _ _ _ _ _ _ _ _ _ _ _ _ _ _ _ _ _ _ _ _ _ _ _ _ _ _ _ _ _ _ _ _ _ _ _ _ _ _ _ _ _ _ _ _ _ _ _ _ _ _ _ _ _ _ _ _ HB1.out Hb1.out HW.2 (H1.out.later Hb1.out) (H2.out.later Hb1.out) HZ.out Hb.out HLr.out HRr.out
    · clear c1 c8
      have hy1 : (x.y == 1) = false := by rw [HY.out]; rfl
      have hy2 : (x.y == 2) = false := by rw [HY.out]; rfl
      have hy3 : (x.y == 3) = false := by rw [HY.out]; rfl
      have eL : Lib.join (l0 x) [32] = jt x ++ [32, 105, 110, 102, 111] := (l0_join HY.out (by decide)).trans (by rw [show tx (tn 4) = [105, 110, 102, 111] by decide])
      have HE : Hid (Lib.join (l0 x) [32] = jt x ++ [32, 105, 110, 102, 111]) := eL
      have hj := HSz.out.2.2.1
      generalize jt x = J at *
      have e1 : bs J ++ (⟨#[32, 105, 110, 102, 111]⟩ : ByteArray) = bs (J ++ [32, 105, 110, 102, 111]) := bs_app _ [32, 105, 110, 102, 111]
      have q1 : ¬ 9223372036854775807 < (bs J).size + 5 := by omega
      clear eL
      go_step
      rename_i K1 hK1
      have HK1 : Hid (∀ a w, _ → K1 a w) := hK1
      clear hK1
      go_wp2_with fail
      refine HK1.out _ _ ?_
      rw [← HE.out]
      exact er_tail x av ar cv cr w w1 n2 p _ _ _ _ _ _ _ _ _ _ _ _ _ _ _ _ _ _ _ _ _ _ _ _ _ _ _ _ _ _ _ _ _ _ _ _ _ _ _ _ _ _ _ _ _ _ _ _ _ _ _ _ _ _ _ _ _ _ _ _ _ _ _ _ _ _ _ _ _ _ _ _ _ _ _ _ _ _ _ _ _ _ _ HB1.out Hb1.out HW.2 (H1.out.later Hb1.out) (H2.out.later Hb1.out) HZ.out Hb.out HLr.out HRr.out
end Go.Proofs.YtdhlheilgagcpaaGreatDoor
