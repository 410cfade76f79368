/- The contract of the document's Print. Conditions: the event's lists lie in memory; the event's numbers are of 64 bits, its texts at most 2^62 bytes, its values few enough. -/
import Derived.Test.YtdhlheilgagcpaaGreatDoorRE
import Derived.Test.YtdhlheilgagcpaaGreatDoorRF
namespace Go.Proofs.YtdhlheilgagcpaaGreatDoor
open Go.RowKit Go.PlainAid Ln
set_option linter.unusedVariables false
set_option linter.unusedSimpArgs false

theorem yieldsIf_addS {P : Program} {ops : Array Oper} {S : World → Prop} {op : Oper} {a : Act} (hw : Region.wanted op (yielded ops a.tmps) = true) (t t2 : TypeId) (x y : Operand) (ho : op.op = .binOp .add t x y t2)
    (l r : ByteArray) (hx : a.eval x = .string l) (hy : a.eval y = .string r) (hz : l.size + r.size ≤ 9223372036854775807) : YieldsIf P ops S op (.string (l ++ r)) a :=
  .inl ⟨hw, fun w _ => by
    unfold execOp
    simp only [ho, hx, hy]
    simp [eqGuard, binOp_string_add, run_string_add_sum _ l r hz]⟩
theorem l0_mem {x : Ev} : ∀ l ∈ l0 x, l ∈ wds x := by
  intro l hl
  unfold l0 at hl
  unfold wds
  simp only [List.mem_cons, List.mem_append] at hl ⊢
  rcases hl with h | h | h | h
  · exact .inl h
  · exact .inr (.inl h)
  · exact .inr (.inr (.inl h))
  · exact .inr (.inr (.inr (.inl h)))
theorem a_mem {x : Ev} (k : Nat) : ∀ l ∈ (x.a.take k).map pv, l ∈ wds x := by
  intro l hl
  obtain ⟨v, hv, rfl⟩ := List.mem_map.1 hl
  have h : pv v ∈ x.a.map pv := List.mem_map.2 ⟨v, List.mem_of_mem_take hv, rfl⟩
  unfold wds
  simp only [List.mem_cons, List.mem_append]
  exact .inr (.inr (.inr (.inr (.inl h))))
theorem r_mem {x : Ev} (k : Nat) : ∀ l ∈ (x.r.take k).map pv, l ∈ wds x := by
  intro l hl
  obtain ⟨v, hv, rfl⟩ := List.mem_map.1 hl
  have h : pv v ∈ x.r.map pv := List.mem_map.2 ⟨v, List.mem_of_mem_take hv, rfl⟩
  unfold wds
  simp only [List.mem_cons, List.mem_append]
  exact .inr (.inr (.inr (.inr (.inr h))))
theorem l0_len (x : Ev) : (l0 x).length ≤ 6 := by
  unfold l0
  simp only [List.length_cons]
  split <;> simp
theorem pre_len {x : Ev} (h : rightE x = true) (hb : bdE x) (W : List (List UInt8)) (hW : ∀ l ∈ W, l ∈ wds x) (hn : W.length ≤ 1000000) : (Lib.join W [32]).length ≤ 62000000 := by
  have h1 := join_len W fun l hl => (wds_len h hb).1 l (hW l hl)
  have : W.length * (61 + 1) ≤ 1000000 * 62 := Nat.mul_le_mul_right _ hn
  omega
theorem pre_a {x : Ev} (h : rightE x = true) (hb : bdE x) (k : Nat) : (Lib.join (l0 x ++ (x.a.take k).map pv) [32]).length ≤ 62000000 := by
  refine pre_len h hb _ (fun l hl => ?_) ?_
  · rcases List.mem_append.1 hl with hl | hl
    · exact l0_mem l hl
    · exact a_mem k l hl
  · have h1 := l0_len x
    have h2 := a_len h
    simp only [List.length_append, List.length_map, List.length_take]; omega
theorem pre_r {x : Ev} (h : rightE x = true) (hb : bdE x) (hr : x.r.length ≤ 900000) (k : Nat) : (Lib.join (l0 x ++ x.a.map pv ++ (x.r.take k).map pv) [32]).length ≤ 62000000 := by
  refine pre_len h hb _ (fun l hl => ?_) ?_
  · rcases List.mem_append.1 hl with hl | hl
    · rcases List.mem_append.1 hl with hl | hl
      · exact l0_mem l hl
      · exact a_mem x.a.length l (by rw [List.take_of_length_le (Nat.le_refl _)]; exact hl)
    · exact r_mem k l hl
  · have h1 := l0_len x
    have h2 := a_len h
    simp only [List.length_append, List.length_map, List.length_take]; omega
theorem snoc_pv (W : List (List UInt8)) (zs : List Val) (k : Nat) (hk : k < zs.length) (h : W ≠ []) : Lib.join (W ++ (zs.take (k + 1)).map pv) [32] = Lib.join (W ++ (zs.take k).map pv) [32] ++ [32] ++ pv (nv zs k) := by
  rw [take_pv zs k hk, ← List.append_assoc, join_snoc _ _ (by intro e; exact h (List.append_eq_nil_iff.1 e).1)]; simp
theorem l0_ne (x : Ev) : l0 x ≠ [] := by unfold l0; simp
theorem l0a_ne (x : Ev) : l0 x ++ x.a.map pv ≠ [] := fun e => l0_ne x (List.append_eq_nil_iff.1 e).1
theorem right_a {x : Ev} (h : rightE x = true) : ∀ i, i < x.a.length → rV (nv x.a i) = true := by
  intro i hi
  simp only [rightE, Bool.and_eq_true] at h
  have h4 := h.2
  unfold typB at h4
  split at h4
  · simp only [Bool.and_eq_true] at h4
    exact takes_rV ((fitsL_t h4.1.2.2).2 i hi)
  · split at h4
    · simp only [Bool.and_eq_true, nonB, decide_eq_true_eq] at h4
      have := h4.1.2.2.2.2.2; omega
    · split at h4
      · simp only [Bool.and_eq_true, nonB, decide_eq_true_eq] at h4
        have := h4.1.2.2.2.2.2; omega
      · cases h4
theorem right_r {x : Ev} (h : rightE x = true) : ∀ i, i < x.r.length → rV (nv x.r i) = true := by
  intro i hi
  simp only [rightE, Bool.and_eq_true] at h
  have h4 := h.2
  unfold typB at h4
  split at h4
  · simp only [Bool.and_eq_true, decide_eq_true_eq] at h4
    have := h4.2; omega
  · split at h4
    · simp only [Bool.and_eq_true] at h4
      exact all_rV h4.2 i hi
    · split at h4
      · simp only [Bool.and_eq_true, decide_eq_true_eq] at h4
        have := h4.2; omega
      · cases h4
set_option maxRecDepth 100000 in
set_option maxHeartbeats 8000000 in
theorem er_tail (x : Ev) (av ar : Option Addr) (cv cr : Nat) (w w1 wz : World) (p : Nat) (x4 x5 x6 x7 x8 x9 x10 x11 x12 x13 x14 x15 x16 x17 x18 x19 x20 x21 x22 x23 x24 x25 x26 x27 x28 x29 x30 x31 x32 x33 x34 x35 x36 x37 x38 x39 x40 x41 x42 x43 x44 x45 x46 x47 x48 x49 x50 x51 x52 x53 x54 x55 x56 x57 x58 x59 x60 x61 x62 x63 x64 x65 x66 x67 x68 x69 x70 x71 x72 x73 x74 x75 x76 x77 x78 x79 x80 x81 x82 x83 x84 x85 x86 : Value) (hB : Blk w1 p (evC x (.slice av x.a.length cv) (.slice ar x.r.length cr)) 37) (hw1 : Below w.heap.size w w1) (bel : Below w1.heap.size w1 wz)
    (h1 : VSl w1 (.slice av x.a.length cv) x.a) (h2 : VSl w1 (.slice ar x.r.length cr) x.r) (hz : SzE x) (hb : bdE x) (lr : x.r.length ≤ 900000) (hr : rightE x = true) :
    Code.wp Tryz.prog (sndD (sndD (sndD (sndD (Tryz.f18.body.getD .skip))))) (bodyPost Tryz.prog Tryz.f18 fun e w' => e = .returned (.string (bs (Lib.join (lst (l0 x) x) [32]))) ∧ Below w.heap.size w w') ⟨#[.agg (evC x (.slice av x.a.length cv) (.slice ar x.r.length cr)).toArray, .pointer (some ⟨p, 0, none⟩), .string ⟨#[]⟩, .string (bs (Lib.join (l0 x) [32])), x4, x5, x6, x7, x8, x9, x10, x11, x12, x13, x14, x15, x16, x17, x18, x19, x20, x21, x22, x23, x24, x25, x26, x27, x28, x29, x30, x31, x32, x33, x34, x35, x36, x37, x38, x39, x40, x41, x42, x43, x44, x45, x46, x47, x48, x49, x50, x51, x52, x53, x54, x55, x56, x57, x58, x59, x60, x61, x62, x63, x64, x65, x66, x67, x68, x69, x70, x71, x72, x73, x74, x75, x76, x77, x78, x79, x80, x81, x82, x83, x84, x85, x86], []⟩ wz := by
  obtain ⟨a0, a1, a2, a3, a4, a5, a6, a7, a8, a9, a10, a11, a12, a13⟩ := ev_cells (hB.later bel)
  have HB0 : Hid (Blk w1 p (evC x (.slice av x.a.length cv) (.slice ar x.r.length cr)) 37) := hB
  have Hw1 : Hid (Below w.heap.size w w1) := hw1
  have HBel0 : Hid (Below w1.heap.size w1 wz) := bel
  have H1 : Hid (VSl w1 (.slice av x.a.length cv) x.a) := h1
  have H2 : Hid (VSl w1 (.slice ar x.r.length cr) x.r) := h2
  have HZ : Hid (SzE x) := hz
  have Hb : Hid (bdE x) := hb
  have HR : Hid (rightE x = true) := hr
  have HLa : Hid (x.a.length ≤ 2) := a_len hr
  have HLr : Hid (x.r.length ≤ 900000) := lr
  have HLn : Hid (x.n.size ≤ 100) := right_n hr
  have HJa : Hid (∀ k, (Lib.join (l0 x ++ (x.a.take k).map pv) [32]).length ≤ 62000000) := pre_a hr hb
  have HJr : Hid (∀ k, (Lib.join (l0 x ++ x.a.map pv ++ (x.r.take k).map pv) [32]).length ≤ 62000000) := pre_r hr hb lr
  clear hB hw1 bel h1 h2 hz hb lr hr
  unfold Tryz.f18
  dsimp only [sndD, Option.getD]
  go_wp2
  go_loopw [3, 4] (fun s i w' => ∃ k : Nat, k ≤ x.a.length ∧ i = .int .i64 (k : Int) ∧ s = .string (bs (Lib.join (l0 x ++ (x.a.take k).map pv) [32])) ∧ Below w1.heap.size w1 w') (fun s i w' => x.a.length - (intOf i).toNat)
  case atStart => exact ⟨0, by omega, rfl, by simp, HBel0.out⟩
  case round =>
    obtain ⟨k, hk, rfl, rfl, hbr⟩ := hrel
    have HBr : Hid (Below w1.heap.size w1 wr) := hbr
    have HBk : Hid (Blk wr p (evC x (.slice av x.a.length cv) (.slice ar x.r.length cr)) 37) := HB0.out.later hbr
    clear hbr a0 a1 a2 a3 a4 a5 a6 a7 a8 a9 a10 a11 a12 a13
    obtain ⟨a0, a1, a2, a3, a4, a5, a6, a7, a8, a9, a10, a11, a12, a13⟩ := ev_cells HBk.out
    by_cases hlt : k < x.a.length
    · have hlt' : (k : Int) < (x.a.length : Int) := by omega
      obtain ⟨b, o, rfl⟩ := vat_block' (H1.out.later HBr.out) (by omega)
      obtain ⟨c0, c1, c2⟩ := vat_cells' (H1.out.later HBr.out) rfl hlt
      have hP := fun w => vrprint_any (nv x.a k).1 (nv x.a k).2.1 (nv x.a k).2.2 w (HZ.out.2.2.1 k hlt) (Hb.out.2.2.2.1 k hlt)
      have hy := pv_len (right_a HR.out k hlt) (Hb.out.2.2.2.1 k hlt)
      have hnl := HLa.out
      have hj := HJa.out k
      have HJ : Hid (Lib.join (l0 x ++ (x.a.take (k + 1)).map pv) [32] = Lib.join (l0 x ++ (x.a.take k).map pv) [32] ++ [32] ++ pv (nv x.a k)) := snoc_pv _ x.a k hlt (l0_ne x)
      obtain ⟨y, hy2⟩ : ∃ y, pv (nv x.a k) = y := ⟨_, rfl⟩
      have hy3 : prt (nv x.a k).1 (nv x.a k).2.1 (nv x.a k).2.2 = bs y := by rw [← hy2]; exact (bs_tx _).symm
      rw [hy3] at hP
      rw [hy2] at HJ hy
      generalize Lib.join (l0 x ++ (x.a.take k).map pv) [32] = J at *
      have e1 : bs J ++ (⟨#[32]⟩ : ByteArray) = bs (J ++ [32]) := bs_app _ [32]
      have e2 := bs_app (J ++ [32]) y
      have z1 : (bs y).size = y.length := rfl
      have z2 : (bs J).size = J.length := rfl
      have z3 : (bs (J ++ [32])).size = J.length + 1 := by rw [bs_size]; simp
      have q1 : ¬ 9223372036854775807 < (bs J).size + 1 := by omega
      have q2 : ¬ 9223372036854775807 < (bs (J ++ [32])).size + (bs y).size := by omega
      have HP : Hid (∀ w, _) := hP
      clear hP hy2 hy3
      go_wp2_with fail
      refine (HP.out _).mono ?_
      rintro e w5 ⟨rfl, b5⟩
      have HB5 : Hid (Below w1.heap.size w1 w5) := below_next HBr.out b5
      clear b5
      go_wp2
      go_roundw
      case rel => exact ⟨k + 1, by omega, by go_num, by rw [HJ.out]; simp, HB5.out⟩
      case measure => simp [intOf]; omega
    · have e : k = x.a.length := by omega
      subst e
      rw [List.take_of_length_le (Nat.le_refl _)]
      clear hlt hk
      go_wp2
      go_loopw [3, 5] (fun s i w' => ∃ k : Nat, k ≤ x.r.length ∧ i = .int .i64 (k : Int) ∧ s = .string (bs (Lib.join (l0 x ++ x.a.map pv ++ (x.r.take k).map pv) [32])) ∧ Below w1.heap.size w1 w') (fun s i w' => x.r.length - (intOf i).toNat)
      case atStart => exact ⟨0, by omega, rfl, by simp, HBr.out⟩
      case round =>
        obtain ⟨k, hk, rfl, rfl, hbr⟩ := hrel
        have HBr : Hid (Below w1.heap.size w1 wr) := hbr
        have HBk : Hid (Blk wr p (evC x (.slice av x.a.length cv) (.slice ar x.r.length cr)) 37) := HB0.out.later hbr
        clear hbr a0 a1 a2 a3 a4 a5 a6 a7 a8 a9 a10 a11 a12 a13
        obtain ⟨a0, a1, a2, a3, a4, a5, a6, a7, a8, a9, a10, a11, a12, a13⟩ := ev_cells HBk.out
        by_cases hlt : k < x.r.length
        · have hlt' : (k : Int) < (x.r.length : Int) := by omega
          obtain ⟨b, o, rfl⟩ := vat_block' (H2.out.later HBr.out) (by omega)
          obtain ⟨c0, c1, c2⟩ := vat_cells' (H2.out.later HBr.out) rfl hlt
          have hP := fun w => vrprint_any (nv x.r k).1 (nv x.r k).2.1 (nv x.r k).2.2 w (HZ.out.2.2.2.1 k hlt) (Hb.out.2.2.2.2 k hlt)
          have hy := pv_len (right_r HR.out k hlt) (Hb.out.2.2.2.2 k hlt)
          have hnl := HLr.out
          have hj := HJr.out k
          have HJ : Hid (Lib.join (l0 x ++ x.a.map pv ++ (x.r.take (k + 1)).map pv) [32] = Lib.join (l0 x ++ x.a.map pv ++ (x.r.take k).map pv) [32] ++ [32] ++ pv (nv x.r k)) := snoc_pv _ x.r k hlt (l0a_ne x)
          obtain ⟨y, hy2⟩ : ∃ y, pv (nv x.r k) = y := ⟨_, rfl⟩
          have hy3 : prt (nv x.r k).1 (nv x.r k).2.1 (nv x.r k).2.2 = bs y := by rw [← hy2]; exact (bs_tx _).symm
          rw [hy3] at hP
          rw [hy2] at HJ hy
          generalize Lib.join (l0 x ++ x.a.map pv ++ (x.r.take k).map pv) [32] = J at *
          have e1 : bs J ++ (⟨#[32]⟩ : ByteArray) = bs (J ++ [32]) := bs_app _ [32]
          have e2 := bs_app (J ++ [32]) y
          have z1 : (bs y).size = y.length := rfl
          have z2 : (bs J).size = J.length := rfl
          have z3 : (bs (J ++ [32])).size = J.length + 1 := by rw [bs_size]; simp
          have q1 : ¬ 9223372036854775807 < (bs J).size + 1 := by omega
          have q2 : ¬ 9223372036854775807 < (bs (J ++ [32])).size + (bs y).size := by omega
          have HP : Hid (∀ w, _) := hP
          clear hP hy2 hy3
          go_wp2_with fail
          refine (HP.out _).mono ?_
          rintro e w5 ⟨rfl, b5⟩
          have HB5 : Hid (Below w1.heap.size w1 w5) := below_next HBr.out b5
          clear b5
          go_wp2
          go_roundw
          case rel => exact ⟨k + 1, by omega, by go_num, by rw [HJ.out]; simp, HB5.out⟩
          case measure => simp [intOf]; omega
        · have e : k = x.r.length := by omega
          subst e
          rw [List.take_of_length_le (Nat.le_refl _)]
          clear hlt hk
          have hj := HJr.out x.r.length
          rw [List.take_of_length_le (Nat.le_refl _)] at hj
          cases hnd : x.nd
          · have HE : Hid (Lib.join (lst (l0 x) x) [32] = Lib.join (l0 x ++ x.a.map pv ++ x.r.map pv) [32]) := by show _ = _; unfold lst; rw [hnd]; simp
            rw [hnd] at a12
            clear hnd
            go_wp2
            go_ret
            exact ⟨by rw [HE.out]; rfl, below_next Hw1.out HBr.out⟩
          · have HE : Hid (Lib.join (lst (l0 x) x) [32] = Lib.join (l0 x ++ x.a.map pv ++ x.r.map pv) [32] ++ [32, 59] ++ tx x.n) := by
              show _ = _
              unfold lst
              rw [hnd, if_pos rfl, join_snoc _ _ (by intro e; exact l0a_ne x (List.append_eq_nil_iff.1 e).1)]
              simp
            rw [hnd] at a12
            clear hnd
            generalize Lib.join (l0 x ++ x.a.map pv ++ x.r.map pv) [32] = J at *
            have ln := HLn.out
            have e1 : bs J ++ (⟨#[32, 59]⟩ : ByteArray) = bs (J ++ [32, 59]) := bs_app _ [32, 59]
            have e2 : bs (J ++ [32, 59]) ++ x.n = bs (J ++ [32, 59] ++ tx x.n) := by
              have h := bs_app (J ++ [32, 59]) (tx x.n)
              rw [bs_tx] at h; exact h
            have z2 : (bs J).size = J.length := rfl
            have z3 : (bs (J ++ [32, 59])).size = J.length + 2 := by rw [bs_size]; simp
            have q1 : ¬ 9223372036854775807 < (bs J).size + 2 := by omega
            have q2 : ¬ 9223372036854775807 < (bs (J ++ [32, 59])).size + x.n.size := by omega
            go_wp2
            go_ret
            exact ⟨by rw [HE.out]; show Ending.returned (.string (bs (J ++ 32 :: 59 :: tx x.n))) = _; simp, below_next Hw1.out HBr.out⟩
end Go.Proofs.YtdhlheilgagcpaaGreatDoor
