/- Bytes of an array masked by a byte. Conditions: the array has 64 bytes. -/
import Derived.Test.YtilfmemfnheppaaDoorE
namespace Go.Proofs.YtilfmemfnheppaaDoor
open Go.RowKit Hx
set_option linter.unusedVariables false

/-- the first k of A, and behind them what X has there -/
def mx (A X : List Int) (k : Nat) : List Int := A.take k ++ X.drop k
theorem mx_zero (A X : List Int) : mx A X 0 = X := by simp [mx]
theorem mx_full (A X : List Int) (h : A.length = X.length) : mx A X X.length = A := by simp [mx, ← h]
theorem mx_len (A X : List Int) (h : A.length = X.length) (k : Nat) (hk : k ≤ X.length) : (mx A X k).length = X.length := by simp [mx]; omega
theorem mx_at (A X : List Int) (h : A.length = X.length) (k : Nat) (hk : k < X.length) : nth (mx A X k) k = nth X k := by
  rw [nth_eq _ k (by rw [mx_len A X h k (by omega)]; exact hk), nth_eq X k hk]
  unfold mx
  rw [List.getElem_append_right (by simp; omega)]
  simp [h, Nat.min_eq_left (Nat.le_of_lt hk)]
theorem mx_set (A X : List Int) (h : A.length = X.length) (k : Nat) (hk : k < X.length) : (mx A X k).set k (nth A k) = mx A X (k + 1) := by
  unfold mx
  have e : (A.take k).length = k := by simp; omega
  rw [List.set_append, if_neg (by omega), e, Nat.sub_self, List.drop_eq_getElem_cons hk, List.set_cons_zero, nth_eq A k (by omega), List.take_succ_eq_append_getElem (show k < A.length by omega), List.append_assoc]
  rfl

/-- each byte exclusive or the mask -/
def xorL (X : List Int) (m : Int) : List Int := X.map fun x => bits .xor .u8 x m
theorem xorL_len (X : List Int) (m : Int) : (xorL X m).length = X.length := by simp [xorL]
theorem xorL_at (X : List Int) (m : Int) (i : Nat) (h : i < X.length) : nth (xorL X m) i = bits .xor .u8 (nth X i) m := by
  rw [nth_eq _ i (by rw [xorL_len]; exact h), nth_eq X i h]; simp [xorL]
theorem bits8 (op : BinOp) (a b : Int) : 0 ≤ bits op .u8 a b ∧ bits op .u8 a b ≤ 255 := by
  unfold bits
  rw [IntKind.wrap_u8]
  omega
theorem xorL_bd (X : List Int) (m : Int) : ∀ x ∈ xorL X m, 0 ≤ x ∧ x ≤ 255 := by
  intro x hx
  simp only [xorL, List.mem_map] at hx
  obtain ⟨y, _, rfl⟩ := hx
  exact bits8 _ _ _
theorem Tryd.zero59 : (Tryd.prog.info? 59).bind (·.zero) = some (arr .u8 (List.replicate 64 0)) := by kernel_rfl

set_option maxRecDepth 100000 in
set_option maxHeartbeats 1000000 in
theorem masked_any (X : List Int) (hX : X.length = 64) (m : Int) (w : World) :
    Calls Tryd.prog 34 #[arr .u8 X, .int .u8 m] w fun en w' => en = .returned (arr .u8 (xorL X m)) ∧ Below w.heap.size w w' := by
  have h64 : (Tryd.prog.info? 59).map (·.size) = some (xorL X m).length := by rw [xorL_len, hX]; exact Tryd.size59
  have hxl := xorL_len X m
  go_enter Tryd.func34, Tryd.ntmps34
  go_wp2_with (first
    | ((with_reducible refine wp_boxR 59 (.tmp 0) .u8 X ?_ ?_ ?_); (exact rfl); (exact ⟨rfl, rfl⟩); intro p1 w1 hg1 hr1 hb1)
    | ((with_reducible refine wp_allocD 4 59 .u8 64 Tryd.zero59 ?_ ?_); (exact ⟨rfl, rfl, rfl⟩); intro p2 w2 hg2 hr2 hb2))
  have HI : Hid (Row w2 p1 .u8 (mx (xorL X m) X 0) ∧ Row w2 p2 .u8 (List.replicate 64 0) ∧ Below w.heap.size w w2) := ⟨by rw [mx_zero]; exact hr1.later hb2, hr2, below_next hb1 hb2⟩
  have q1 : w.heap.size ≤ p1 := hg1
  have q2 : p1 < p2 := Nat.lt_of_lt_of_le hr1.lt hg2
  clear hr1 hr2 hb1 hb2 hg1 hg2
  go_loopw [6] (fun i wr => ∃ k : Nat, k ≤ 64 ∧ i = .int .i64 k ∧ Hid (Row wr p1 .u8 (mx (xorL X m) X k) ∧ Row wr p2 .u8 (List.replicate 64 0) ∧ Below w.heap.size w wr)) (fun i _ => 64 - (intOf i).toNat)
  case atStart => exact ⟨0, by omega, rfl, HI.out⟩
  case round =>
    clear HI
    obtain ⟨k, hk, rfl, HI⟩ := hrel
    by_cases hlt : k < 64
    · obtain ⟨r1, r2, hb⟩ := HI.out
      have hlt' : (k : Int) < 64 := by omega
      have hk0 : (0 : Int) ≤ (k : Int) := by omega
      have c1 := r1.cell k (by rw [mx_len _ _ hxl k (by omega)]; omega)
      have f1 := r1.froz k
      rw [mx_at _ _ hxl k (by omega)] at c1
      have HM : Hid ((mx (xorL X m) X k).set k (bits .xor .u8 (nth X k) m) = mx (xorL X m) X (k + 1)) := by
        show _ = _
        rw [← xorL_at X m k (by omega)]; exact mx_set _ _ hxl k (by omega)
      clear r1 r2 hb
      generalize nth X k = Y at *
      go_wp2
      go_roundw
      case rel =>
        obtain ⟨r1, r2, hb⟩ := HI.out
        have o := only_setCell wr p1 k (.int .u8 (bits .xor .u8 Y m))
        have h6 := r1.set k (bits .xor .u8 Y m)
        rw [HM.out] at h6
        have a2 := r2.only o (show p2 ≠ p1 by omega)
        exact ⟨k + 1, by omega, by go_num, h6, a2, (below_only hb o (by omega) (Nat.le_refl _))⟩
      case measure => simp [intOf]; omega
    · have hk' : k = 64 := by omega
      subst hk'
      obtain ⟨r1, r2, hb⟩ := HI.out
      have e := mx_full (xorL X m) X hxl
      rw [hX] at e
      rw [e] at r1
      have R1 : Hid (Row wr p1 .u8 (xorL X m)) := r1
      have R2 : Hid (Row wr p2 .u8 (List.replicate 64 0)) := r2
      have HB : Hid (Below w.heap.size w wr) := hb
      clear r1 r2 hb HI
      go_wp2_with (first
        | ((with_reducible refine wp_loadR 59 (.tmp 2) p1 .u8 (xorL X m) _ Tryd.underlying59 rfl h64 ?_ ?_ R1.out ?_); (exact ⟨rfl, rfl⟩); (exact rfl))
        | ((with_reducible refine wp_storeR 59 (.tmp 4) (.tmp 16) p2 .u8 (List.replicate 64 0) (xorL X m) h64 ?_ ?_ ?_ ?_ R2.out ?_); (rw [xorL_len, hX]; rfl); (exact ⟨rfl, rfl⟩); (exact rfl); (exact rfl); intro w4 r4 h4))
      refine ret_row rfl p2 .u8 (xorL X m) _ Tryd.underlying59 rfl h64 rfl r4 rfl ⟨rfl, ?_⟩
      exact below_only HB.out h4 (by omega) (Nat.le_refl _)
end Go.Proofs.YtilfmemfnheppaaDoor
