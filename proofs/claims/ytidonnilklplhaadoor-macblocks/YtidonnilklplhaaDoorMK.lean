/- Are two arrays of bytes the same, and are two rows of bytes? No conditions. -/
import Derived.Test.YtidonnilklplhaaDoorMB
import Derived.Test.YtidonnilklplhaaDoorU
namespace Go.Proofs.YtidonnilklplhaaDoor
open Go.RowKit Hx
set_option linter.unusedVariables false

theorem eqv5 (d : Nat) (x y : Int) (w : World) : (Op.equalIn (d + 1) 5 (.int .u8 x) (.int .u8 y)).run Tryd.prog w = .ok (decide (x = y)) w := by
  simp [Op.equalIn, run_underlying Tryd.underlying5]
  rfl
theorem eqa29_in (d : Nat) (X Y : List Int) (hX : X.length = 64) (hY : Y.length = 64) (w : World) : (Op.equalIn (d + 2) 29 (arr .u8 X) (arr .u8 Y)).run Tryd.prog w = .ok (decide (X = Y)) w := by
  unfold arr
  rw [Op.equalIn]
  simp only [Sem.run_bind, run_underlying Tryd.underlying29, Result.andThen_ok, Tryd.sizeOf5, Std.Legacy.Range.forIn_eq_forIn_range', Std.Legacy.Range.size, Nat.sub_zero, Nat.add_sub_cancel, Nat.div_one]
  have hl : ∀ i ∈ List.range' 0 64 1, i < 64 := fun i hi => by simpa using (List.mem_range'_1.1 hi).2
  have hr : (X = Y) ↔ ∀ i ∈ List.range' 0 64 1, nth X i = nth Y i := by
    constructor
    · intro h i _; rw [h]
    · intro h
      refine List.ext_getElem (by omega) fun i h1 h2 => ?_
      rw [← nth_eq X i h1, ← nth_eq Y i h2]
      exact h i (by simp; omega)
  have hd : decide (X = Y) = decide (∀ i ∈ List.range' 0 64 1, nth X i = nth Y i) := by simp only [hr]
  rw [hd]
  clear hd hr
  generalize List.range' 0 64 1 = l at hl ⊢
  induction l with
  | nil => simp
  | cons i l ih =>
    have hi : i < 64 := hl i (by simp)
    have px : (Go.part 5 (cellsK .u8 X).toArray (i * 1)).run Tryd.prog w = .ok (.int .u8 (nth X i)) w := by
      rw [Nat.mul_one]; exact part24 X i (by omega) w
    have py : (Go.part 5 (cellsK .u8 Y).toArray (i * 1)).run Tryd.prog w = .ok (.int .u8 (nth Y i)) w := by
      rw [Nat.mul_one]; exact part24 Y i (by omega) w
    simp only [List.forIn_cons, Sem.run_bind, px, py, eqv5, Result.andThen_ok]
    by_cases he : nth X i = nth Y i
    · simp only [he, decide_true, Bool.not_true, Bool.false_eq_true, if_false, Sem.run_pure, Result.andThen_ok]
      rw [ih fun j hj => hl j (by simp [hj])]
      simp [he]
    · simp [he]
theorem eqa29 (X Y : List Int) (hX : X.length = 64) (hY : Y.length = 64) (w : World) : (binOp .eql 29 (arr .u8 X) (arr .u8 Y)).run Tryd.prog w = .ok (.bool (decide (X = Y))) w := by
  have := eqa29_in 9998 X Y hX hY w
  unfold arr at this ⊢
  rw [run_eql_struct, this]
  rfl
theorem eqga29 (X Y : List Int) (x y : Operand) (w : World) : (eqGuard .eql 29 x y (arr .u8 X) (arr .u8 Y)).run Tryd.prog w = .ok () w := run_eqGuard_agg w .eql 29 x y _ _ (by kernel_rfl)

/-- 64 noughts -/
def n64 : List Int := List.replicate 64 0
theorem n64_at (i : Nat) : nth n64 i = 0 := by
  by_cases h : i < 64
  · rw [nth_eq n64 i h]; unfold n64; rw [List.getElem_replicate]
  · unfold nth; rw [List.getD_eq_getElem?_getD, List.getElem?_eq_none (show n64.length ≤ i by show 64 ≤ i; omega)]; rfl
theorem all64 (U : List Int) (h : U.length = 64) : U = n64 ↔ ∀ i, i < 64 → nth U i = 0 := by
  constructor
  · intro e i _; rw [e, n64_at]
  · intro h'
    refine List.ext_getElem (by rw [h]; rfl) fun i h1 h2 => ?_
    rw [← nth_eq U i h1, ← nth_eq n64 i h2, n64_at]; exact h' i (by rw [h] at h1; exact h1)
theorem nth_set (U : List Int) (r i : Nat) (x : Int) (h : r < U.length) : nth (U.set r x) i = if i = r then x else nth U i := by
  unfold nth
  simp only [List.getD_eq_getElem?_getD, List.getElem?_set]
  by_cases e : r = i
  · subst e; simp [h]
  · rw [if_neg e, if_neg (Ne.symm e)]
/-- or and exclusive or of bytes: nought just if -/
theorem or_nought (z x y : Int) (hz : 0 ≤ z ∧ z ≤ 255) (hx : 0 ≤ x ∧ x ≤ 255) (hy : 0 ≤ y ∧ y ≤ 255) : bits .or .u8 z (bits .xor .u8 x y) = 0 ↔ z = 0 ∧ x = y := by
  obtain ⟨Z, rfl⟩ := Int.eq_ofNat_of_zero_le hz.1
  obtain ⟨X, rfl⟩ := Int.eq_ofNat_of_zero_le hx.1
  obtain ⟨Y, rfl⟩ := Int.eq_ofNat_of_zero_le hy.1
  have e1 : bits .xor .u8 (X : Int) (Y : Int) = ((X ^^^ Y : Nat) : Int) := by
    rw [u8_xor _ _ hx.1 (by omega) hy.1 (by omega)]; simp
  have hb := bits8 .xor (X : Int) (Y : Int)
  rw [e1] at hb ⊢
  have e2 : bits .or .u8 (Z : Int) ((X ^^^ Y : Nat) : Int) = ((Z ||| (X ^^^ Y) : Nat) : Int) := by
    rw [u8_or _ _ hz.1 (by omega) hb.1 (by omega)]; simp
  rw [e2]
  have e3 : (Z ||| (X ^^^ Y)) = 0 ↔ Z = 0 ∧ X = Y := by
    rw [Nat.or_eq_zero_iff]
    refine and_congr_right fun _ => ⟨fun h => ?_, fun h => by rw [h, Nat.xor_self]⟩
    have e : X ^^^ (X ^^^ Y) = Y := by rw [← Nat.xor_assoc, Nat.xor_self, Nat.zero_xor]
    rw [h, Nat.xor_zero] at e
    exact e
  omega

theorem Tryd.zeroN : (Tryd.prog.info? 29).bind (·.zero) = some (arr .u8 n64) := by kernel_rfl

set_option maxRecDepth 100000 in
set_option maxHeartbeats 1000000 in
theorem msame_any (v u : Value) (xs ys : List Int) (w : World) (hv : Sl w v xs) (hu : Sl w u ys) :
    Calls Tryd.prog 18 #[v, u] w fun e w' => e = .returned (.bool (sameB xs ys)) ∧ Below w.heap.size w w' := by
  obtain ⟨a, cap, rfl, hx, hl, hc, hr⟩ := hv
  obtain ⟨a', cap', rfl, hx', hl', hc', hr'⟩ := hu
  by_cases hlen : xs.length = ys.length
  · have HL : Hid (xs.length = ys.length) := hlen
    have hne : ((xs.length : Int) != (ys.length : Int)) = false := by simp [hlen]
    have h1 : xs.length ≤ ys.length := by omega
    have h2 : ys.length ≤ xs.length := by omega
    have h64 : (Tryd.prog.info? 29).map (·.size) = some n64.length := Tryd.size29
    have hn : n64.length = 64 := rfl
    clear hlen
    go_enter Tryd.func18, Tryd.ntmps18
    go_wp2_with ((with_reducible refine wp_allocD 5 29 .u8 64 Tryd.zero29 ?_ ?_); (exact ⟨rfl, rfl, rfl⟩); intro p5 w5 hg5 hr5 hb5)
    have HI : Hid (∃ U, Row w5 p5 .u8 U ∧ U.length = 64 ∧ By U ∧ (U = n64 ↔ ∀ j, j < 0 → nth xs j = nth ys j) ∧ Below w.heap.size w w5) :=
      ⟨n64, hr5, hn, fun x hx => by have := List.eq_of_mem_replicate hx; omega, ⟨fun _ j hj => by omega, fun _ => rfl⟩, hb5⟩
    have q5 : w.heap.size ≤ p5 := hg5
    clear hr5 hb5 hg5
    go_loopw [14] (fun i wr => ∃ k : Nat, k ≤ xs.length ∧ i = .int .i64 k ∧ Hid (∃ U, Row wr p5 .u8 U ∧ U.length = 64 ∧ By U ∧ (U = n64 ↔ ∀ j, j < k → nth xs j = nth ys j) ∧ Below w.heap.size w wr)) (fun i _ => xs.length - (intOf i).toNat)
    case atStart => exact ⟨0, by omega, rfl, HI.out⟩
    case round =>
      clear HI
      obtain ⟨k, hk, rfl, HI⟩ := hrel
      obtain ⟨U, r, hU, hBy, hiff, hb⟩ := HI.out
      by_cases hlt : k < xs.length
      · obtain ⟨b, off, rfl, hbs, hcell⟩ := hr (by omega)
        obtain ⟨b', off', rfl, hbs', hcell'⟩ := hr' (by omega)
        have hlt' : (k : Int) < (xs.length : Int) := by omega
        have hlt2 : (k : Int) < (ys.length : Int) := by omega
        have hk0 : (0 : Int) ≤ (k : Int) := by omega
        have ca : wr.cell? ⟨b, off + k, none⟩ = some (.int .u8 (nth xs k)) := (hb.cell (p := ⟨b, off + k, none⟩) hbs).trans (hcell k hlt)
        have cb : wr.cell? ⟨b', off' + k, none⟩ = some (.int .u8 (nth ys k)) := (hb.cell (p := ⟨b', off' + k, none⟩) hbs').trans (hcell' k (by omega))
        obtain ⟨m, hm⟩ : ∃ m, m = k % 64 := ⟨_, rfl⟩
        have er : (k : Int).tmod 64 = (m : Int) := by rw [Int.tmod_eq_emod_of_nonneg (by omega)]; omega
        have hm0 : (0 : Int) ≤ (m : Int) := by omega
        have hm64 : (m : Int) < 64 := by omega
        have hm64n : m < 64 := by omega
        have cu := r.cell m (by omega)
        have fu := r.froz m
        have bx := nth_bd hx k
        have by' := nth_bd hx' k
        have bz := nth_bd hBy m
        have HO : Hid (bits .or .u8 (nth U m) (bits .xor .u8 (nth xs k) (nth ys k)) = 0 ↔ nth U m = 0 ∧ nth xs k = nth ys k) := or_nought _ _ _ bz bx by'
        have HS : Hid (∀ i x, nth (U.set m x) i = if i = m then x else nth U i) := fun i x => nth_set U m i x (by omega)
        have HB8 := bits8 .or (nth U m) (bits .xor .u8 (nth xs k) (nth ys k))
        have HK : Hid (∀ j, (j < k + 1 → nth xs j = nth ys j) ↔ ((j < k → nth xs j = nth ys j) ∧ (j = k → nth xs k = nth ys k))) := by
          intro j
          constructor
          · intro h; exact ⟨fun hj => h (by omega), fun hj => hj ▸ h (by omega)⟩
          · intro h hj
            by_cases e : j = k
            · subst e; exact h.2 rfl
            · exact h.1 (by omega)
        clear hm hcell hcell' hr hr'
        have HR : Hid (Row wr p5 .u8 U ∧ U.length = 64 ∧ By U ∧ (U = n64 ↔ ∀ j, j < k → nth xs j = nth ys j) ∧ Below w.heap.size w wr) := ⟨r, hU, hBy, hiff, hb⟩
        clear r hU hBy hiff hb bx by' bz
        generalize hX : nth xs k = X at *
        generalize hY : nth ys k = Y at *
        generalize hZ : nth U m = Z at *
        have HXYZ : Hid (nth xs k = X ∧ nth ys k = Y ∧ nth U m = Z) := ⟨hX, hY, hZ⟩
        clear hX hY hZ
        go_wp2
        refine wp_region_still_tail 15 Tryd.mixed (by kernel_rfl) ?_
        simp only [List.take_succ_cons, List.take_zero, List.drop_succ_cons, List.drop_zero]
        repeat still_step
        refine wpStill_nil ?_
        go_wp2
        go_roundw
        case rel =>
          obtain ⟨r, hU, hBy, hiff, hb⟩ := HR.out
          have o := only_setCell wr p5 m (.int .u8 (bits .or .u8 Z (bits .xor .u8 X Y)))
          have h6 := r.set m (bits .or .u8 Z (bits .xor .u8 X Y))
          refine ⟨k + 1, by omega, by go_num, U.set m (bits .or .u8 Z (bits .xor .u8 X Y)), h6, by simpa using hU, hBy.set m HB8, ?_, (below_only hb o (by omega) (Nat.le_refl _)).drew⟩
          obtain ⟨hX, hY, hZ⟩ := HXYZ.out
          rw [all64 _ (by simpa using hU)]
          rw [all64 U hU] at hiff
          constructor
          · intro hall j hj
            have hm := hall m hm64n
            rw [HS.out, if_pos rfl, HO.out] at hm
            have hold : ∀ i, i < 64 → nth U i = 0 := by
              intro i hi
              have h := hall i hi
              rw [HS.out] at h
              by_cases e : i = m
              · subst e; rw [hZ]; exact hm.1
              · rw [if_neg e] at h; exact h
            by_cases e : j = k
            · subst e; rw [hX, hY]; exact hm.2
            · exact hiff.1 hold j (by omega)
          · intro hall i hi
            have hold := hiff.2 fun j hj => hall j (by omega)
            rw [HS.out]
            by_cases e : i = m
            · rw [if_pos e, HO.out]
              refine ⟨?_, ?_⟩
              · rw [← hZ]; exact hold m hm64n
              · have := hall k (by omega); rw [hX, hY] at this; exact this
            · rw [if_neg e]; exact hold i hi
        case measure => simp [intOf]; omega
      · have hk' : k = xs.length := by omega
        subst hk'
        have HR : Hid (Row wr p5 .u8 U) := r
        have hUs : (Tryd.prog.info? 29).map (·.size) = some U.length := by rw [hU]; exact Tryd.size29
        have e1 := fun (w : World) => eqga29 U n64 (.tmp 33) (.tmp 34) w
        have e2 := fun (w : World) => eqa29 U n64 hU hn w
        have hfin : sameB xs ys = decide (U = n64) := by
          unfold sameB
          rw [decide_eq_decide, hiff]
          constructor
          · intro e j _; rw [e]
          · intro h
            refine List.ext_getElem HL.out fun i h1 h2 => ?_
            rw [← nth_eq xs i h1, ← nth_eq ys i h2]; exact h i h1
        have HF : Hid (sameB xs ys = decide (U = n64)) := hfin
        have HB : Hid (Below w.heap.size w wr) := hb
        clear r hiff hb hBy HI hfin hr hr'
        go_wp2_with (first
          | ((with_reducible refine wp_loadR 29 (.tmp 5) p5 .u8 U _ Tryd.underlying29 rfl hUs ?_ ?_ HR.out ?_); (exact ⟨rfl, rfl⟩); (exact rfl))
          | ((with_reducible refine wp_buildR 29 .u8 n64 ?_ ?_); (exact ⟨rfl, _, rfl, by kernel_rfl⟩)))
        go_ret
        exact ⟨ret_bool HF.out.symm, HB.out⟩
  · have hne : ((xs.length : Int) != (ys.length : Int)) = true := by simp; omega
    have hs := sameB_len hlen
    clear hlen hr hr'
    go_enter Tryd.func18, Tryd.ntmps18
    go_wp2
    go_ret
    exact ⟨ret_bool hs.symm, Below.refl _ _⟩
end Go.Proofs.YtidonnilklplhaaDoor
