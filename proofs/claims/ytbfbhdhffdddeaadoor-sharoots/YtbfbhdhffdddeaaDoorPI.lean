/- The contract of the document's own times: the product of two rows of digits. Conditions: the rows are not empty and short. -/
import Derived.Test.YtbfbhdhffdddeaaDoorPH
namespace Go.Proofs.YtbfbhdhffdddeaaDoor.Pr
open Go.RowKit
set_option linter.unusedVariables false
set_option linter.unusedSimpArgs false

theorem nth_set (zs : List Int) (p j : Nat) (x : Int) : nth (zs.set p x) j = if p = j ∧ p < zs.length then x else nth zs j := by
  unfold nth
  simp only [List.getD_eq_getElem?_getD, List.getElem?_set]
  by_cases h : p = j
  · subst h
    by_cases h2 : p < zs.length
    · simp [h2]
    · simp [h2]
  · simp [h]

theorem dg_set {zs : List Int} (h : Dg zs) (p : Nat) (x : Int) (h0 : 0 ≤ x) (h1 : x ≤ 255) : Dg (zs.set p x) := by
  intro y hy
  rcases List.mem_or_eq_of_mem_set hy with hy | hy
  · exact h y hy
  · omega

/-- the state of the product when i digits of xs, and of the next one k with ys, are done; ov is carried -/
structure Mid (xs ys : List Int) (i k : Nat) (zs : List Int) (ov : Int) : Prop where
  len : zs.length = xs.length + ys.length
  dg : Dg zs
  zero : ∀ j, i + ys.length ≤ j → nth zs j = 0
  ov0 : 0 ≤ ov
  ov1 : ov ≤ 255
  worth : val zs + ov * 256 ^ (i + k) = val (xs.take i) * val ys + nth xs i * 256 ^ i * val (ys.take k)

theorem Mid.next {xs ys zs : List Int} {i k : Nat} {ov : Int} (h : Mid xs ys i k zs ov) (hx : Dg xs) (hy : Dg ys) (hi : i < xs.length) (hk : k < ys.length) (X : Int)
    (hX : X = nth zs (i + k) + nth xs i * nth ys k + ov) (hX0 : 0 ≤ X) (hX1 : X ≤ 65535) : Mid xs ys i (k + 1) (zs.set (i + k) (X % 256)) (X / 256) := by
  refine ⟨by rw [List.length_set]; exact h.len, dg_set h.dg _ _ (by omega) (by omega), fun j hj => ?_, by omega, by omega, ?_⟩
  · rw [nth_set, if_neg (by omega)]; exact h.zero j hj
  · rw [val_set _ _ _ (by rw [h.len]; omega), val_take ys k hk]
    have e := h.worth
    have ex : X = 256 * (X / 256) + X % 256 := by omega
    have ep : (256 : Int) ^ (i + (k + 1)) = 256 ^ (i + k) * 256 := by rw [← Nat.add_assoc, Int.pow_succ]
    have eq : (256 : Int) ^ (i + k) = 256 ^ i * 256 ^ k := Int.pow_add _ _ _
    rw [ep]
    generalize (256 : Int) ^ (i + k) = T at *
    generalize (256 : Int) ^ i = A at *
    generalize (256 : Int) ^ k = B at *
    generalize X / 256 = q at *
    generalize X % 256 = r at *
    generalize nth zs (i + k) = z at *
    generalize nth xs i = c at *
    generalize nth ys k = d at *
    generalize val (ys.take k) = Y at *
    generalize val (xs.take i) * val ys = G at *
    generalize val zs = V at *
    subst eq
    have e3 : A * B * r + q * (A * B * 256) = A * B * X := by rw [ex]; simp only [Int.mul_add, Int.add_mul, Int.mul_sub, Int.sub_mul, Int.mul_assoc, Int.mul_comm, Int.mul_left_comm] at * <;> omega
    have e4 : A * B * X = A * B * z + A * B * (c * d) + A * B * ov := by rw [hX]; simp only [Int.mul_add, Int.add_mul, Int.mul_sub, Int.sub_mul, Int.mul_assoc, Int.mul_comm, Int.mul_left_comm] at * <;> omega
    simp only [Int.mul_add, Int.add_mul, Int.mul_sub, Int.sub_mul, Int.mul_assoc, Int.mul_comm, Int.mul_left_comm] at * <;> omega

theorem Mid.done {xs ys zs : List Int} {i : Nat} {ov : Int} (h : Mid xs ys i ys.length zs ov) (hi : i < xs.length) :
    Mid xs ys (i + 1) 0 (zs.set (i + ys.length) (nth zs (i + ys.length) + ov)) 0 := by
  have hz := h.zero (i + ys.length) (Nat.le_refl _)
  have h0 := h.ov0
  have h1 := h.ov1
  refine ⟨by rw [List.length_set]; exact h.len, dg_set h.dg _ _ (by omega) (by omega), fun j hj => ?_, by omega, by omega, ?_⟩
  · rw [nth_set, if_neg (by omega)]; exact h.zero j (by omega)
  · rw [val_set _ _ _ (by rw [h.len]; omega), val_take xs i hi, hz]
    have e := h.worth
    rw [List.take_length] at e
    have e0 : val (ys.take 0) = 0 := by simp [val]
    rw [e0]
    generalize (256 : Int) ^ (i + ys.length) = T at *
    generalize (256 : Int) ^ i = A at *
    generalize nth xs i = c at *
    generalize val (xs.take i) = P at *
    generalize val ys = Y at *
    generalize val zs = V at *
    generalize (256 : Int) ^ (i + 1 + 0) = S at *
    simp only [Int.mul_add, Int.add_mul, Int.mul_sub, Int.sub_mul, Int.mul_assoc, Int.mul_comm, Int.mul_left_comm] at * <;> omega

theorem Mid.start (xs ys : List Int) : Mid xs ys 0 0 (List.replicate (xs.length + ys.length) 0) 0 := by
  refine ⟨by simp, fun x h => ?_, fun j hj => ?_, by omega, by omega, ?_⟩
  · have := List.eq_of_mem_replicate h; omega
  · unfold nth; simp [List.getElem?_replicate]; split <;> rfl
  · rw [val_zeros]; simp [val]

theorem Mid.over {xs ys zs : List Int} (h : Mid xs ys xs.length 0 zs 0) : val zs = val xs * val ys := by
  have := h.worth
  simp [val] at this
  exact this
theorem made_zeros (m : Nat) : (madeCells (Value.int .i64 0).cells (m * 1)).toList = cellsI (List.replicate m 0) := by
  rw [Nat.mul_one]
  show (madeCells #[.int .i64 0] m).toList = _
  rw [toList_madeCells_one]
  simp [cellsI]

theorem sl_lt {w : World} {v : Value} {xs : List Int} (h : Sl w v xs) : ∃ (a : Option Addr) (cap : Nat), v = .slice a xs.length cap := by
  obtain ⟨a, cap, hv, _⟩ := h
  exact ⟨a, cap, hv⟩

set_option maxHeartbeats 1000000 in
theorem times_any (v u : Value) (xs ys : List Int) (w : World) (hv : Sl w v xs) (hu : Sl w u ys) (hs : xs.length + ys.length ≤ 100) :
    Calls Tryd.prog 44 #[v, u] w fun e w' => ∃ r, e = .returned r ∧ (∃ zs, Sl w' r zs ∧ val zs = val xs * val ys ∧ zs.length = xs.length + ys.length) ∧ Below w.heap.size w w' := by
  obtain ⟨i0, hi, hz0, hz1, hz2⟩ := info_parts Tryd.info3
  obtain ⟨a, cap, rfl, hx, hl, hc, hr⟩ := hv
  obtain ⟨a', cap', rfl, hy, hl', hc', hr'⟩ := hu
  obtain ⟨m, hm⟩ : ∃ m, m = xs.length + ys.length := ⟨_, rfl⟩
  have hmI : (xs.length : Int) + (ys.length : Int) = (m : Int) := by omega
  have hmk : ∀ w1 : World, w1.ownsRow w.heap.size 3 1 (.slice (some ⟨w.heap.size, 0, none⟩) m m) m (madeCells (Value.int .i64 0).cells (m * 1)).toList → Hid (w1.ownsRow w.heap.size 3 1 (.slice (some ⟨w.heap.size, 0, none⟩) m m) m (cellsI (List.replicate m 0))) := by
    intro w1 h; rw [made_zeros m] at h; exact h
  have hm100 : m ≤ 100 := by omega
  have HM : Hid (m = xs.length + ys.length) := hm
  have HR : Hid (0 < xs.length → ∃ b off, a = some ⟨b, off, none⟩ ∧ b < w.heap.size ∧ ∀ i, i < xs.length → w.cell? ⟨b, off + i, none⟩ = some (.int .i64 (nth xs i))) := hr
  have HR' : Hid (0 < ys.length → ∃ b off, a' = some ⟨b, off, none⟩ ∧ b < w.heap.size ∧ ∀ i, i < ys.length → w.cell? ⟨b, off + i, none⟩ = some (.int .i64 (nth ys i))) := hr'
  clear hr hr' hm
  go_enter Tryd.func44, Tryd.ntmps44
  go_wp2_with (at_make; refine wpList_make_full _ rfl (.tmp 14) (.tmp 14) 62 rfl w.heap.size 3 i0 (.int .i64 0) 1 Tryd.underlying62 hi hz0 hz1 .i64 .i64 _ _ m rfl rfl (by omega) (by omega) (by rw [hz2]; omega) (by unfold maxLen; omega) (Nat.le_refl _) ?_; intro w1 hown hgrow; replace hown := hmk _ hown)
  have hb1 : Below w.heap.size w w1 := (Below.refl _ _).grown hgrow (Nat.le_refl _) (fun k h => by cases h)
  clear hmk hgrow
  go_loopw [6] (fun i wr => ∃ (k : Nat) (zs : List Int), k ≤ xs.length ∧ i = .int .i64 k ∧ Hid (Mid xs ys k 0 zs 0) ∧ Hid (wr.ownsRow w.heap.size 3 1 (.slice (some ⟨w.heap.size, 0, none⟩) m m) m (cellsI zs)) ∧ Below w.heap.size w wr) (fun i _ => xs.length - (intOf i).toNat)
  case atStart => exact ⟨0, List.replicate m 0, by omega, rfl, (show Mid xs ys 0 0 (List.replicate m 0) 0 from by rw [HM.out]; exact Mid.start xs ys), hown.out, hb1⟩
  case round =>
    clear hown hb1
    obtain ⟨k, zs, hk, rfl, HMid, HO, hb⟩ := hrel
    by_cases hlt : k < xs.length
    · obtain ⟨b, off, rfl, hbs, hcell⟩ := HR.out (by omega)
      have CX : Hid (∀ wr2, Below w.heap.size w wr2 → wr2.cell? ⟨b, off + k, none⟩ = some (.int .i64 (nth xs k))) := fun wr2 hb2 => (hb2.cell (p := ⟨b, off + k, none⟩) hbs).trans (hcell k hlt)
      have hlt' : (k : Int) < (xs.length : Int) := by omega
      have bx := nth_bd hx k
      clear hcell
      go_wp2
      go_loopw [7, 8] (fun ov j wr2 => ∃ (k2 : Nat) (zs2 : List Int) (o : Int), k2 ≤ ys.length ∧ j = .int .i64 k2 ∧ ov = .int .i64 o ∧ Hid (Mid xs ys k k2 zs2 o) ∧ Hid (wr2.ownsRow w.heap.size 3 1 (.slice (some ⟨w.heap.size, 0, none⟩) m m) m (cellsI zs2)) ∧ Below w.heap.size w wr2) (fun _ j _ => ys.length - (intOf j).toNat)
      case atStart => exact ⟨0, zs, 0, by omega, rfl, rfl, HMid, HO, hb⟩
      case round =>
        clear HMid HO hb
        obtain ⟨k2, zs2, o, hk2, rfl, rfl, HMid, HO, hb⟩ := hrel
        have o0 := HMid.out.ov0
        have o1 := HMid.out.ov1
        have hlen := HMid.out.len
        have HLen : Hid (zs2.length = m) := by rw [hlen]; exact HM.out.symm
        clear hlen
        obtain ⟨d, hd⟩ : ∃ d, d = k + k2 := ⟨_, rfl⟩
        have hidx : (k : Int) + (k2 : Int) = (d : Int) := by omega
        have HD : Hid (d = k + k2) := hd
        have hm2 := HM.out
        by_cases hlt2 : k2 < ys.length
        · obtain ⟨b2, off2, rfl, hbs2, hcell2⟩ := HR'.out (by omega)
          have hdm : (d : Int) < (m : Int) := by omega
          have c1 : wr.cell? ⟨w.heap.size, d, none⟩ = some (.int .i64 (nth zs2 d)) := by
            rw [HO.out.cellAt d (by omega)]; exact cellsI_at _ d (by rw [HLen.out]; omega)
          have f1 : wr.frozen? ⟨w.heap.size, d, none⟩ = false := HO.out.frozenAt d
          have c2 := CX.out wr hb
          have c3 : wr.cell? ⟨b2, off2 + k2, none⟩ = some (.int .i64 (nth ys k2)) := (hb.cell (p := ⟨b2, off2 + k2, none⟩) hbs2).trans (hcell2 k2 hlt2)
          have hlt2' : (k2 : Int) < (ys.length : Int) := by omega
          have bz := nth_bd HMid.out.dg d
          have by' := nth_bd hy k2
          have ce0 : 0 ≤ nth xs k * nth ys k2 := Int.mul_nonneg bx.1 by'.1
          have ce1 : nth xs k * nth ys k2 ≤ 65025 := Int.mul_le_mul bx.2 by'.2 by'.1 (by omega)
          clear hd hm2 hcell2
          go_wp2
          go_quiet (fail)
          go_wp2
          go_roundw
          case rel =>
            have e1 := HD.out
            refine ⟨k2 + 1, zs2.set d ((nth zs2 d + nth xs k * nth ys k2 + o) % 256), (nth zs2 d + nth xs k * nth ys k2 + o) / 256, by omega, by go_num, rfl, ?_, ?_, (below_drewN hb _).setCell (Nat.le_refl _) _⟩
            · show Mid _ _ _ _ _ _
              rw [e1]
              rw [e1] at bz
              exact HMid.out.next hx hy hlt hlt2 _ rfl (by omega) (by omega)
            · show World.ownsRow _ _ _ _ _ _ _
              rw [← cellsI_set]
              exact (World.ownsRow.stored (w := wr.drewN _) HO.out d _).1
          case measure => simp [intOf]; omega
        · have hk2e : k2 = ys.length := by omega
          have hidx2 : (k : Int) + (ys.length : Int) = (d : Int) := by omega
          have hdm : (d : Int) < (m : Int) := by omega
          have c1 : wr.cell? ⟨w.heap.size, d, none⟩ = some (.int .i64 (nth zs2 d)) := by
            rw [HO.out.cellAt d (by omega)]; exact cellsI_at _ d (by rw [HLen.out]; omega)
          have f1 : wr.frozen? ⟨w.heap.size, d, none⟩ = false := HO.out.frozenAt d
          have bz := nth_bd HMid.out.dg d
          have HK : Hid (k2 = ys.length) := hk2e
          clear hd hm2 hk2e hidx
          go_wp2
          go_roundw
          case rel =>
            have e1 := HD.out
            have e2 := HK.out
            refine ⟨k + 1, zs2.set d (nth zs2 d + o), by omega, by go_num, ?_, ?_, hb.setCell (Nat.le_refl _) _⟩
            · show Mid _ _ _ _ _ _
              rw [e1, e2]
              have hmid := HMid.out
              rw [e2] at hmid
              exact hmid.done hlt
            · show World.ownsRow _ _ _ _ _ _ _
              rw [← cellsI_set]
              exact (HO.out.stored d _).1
          case measure => simp [intOf]; omega
    · go_wp2
      go_ret
      have hkk : k = xs.length := by omega
      have hmid := HMid.out
      rw [hkk] at hmid
      have hlen : zs.length = m := by rw [hmid.len, HM.out]
      refine ⟨_, rfl, ⟨zs, Sl.of_own (base := w.heap.size) ?_ hmid.dg (by omega), Mid.over hmid, hmid.len⟩, hb⟩
      unfold OwnI; rw [hlen]; exact HO.out
end Go.Proofs.YtbfbhdhffdddeaaDoor.Pr
