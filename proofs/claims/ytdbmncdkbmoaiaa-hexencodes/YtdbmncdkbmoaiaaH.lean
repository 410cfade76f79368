/- The contract of the program's Decode: it goes through the text sign by sign; refused at once at a sign that is no digit. Conditions: the text is at most 2^40 bytes. -/
import Derived.Test.YtdbmncdkbmoaiaaG
import Derived.Lib.OthersKept
namespace Go.Proofs.Ytdbmncdkbmoaiaa
open Go.RowKit Go.PlainAid
set_option linter.unusedVariables false

/-- what stands at place j of the row when the first i digits have been read -/
def decAt (s : ByteArray) (i j : Nat) : Int := if 2 * j + 1 < i then 16 * dig (bt s (2 * j)) + dig (bt s (2 * j + 1)) else if 2 * j < i then dig (bt s (2 * j)) else 0
def decR (s : ByteArray) (m i : Nat) : List Int := (List.range m).map (decAt s i)
theorem decR_len (s : ByteArray) (m i : Nat) : (decR s m i).length = m := by simp [decR]
theorem decR_at (s : ByteArray) (m i j : Nat) (h : j < m) : nth (decR s m i) j = decAt s i j := by
  rw [nth_eq _ _ (by rw [decR_len]; exact h)]; simp [decR]
theorem decR_zero (s : ByteArray) (m : Nat) : decR s m 0 = List.replicate m 0 := by
  unfold decR
  rw [List.eq_replicate_iff]
  refine ⟨by simp, fun b hb => ?_⟩
  simp at hb
  obtain ⟨j, _, rfl⟩ := hb
  unfold decAt; rw [if_neg (by omega), if_neg (by omega)]
theorem decR_set (s : ByteArray) (m i : Nat) (h : i / 2 < m) : (decR s m i).set (i / 2) (decAt s (i + 1) (i / 2)) = decR s m (i + 1) := by
  apply List.ext_getElem
  · simp [decR]
  · intro j h1 h2
    rw [List.getElem_set]
    by_cases hj : i / 2 = j
    · rw [if_pos hj]; simp [decR, hj]
    · rw [if_neg hj]
      simp only [decR, List.getElem_map, List.getElem_range]
      unfold decAt
      by_cases c1 : 2 * j + 1 < i
      · rw [if_pos c1, if_pos (by omega)]
      · rw [if_neg c1, if_neg (by omega), if_neg (by omega), if_neg (by omega)]
theorem decR_pairs (s : ByteArray) (m : Nat) : decR s m (2 * m) = pairsB s m := by
  have h : ∀ k, k ≤ m → (List.range k).map (decAt s (2 * m)) = pairsB s k := by
    intro k
    induction k with
    | zero => intro _; rfl
    | succ k ih =>
      intro hk
      rw [List.range_succ, List.map_append, ih (by omega)]
      show pairsB s k ++ [decAt s (2 * m) k] = pairsB s k ++ [16 * dig (bt s (2 * k)) + dig (bt s (2 * k + 1))]
      unfold decAt
      rw [if_pos (by omega)]
  exact h m (Nat.le_refl _)

/-- one digit more: what is stored -/
theorem dec_new (s : ByteArray) (i : Nat) (h : allD s (i + 1)) : bits .or .u8 (IntKind.u8.wrap (decAt s i (i / 2) * 16)) (dig (bt s i)) = decAt s (i + 1) (i / 2) ∧ 0 ≤ decAt s i (i / 2) ∧ decAt s i (i / 2) ≤ 15 := by
  have h1 := dig_lo (bt s i)
  have h2 := h i (by omega)
  by_cases he : i % 2 = 0
  · have e1 : decAt s i (i / 2) = 0 := by unfold decAt; rw [if_neg (by omega), if_neg (by omega)]
    have e2 : decAt s (i + 1) (i / 2) = dig (bt s i) := by
      unfold decAt; rw [if_neg (by omega), if_pos (by omega), show 2 * (i / 2) = i from by omega]
    rw [e1, e2]
    refine ⟨?_, by omega, by omega⟩
    rw [show IntKind.u8.wrap (0 * 16) = 0 from by decide, u8_or _ _ (by omega) (by omega) (by omega) (by omega)]
    simp; omega
  · obtain ⟨p, hp⟩ : ∃ p, i = 2 * p + 1 := ⟨i / 2, by omega⟩
    subst hp
    have e0 : (2 * p + 1) / 2 = p := by omega
    rw [e0]
    have h3 := dig_lo (bt s (2 * p))
    have h4 := h (2 * p) (by omega)
    have e1 : decAt s (2 * p + 1) p = dig (bt s (2 * p)) := by unfold decAt; rw [if_neg (by omega), if_pos (by omega)]
    have e2 : decAt s (2 * p + 1 + 1) p = 16 * dig (bt s (2 * p)) + dig (bt s (2 * p + 1)) := by unfold decAt; rw [if_pos (by omega)]
    rw [e1, e2]
    refine ⟨?_, by omega, by omega⟩
    rw [show IntKind.u8.wrap (dig (bt s (2 * p)) * 16) = dig (bt s (2 * p)) * 16 from by rw [IntKind.wrap_u8']; omega,
      u8_or _ _ (by omega) (by omega) (by omega) (by omega), nat_join 4 _ _ (by omega) (by omega)]
    omega

theorem dig_ascii (c : Int) (h : 0 ≤ dig c) : c < 128 := by
  unfold dig at h; split at h
  · omega
  · split at h <;> omega

theorem iterPos_of {w : World} {k : Nat} {s : ByteArray} {p : Nat} (h : w.heap[k]? = some (.stringIter s p)) : w.iterPos k = p := by simp [World.iterPos, h]

/-- how the program's Decode of s ends -/
def PDec (s : ByteArray) (w : World) (e : Ending) (w' : World) : Prop :=
  (∃ v, (okD s ∧ e = .returned (.tuple #[v, .int .i64 0]) ∧ Sl w' v (pairsB s (s.size / 2))) ∨ (¬ okD s ∧ e = .returned (.tuple #[v, .int .i64 2]) ∧ Sl w' v [])) ∧ Below w.heap.size w w'

/-- the row that the program fills, as it stands in the world wr -/
def DRow (w wr : World) (s : ByteArray) (m i : Nat) : Prop := wr.ownsRow w.heap.size 5 1 (.slice (some ⟨w.heap.size, 0, none⟩) m m) m (cells8 (decR s m i))

set_option maxHeartbeats 800000 in
theorem decode_any (s : ByteArray) (w : World) (hs : s.size ≤ 1099511627776) :
    Calls Try.prog 10 #[.string s] w fun e w' => PDec s w e w' := by
  obtain ⟨i0, hi, hz0, hz1, hz2⟩ := info_parts Try.info5
  have hbt := get_bt s
  by_cases hev : s.size % 2 = 0
  · have hr : ((s.size : Int) % 2 != 0) = false := by simp; omega
    obtain ⟨m, hm⟩ : ∃ m, m = s.size / 2 := ⟨_, rfl⟩
    have hmI : (s.size : Int) / 2 = (m : Int) := by omega
    have HM : Hid (s.size = 2 * m) := by show _ = _; omega
    have hmb : m ≤ 1099511627776 := by omega
    have hmk : ∀ w1 : World, w1.ownsRow w.heap.size 5 1 (.slice (some ⟨w.heap.size, 0, none⟩) m m) m (madeCells (Value.int .u8 0).cells (m * 1)).toList → DRow w w1 s m 0 := by
      intro w1 h
      unfold DRow
      rw [decR_zero]
      rw [Nat.mul_one] at h
      have e : (madeCells (Value.int .u8 0).cells m).toList = cells8 (List.replicate m 0) := by
        show (madeCells #[.int .u8 0] m).toList = _
        rw [toList_madeCells_one]; simp [cells8]
      rw [e] at h
      exact h
    clear hm hev
    go_enter Try.func10, Try.ntmps10
    go_wp2_with (at_make; refine wpList_make_full _ rfl (.tmp 13) (.tmp 13) 22 rfl w.heap.size 5 i0 (.int .u8 0) 1 Try.underlying22 hi hz0 hz1 .i64 .i64 _ _ m rfl rfl (by omega) (by omega) (by rw [hz2]; omega) (by unfold maxLen; omega) (Nat.le_refl _) ?_; intro w1 hown hgrow; replace hown := hmk _ hown)
    have hb1 : Below w.heap.size w w1 := (Below.refl _ _).grown hgrow (Nat.le_refl _) (fun k h => by cases h)
    have hlt1 : w.heap.size < w1.heap.size := (World.ownsRow.lt hown w.heap.size rfl).2
    have hit1 := World.iter_heap w1 s 0
    have hbi : Below w.heap.size w (w1.iter s 0) := hb1.alloc (by omega) _
    have howni : DRow w (w1.iter s 0) s m 0 := World.ownsRow.alloc hown _
    clear hmk hgrow hown hb1
    generalize hW0 : w1.iter s 0 = W0 at *
    generalize w1.heap.size = I at *
    clear hW0
    go_loopw [5] (fun _ wr => ∃ i : Nat, i ≤ s.size ∧ wr.heap[I]? = some (.stringIter s i) ∧ DRow w wr s m i ∧ allD s i ∧ Below w.heap.size w wr) (fun _ wr => s.size - wr.iterPos I)
    case atStart => exact ⟨0, by omega, hit1, howni, fun i h => by omega, hbi⟩
    case round =>
      clear hit1 howni hbi
      obtain ⟨i, hle, hit, hown, hall, hb⟩ := hrel
      have hpos0 := iterPos_of hit
      have HA : Hid (allD s i) := hall
      clear hall
      by_cases hlt : i < s.size
      · have hnx : ∀ ty, (Instr.next (.pointer (some ⟨I, 0, none⟩)) true ty).run Try.prog wr = _ := fun ty => Lib.run_next_any_at wr I s i ty hit hlt
        have hlt' : (i : Int) < (s.size : Int) := by omega
        obtain ⟨p1, p2⟩ : 0 ≤ bt s i ∧ bt s i ≤ 255 := ⟨bt_nonneg _ _, bt_le _ _⟩
        have d1 := dig_lo (bt s i)
        by_cases hd : dig (bt s i) < 0
        · clear hown
          go_wp2_with (go_at_call 14; refine (digit_any _ _ (by omega) (by omega)).mono ?_; rintro e w' ⟨rfl, rfl⟩)
          go_ret2
          exact ⟨⟨_, .inr ⟨fun h => by have := h.2 i hlt; omega, rfl, Sl.nil _⟩⟩, Lib.below_iterAt hb (by omega) _ _⟩
        · have hasc := dig_ascii (bt s i) (by omega)
          have hdec : (Utf8.decode s i).2 = 1 := by
            rw [decode_ascii s i hlt (by have := hbt i hlt; omega)]
          rw [hdec] at hnx
          have hall2 : Hid (allD s (i + 1)) := by
            intro j hj
            by_cases hji : j = i
            · subst hji; omega
            · exact HA.out j (by omega)
          obtain ⟨n1, n2, n3⟩ := dec_new s i hall2.out
          have hit2 := Lib.iterAt_heap wr I s i (i + 1) hit
          have hb2 := Lib.below_iterAt hb (k := I) (by omega) s (i + 1)
          have hown2 : DRow w (wr.iterAt I s (i + 1)) s m i := by
            obtain ⟨h1, h2⟩ := hown
            refine ⟨h1, ?_⟩
            rcases h2 with h2 | ⟨g, cap, cur, a, b, c, d⟩
            · exact .inl h2
            · have hg : g = w.heap.size := by simp at a; omega
              exact .inr ⟨g, cap, cur, a, b, by rw [Lib.iterAt_other _ _ _ _ _ (by omega)]; exact c, d⟩
          generalize hW1 : wr.iterAt I s (i + 1) = W1 at *
          clear hW1 hit hown hb
          obtain ⟨q, hq⟩ : ∃ q, q = i / 2 := ⟨_, rfl⟩
          have hqI : (i : Int) / 2 = (q : Int) := by omega
          have hqm : q < m := by have := HM.out; omega
          have hqm' : (q : Int) < (m : Int) := by omega
          rw [← hq] at n1 n2 n3
          have c1 : W1.cell? ⟨w.heap.size, q, none⟩ = some (.int .u8 (decAt s i q)) := by
            rw [World.ownsRow.cellAt hown2 q (by omega)]
            rw [cells8_at _ q (by rw [decR_len]; exact hqm), decR_at s m i q hqm]
          have f1 : W1.frozen? ⟨w.heap.size, q, none⟩ = false := World.ownsRow.frozenAt hown2 q
          have HOWN2 : Hid (DRow w W1 s m i) := hown2
          have HQ : Hid (q = i / 2) := hq
          have HN1 : Hid (bits .or .u8 (decAt s i q * 16) (dig (bt s i)) = decAt s (i + 1) q) := by
            rw [show IntKind.u8.wrap (decAt s i q * 16) = decAt s i q * 16 from by rw [IntKind.wrap_u8']; omega] at n1
            exact n1
          have n4 : IntKind.u8.wrap (dig (bt s i)) = dig (bt s i) := by rw [IntKind.wrap_u8']; omega
          clear hown2 hq n1
          go_wp2_with (go_at_call 14; refine (digit_any _ _ (by omega) (by omega)).mono ?_; rintro e w2 ⟨rfl, hw2⟩; subst hw2)
          have hit3 : ∀ v, (w2.setCell ⟨w.heap.size, q, none⟩ v).heap[I]? = some (.stringIter s (i + 1)) := by
            intro v; rw [Below.heap_setCell _ _ _ _ (by simp; omega)]; exact hit2
          go_roundw
          case rel =>
            refine ⟨i + 1, by omega, hit3 _, ?_, hall2.out, hb2.setCell (Nat.le_refl _) _⟩
            rw [HN1.out]
            unfold DRow
            rw [← decR_set s m i (by rw [← HQ.out]; exact hqm), ← HQ.out]
            have := (World.ownsRow.stored HOWN2.out q (.int .u8 (decAt s (i + 1) q))).1
            have e : cells8 ((decR s m i).set q (decAt s (i + 1) q)) = (cells8 (decR s m i)).set q (.int .u8 (decAt s (i + 1) q)) := by unfold cells8; rw [List.map_set]
            rw [e]
            exact this
          case measure =>
            rw [iterPos_of (hit3 _), hpos0]; omega
      · have hnx : ∀ ty, (Instr.next (.pointer (some ⟨I, 0, none⟩)) true ty).run Try.prog wr = _ := fun ty => Lib.run_next_end_at wr I s i ty hit hlt
        have HOWN : Hid (DRow w wr s m i) := hown
        clear hown
        go_wp2
        go_ret2
        have e1 := HM.out
        have e2 : i = 2 * m := by omega
        have hO := HOWN.out
        unfold DRow at hO
        rw [e2, decR_pairs] at hO
        refine ⟨⟨_, .inl ⟨⟨by omega, by rw [e1, ← e2]; exact HA.out⟩, rfl, ?_⟩⟩, hb⟩
        rw [show s.size / 2 = m from by omega]
        refine Sl.of_own (base := w.heap.size) ?_ (pairsB_bd s m (by rw [← e2]; exact HA.out)) (by rw [pairsB_len]; omega)
        unfold Own; rw [pairsB_len]; exact hO
  · have hr : ((s.size : Int) % 2 != 0) = true := by simp; omega
    have HE : Hid (¬ s.size % 2 = 0) := hev
    clear hev
    go_enter Try.func10, Try.ntmps10
    go_wp2
    go_ret2
    exact ⟨⟨_, .inr ⟨fun h => HE.out h.1, rfl, Sl.nil _⟩⟩, Below.refl _ _⟩
end Go.Proofs.Ytdbmncdkbmoaiaa
