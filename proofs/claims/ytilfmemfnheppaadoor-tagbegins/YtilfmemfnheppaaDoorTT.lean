/- The walk of TagBegins. Conditions: the table holds the rounds' numbers. -/
import Derived.Test.YtilfmemfnheppaaDoorTS
namespace Go.Proofs.YtilfmemfnheppaaDoor
open Go.RowKit Hx
set_option linter.unusedVariables false

theorem tag_size (T : List Int) (h : T.length = 32) (m : Nat) (hm : m ≤ 32) : (strOfNums (enc (T.take m))).size = 2 * m := by
  rw [strOfNums_size, enc_len, List.length_take]; omega
theorem enc_app (xs ys : List Int) : enc (xs ++ ys) = enc xs ++ enc ys := by unfold enc; rw [List.flatMap_append]
theorem str_extract (xs : List Int) (k : Nat) (h : k ≤ xs.length) : (strOfNums xs).extract 0 k = strOfNums (xs.take k) := by
  apply ByteArray.ext
  rw [ByteArray.data_extract]
  unfold strOfNums
  simp
/-- a shorter tag is what a longer one begins with -/
theorem tag_begins (T : List Int) (m n : Nat) (hmn : m ≤ n) : (strOfNums (enc (T.take n))).extract 0 (2 * min m T.length) = strOfNums (enc (T.take m)) := by
  have e : T.take n = T.take m ++ (T.drop m).take (n - m) := by
    rw [show n = m + (n - m) by omega, List.take_add]; simp
  have hl : (enc (T.take m)).length = 2 * min m T.length := by rw [enc_len, List.length_take]
  rw [e, enc_app, str_extract _ _ (by rw [List.length_append, hl]; omega), List.take_append_of_le_length (by omega), List.take_of_length_le (by omega)]
theorem run_cut_str (w : World) (s : ByteArray) (k : Nat) (h : k ≤ s.size) : (Instr.sliceAt 9 (.string s) none (some (.int .i64 (k : Int))) none).run Tryd.prog w = .ok (.string (s.extract 0 k)) w := by
  rw [run_sliceAt_string w 9 _ _ _ _ Tryd.underlying9, run_slice_string_h w 9 s Tryd.underlying9 .i64 _ (by omega) (by omega), Int.toNat_natCast]

set_option maxRecDepth 100000 in
set_option maxHeartbeats 1000000 in
theorem law_begins (v : Value) (key : List Int) (d x : ByteArray) (i j : Int) (w : World) (hK : Kt w) (hv : Sl w v key) (hn : Nf v) (hd : d.size ≤ 9223372036854775807) (hx : x.size ≤ 9223372036854775807) (hi : 0 ≤ i ∧ i ≤ 255) (hj : 0 ≤ j ∧ j ≤ 255) :
    Calls Tryd.prog 6 #[.agg #[v, .string d, .string x], .int .u8 i, .int .u8 j] w fun en w' => en = .returned (.bool true) ∧ Below w.heap.size w w' := by
  obtain ⟨a, n, c, rfl⟩ := sl_form hv
  have HV : Hid (Sl w (.slice a n c) key) := hv
  have HN : Hid (Nf (.slice a n c)) := hn
  have HK : Hid (Kt w) := hK
  have hk0 := hK.pos
  obtain ⟨r1, hr1⟩ : ∃ r : Nat, i.tmod 16 = (r : Int) := ⟨(i % 16).toNat, by rw [Int.tmod_eq_emod_of_nonneg hi.1]; omega⟩
  obtain ⟨r2, hr2⟩ : ∃ r : Nat, j.tmod 16 = (r : Int) := ⟨(j % 16).toNat, by rw [Int.tmod_eq_emod_of_nonneg hj.1]; omega⟩
  have r1b : r1 < 16 := by rw [Int.tmod_eq_emod_of_nonneg hi.1] at hr1; omega
  have r2b : r2 < 16 := by rw [Int.tmod_eq_emod_of_nonneg hj.1] at hr2; omega
  obtain ⟨s1, hs1⟩ : ∃ s, s = 1 + r1 := ⟨_, rfl⟩
  obtain ⟨s2, hs2⟩ : ∃ s, s = 1 + r2 := ⟨_, rfl⟩
  have t1 : (1 : Int) + (r1 : Int) = (s1 : Int) := by omega
  have t2 : (1 : Int) + (r2 : Int) = (s2 : Int) := by omega
  have s1b : 1 ≤ s1 ∧ s1 ≤ 16 := by omega
  have s2b : 1 ≤ s2 ∧ s2 ≤ 16 := by omega
  clear hv hn hK hs1 hs2
  go_enter Tryd.func6, Tryd.ntmps6
  go_wp2_with fail
  have b0 := Box.new w (.slice a n c) d x 38
  have hb0 : Below w.heap.size w (w.alloc (.cells #[.slice a n c, .string d, .string x] 38)) := (Below.refl _ _).alloc (Nat.le_refl _) _
  obtain ⟨p, hp⟩ : ∃ p, p = w.heap.size := ⟨_, rfl⟩
  rw [← hp] at b0 ⊢
  clear hp
  generalize w.alloc (.cells #[.slice a n c, .string d, .string x] 38) = w0 at b0 hb0 ⊢
  refine (wakes_any w0).mono ?_
  rintro e w1 ⟨rfl, hb1⟩
  have hb1' := below_next hb0 hb1
  have HB1 : Hid (Box w1 p (.slice a n c) d x) := b0.later hb1
  obtain ⟨_, c0, c1, c2⟩ := HB1.out
  clear b0 hb0 hb1
  go_wp2_with fail
  clear c0 c1 c2
  have p2 := psl_one (HV.out.later hb1') (.cells #[.slice a n c] 25) ⟨_, rfl⟩
  have hb2 : Below w1.heap.size w1 (w1.alloc (.cells #[.slice a n c] 25)) := (Below.refl _ _).alloc (Nat.le_refl _) _
  generalize w1.alloc (.cells #[.slice a n c] 25) = w2 at p2 hb2 ⊢
  have HB2 : Hid (Box w2 p (.slice a n c) d x) := HB1.out.later hb2
  have hb2' := below_next hb1' hb2
  obtain ⟨_, c0, c1, c2⟩ := HB2.out
  refine (great_any _ [key] w2 p2).mono ?_
  rintro e w3 ⟨bb, rfl, hf, rfl⟩
  cases bb with
  | true =>
    go_wp2
    go_ret
    exact ⟨rfl, hb2'⟩
  | false =>
    have hkey : key.length ≤ 200 := (hf rfl).2 0 (by simp)
    clear hb1' hb2 p2 hf HB1
    by_cases hd1 : 100 < d.size
    · have hd1' : (100 : Int) < (d.size : Int) := by omega
      go_wp2
      go_ret
      exact ⟨rfl, hb2'⟩
    · have hd1' : ¬ (100 : Int) < (d.size : Int) := by omega
      by_cases hx1 : 100 < x.size
      · have hx1' : (100 : Int) < (x.size : Int) := by omega
        go_wp2
        go_ret
        exact ⟨rfl, hb2'⟩
      · have hx1' : ¬ (100 : Int) < (x.size : Int) := by omega
        by_cases hgt : s2 < s1
        · have hgt' : (s2 : Int) < (s1 : Int) := by omega
          go_wp2_with fail
          refine (of_any _ key d x s2 w3 (HK.out.below hb2' hk0) (HV.out.later hb2') (by omega) (by omega) (by omega) (by omega) (by omega)).mono ?_
          rintro e w4 ⟨rfl, hb4⟩
          have HB4 : Hid (Box w4 p (.slice a n c) d x) := HB2.out.later hb4
          have hb4' := below_next hb2' hb4
          clear c0 c1 c2 hb4
          obtain ⟨_, c0, c1, c2⟩ := HB4.out
          obtain ⟨SX, hSX⟩ : ∃ S, S = strOfNums (enc ((tagB key d x).take s2)) := ⟨_, rfl⟩
          rw [← hSX]
          have HSX : Hid (SX = strOfNums (enc ((tagB key d x).take s2))) := hSX
          clear hSX hb2'
          go_wp2_with fail
          refine (of_any _ key d x s1 w4 (HK.out.below hb4' hk0) (HV.out.later hb4') (by omega) (by omega) (by omega) (by omega) (by omega)).mono ?_
          rintro e w5 ⟨rfl, hb5⟩
          have hb5' := below_next hb4' hb5
          obtain ⟨SY, hSY⟩ : ∃ S, S = strOfNums (enc ((tagB key d x).take s1)) := ⟨_, rfl⟩
          rw [← hSY]
          have lX : SX.size = 2 * s2 := by rw [HSX.out, tag_size _ (tagB_len _ _ _) s2 (by omega)]
          have lY : SY.size = 2 * s1 := by rw [hSY, tag_size _ (tagB_len _ _ _) s1 (by omega)]
          obtain ⟨k1, hk1⟩ : ∃ k, k = 2 * s2 := ⟨_, rfl⟩
          obtain ⟨k2, hk2⟩ : ∃ k, k = 2 * s1 := ⟨_, rfl⟩
          have g1 : (2 : Int) * (s2 : Int) = (k1 : Int) := by omega
          have g2 : (2 : Int) * (s1 : Int) = (k2 : Int) := by omega
          rw [← hk1] at lX
          rw [← hk2] at lY
          have eS : ∀ w : World, (Instr.sliceAt 9 (.string SY) none (some (.int .i64 (k1 : Int))) none).run Tryd.prog w = .ok (.string SX) w := by
            intro w
            rw [run_cut_str w SY k1 (by omega), HSX.out, hSY, hk1, ← tag_begins (tagB key d x) s2 s1 (by omega), tagB_len, show min s2 32 = s2 by omega]
          clear c0 c1 c2 hb5 hb4' hSY hk1 hk2 HSX
          go_wp2
          go_ret
          exact ⟨ret_bool (by simp), hb5'⟩
        · have hgt' : ¬ (s2 : Int) < (s1 : Int) := by omega
          go_wp2_with fail
          refine (of_any _ key d x s1 w3 (HK.out.below hb2' hk0) (HV.out.later hb2') (by omega) (by omega) (by omega) (by omega) (by omega)).mono ?_
          rintro e w4 ⟨rfl, hb4⟩
          have HB4 : Hid (Box w4 p (.slice a n c) d x) := HB2.out.later hb4
          have hb4' := below_next hb2' hb4
          clear c0 c1 c2 hb4
          obtain ⟨_, c0, c1, c2⟩ := HB4.out
          obtain ⟨SX, hSX⟩ : ∃ S, S = strOfNums (enc ((tagB key d x).take s1)) := ⟨_, rfl⟩
          rw [← hSX]
          have HSX : Hid (SX = strOfNums (enc ((tagB key d x).take s1))) := hSX
          clear hSX hb2'
          go_wp2_with fail
          refine (of_any _ key d x s2 w4 (HK.out.below hb4' hk0) (HV.out.later hb4') (by omega) (by omega) (by omega) (by omega) (by omega)).mono ?_
          rintro e w5 ⟨rfl, hb5⟩
          have hb5' := below_next hb4' hb5
          obtain ⟨SY, hSY⟩ : ∃ S, S = strOfNums (enc ((tagB key d x).take s2)) := ⟨_, rfl⟩
          rw [← hSY]
          have lX : SX.size = 2 * s1 := by rw [HSX.out, tag_size _ (tagB_len _ _ _) s1 (by omega)]
          have lY : SY.size = 2 * s2 := by rw [hSY, tag_size _ (tagB_len _ _ _) s2 (by omega)]
          obtain ⟨k1, hk1⟩ : ∃ k, k = 2 * s1 := ⟨_, rfl⟩
          obtain ⟨k2, hk2⟩ : ∃ k, k = 2 * s2 := ⟨_, rfl⟩
          have g1 : (2 : Int) * (s1 : Int) = (k1 : Int) := by omega
          have g2 : (2 : Int) * (s2 : Int) = (k2 : Int) := by omega
          rw [← hk1] at lX
          rw [← hk2] at lY
          have eS : ∀ w : World, (Instr.sliceAt 9 (.string SY) none (some (.int .i64 (k1 : Int))) none).run Tryd.prog w = .ok (.string SX) w := by
            intro w
            rw [run_cut_str w SY k1 (by omega), HSX.out, hSY, hk1, ← tag_begins (tagB key d x) s1 s2 (by omega), tagB_len, show min s1 32 = s1 by omega]
          clear c0 c1 c2 hb5 hb4' hSY hk1 hk2 HSX
          go_wp2
          go_ret
          exact ⟨ret_bool (by simp), hb5'⟩
end Go.Proofs.YtilfmemfnheppaaDoor
