/- The walks of the statements HexEncodes and HexDecodes: what was encoded is told again, and each text is the bytes that the document says, or refused. No conditions but that the bytes lie in memory. -/
import Derived.Test.YtdbmncdkbmoaiaaK
namespace Go.Proofs.Ytdbmncdkbmoaiaa
open Go.RowKit Go.PlainAid
set_option linter.unusedVariables false

/-! ### digits and bytes -/
theorem bt_str (ys : List Int) (h : ∀ x ∈ ys, 0 ≤ x ∧ x ≤ 255) (i : Nat) (hi : i < ys.length) : bt (strOfNums ys) i = nth ys i := by
  have hs : i < (strOfNums ys).size := by rw [strOfNums_size]; exact hi
  rw [nth_eq ys i hi]
  unfold bt
  rw [dif_pos hs]
  have hb := h (ys[i]) (List.getElem_mem hi)
  have e : (strOfNums ys)[i]'hs = UInt8.ofNat (ys[i]).toNat := by
    show (strOfNums ys).data[i] = _
    simp [strOfNums]
  rw [e]
  simp only [UInt8.toNat_ofNat']
  omega
theorem dig_sgn (n : Int) (h0 : 0 ≤ n) (h1 : n ≤ 15) : dig (sgn n) = n := (sgn_dig (sgn n) n h0 h1).1 rfl
theorem sgn_of_dig (c : Int) (h : 0 ≤ dig c) : sgn (dig c) = c := (sgn_dig c (dig c) h (dig_lo c).2).2 rfl

theorem enc_nth (xs : List Int) : ∀ k, k < xs.length → nth (enc xs) (2 * k) = sgn (nth xs k / 16) ∧ nth (enc xs) (2 * k + 1) = sgn (nth xs k % 16) := by
  induction xs with
  | nil => intro k h; simp at h
  | cons x xs ih =>
    intro k hk
    have e : enc (x :: xs) = sgn (x / 16) :: sgn (x % 16) :: enc xs := by simp [enc]
    rw [e]
    cases k with
    | zero => simp [nth]
    | succ k =>
      have := ih k (by simpa using hk)
      have e1 : nth (x :: xs) (k + 1) = nth xs k := by simp [nth]
      have e2 : nth (sgn (x / 16) :: sgn (x % 16) :: enc xs) (2 * (k + 1)) = nth (enc xs) (2 * k) := by
        rw [show 2 * (k + 1) = 2 * k + 1 + 1 from by omega]; simp [nth]
      have e3 : nth (sgn (x / 16) :: sgn (x % 16) :: enc xs) (2 * (k + 1) + 1) = nth (enc xs) (2 * k + 1) := by
        rw [show 2 * (k + 1) + 1 = 2 * k + 1 + 1 + 1 from by omega]; simp [nth]
      rw [e1, e2, e3]
      exact this
theorem dig_enc {xs : List Int} (h : ∀ x ∈ xs, 0 ≤ x ∧ x ≤ 255) (k : Nat) (hk : k < xs.length) :
    dig (bt (strOfNums (enc xs)) (2 * k)) = nth xs k / 16 ∧ dig (bt (strOfNums (enc xs)) (2 * k + 1)) = nth xs k % 16 := by
  have hb := nth_bd h k
  obtain ⟨e1, e2⟩ := enc_nth xs k hk
  have hl := enc_len xs
  rw [bt_str _ (enc_bd h) _ (by omega), bt_str _ (enc_bd h) _ (by omega), e1, e2]
  exact ⟨dig_sgn _ (by omega) (by omega), dig_sgn _ (by omega) (by omega)⟩
theorem enc_ok {xs : List Int} (h : ∀ x ∈ xs, 0 ≤ x ∧ x ≤ 255) : okD (strOfNums (enc xs)) := by
  have hs : (strOfNums (enc xs)).size = 2 * xs.length := by rw [strOfNums_size, enc_len]
  refine ⟨by omega, fun i hi => ?_⟩
  have hk : i / 2 < xs.length := by omega
  obtain ⟨e1, e2⟩ := dig_enc h (i / 2) hk
  have hb := nth_bd h (i / 2)
  by_cases he : i % 2 = 0
  · rw [show 2 * (i / 2) = i from by omega] at e1
    omega
  · rw [show 2 * (i / 2) + 1 = i from by omega] at e2
    omega
theorem pairs_enc {xs : List Int} (h : ∀ x ∈ xs, 0 ≤ x ∧ x ≤ 255) : pairsB (strOfNums (enc xs)) ((strOfNums (enc xs)).size / 2) = xs := by
  have hs : (strOfNums (enc xs)).size / 2 = xs.length := by rw [strOfNums_size, enc_len]; omega
  rw [hs]
  have hk : ∀ k, k ≤ xs.length → pairsB (strOfNums (enc xs)) k = xs.take k := by
    intro k
    induction k with
    | zero => intro _; rfl
    | succ k ih =>
      intro hk
      obtain ⟨e1, e2⟩ := dig_enc h k (by omega)
      show pairsB (strOfNums (enc xs)) k ++ [16 * dig (bt (strOfNums (enc xs)) (2 * k)) + dig (bt (strOfNums (enc xs)) (2 * k + 1))] = _
      rw [ih (by omega), e1, e2, List.take_succ_eq_append_getElem (by omega), ← nth_eq xs k (by omega)]
      congr 2
      omega
  rw [hk _ (Nat.le_refl _), List.take_length]
theorem enc_pairs (s : ByteArray) (h : okD s) : strOfNums (enc (pairsB s (s.size / 2))) = s := by
  obtain ⟨h1, h2⟩ := h
  have hk : ∀ k, 2 * k ≤ s.size → enc (pairsB s k) = (List.range (2 * k)).map (fun i => bt s i) := by
    intro k
    induction k with
    | zero => intro _; rfl
    | succ k ih =>
      intro hk
      have d1 := h2 (2 * k) (by omega)
      have d2 := h2 (2 * k + 1) (by omega)
      have l1 := dig_lo (bt s (2 * k))
      have l2 := dig_lo (bt s (2 * k + 1))
      have e0 : enc (pairsB s (k + 1)) = enc (pairsB s k) ++ enc [16 * dig (bt s (2 * k)) + dig (bt s (2 * k + 1))] := by
        show enc (pairsB s k ++ _) = _
        unfold enc; rw [List.flatMap_append]
      have e1 : enc [16 * dig (bt s (2 * k)) + dig (bt s (2 * k + 1))] = [bt s (2 * k), bt s (2 * k + 1)] := by
        show [sgn ((16 * dig (bt s (2 * k)) + dig (bt s (2 * k + 1))) / 16), sgn ((16 * dig (bt s (2 * k)) + dig (bt s (2 * k + 1))) % 16)] = _
        rw [show (16 * dig (bt s (2 * k)) + dig (bt s (2 * k + 1))) / 16 = dig (bt s (2 * k)) from by omega,
          show (16 * dig (bt s (2 * k)) + dig (bt s (2 * k + 1))) % 16 = dig (bt s (2 * k + 1)) from by omega,
          sgn_of_dig _ d1, sgn_of_dig _ d2]
      rw [e0, e1, ih (by omega), show 2 * (k + 1) = 2 * k + 1 + 1 from by omega, List.range_succ, List.range_succ]
      simp
  rw [hk _ (by omega), show 2 * (s.size / 2) = s.size from by omega]
  apply ByteArray.ext
  apply Array.ext'
  rw [strOfNums_data]
  apply List.ext_getElem
  · simp
  · intro i a1 a2
    have hi : i < s.size := by simpa using a1
    simp only [List.getElem_map, List.getElem_range]
    unfold bt
    rw [dif_pos hi]
    simp
    rfl

set_option maxHeartbeats 800000 in
theorem encodes_walk (v : Value) (xs : List Int) (w : World) (hv : Sl w v xs) :
    Calls Try.prog 3 #[v] w fun e w' => e = .returned (.bool true) ∧ Below w.heap.size w w' := by
  obtain ⟨a, cap, hform⟩ := hv.form
  have HV : Hid (Sl w v xs) := hv
  have hl : xs.length ≤ 9223372036854775807 := by obtain ⟨_, _, _, _, h, _⟩ := hv; exact h
  have hx : ∀ x ∈ xs, 0 ≤ x ∧ x ≤ 255 := by obtain ⟨_, _, _, h, _⟩ := hv; exact h
  clear hv
  subst hform
  by_cases h8 : 2000 < xs.length
  · have h8' : (2000 : Int) < (xs.length : Int) := by omega
    clear hx
    go_enter Try.func3, Try.ntmps3
    go_wp2_with fail
    refine (wakes_any _).mono ?_
    rintro e w1 ⟨rfl, hb1⟩
    go_wp2
    go_ret
    exact ⟨rfl, hb1⟩
  · have h8' : (xs.length : Int) ≤ 2000 := by omega
    have HO : Hid (okD (strOfNums (enc xs))) := enc_ok hx
    have HP : Hid (pairsB (strOfNums (enc xs)) ((strOfNums (enc xs)).size / 2) = xs) := pairs_enc hx
    have HS : Hid ((strOfNums (enc xs)).size ≤ 4000) := by show _ ≤ _; rw [strOfNums_size, enc_len]; omega
    clear hx
    go_enter Try.func3, Try.ntmps3
    go_wp2_with fail
    refine (wakes_any _).mono ?_
    rintro e w1 ⟨rfl, hb1⟩
    go_wp2_with fail
    refine (encode_any _ xs _ (HV.out.later hb1) (by omega)).mono ?_
    rintro e w2 ⟨rfl, hb2⟩
    have hb := below_next hb1 hb2
    clear hb1 hb2
    go_wp2_with fail
    refine (decode_any (strOfNums (enc xs)) _ (by have := HS.out; omega)).mono ?_
    rintro e w3 ⟨⟨v3, hP⟩, hb3⟩
    rcases hP with ⟨_, rfl, hv3⟩ | ⟨h, _⟩
    · rw [HP.out] at hv3
      have HV3 : Hid (Sl w3 v3 xs) := hv3
      have hbb := below_next hb hb3
      clear hv3 hb hb3
      go_wp2_with fail
      refine (rencode_any _ xs _ (HV.out.later hbb) (by omega)).mono ?_
      rintro e w4 ⟨rfl, hb4⟩
      have hv34 := HV3.out.later hb4
      have HV34 : Hid (Sl w4 v3 xs) := hv34
      have hbc := below_next hbb hb4
      clear hv34 hbb hb4
      generalize strOfNums (enc xs) = S at *
      go_wp2_with fail
      refine (same_any _ _ xs xs _ HV34.out (HV.out.later hbc)).mono ?_
      rintro e w5 ⟨he, hb5⟩
      rw [sameB_refl] at he
      subst he
      have hbf := below_next hbc hb5
      clear hbc hb5
      go_wp2
      go_ret
      exact ⟨rfl, hbf⟩
    · exact absurd HO.out h

set_option maxHeartbeats 800000 in
theorem decodes_walk (s : ByteArray) (w : World) (hs : s.size ≤ 9223372036854775807) :
    Calls Try.prog 4 #[.string s] w fun e w' => e = .returned (.bool true) ∧ Below w.heap.size w w' := by
  by_cases h8 : 2000 < s.size
  · have h8' : (2000 : Int) < (s.size : Int) := by omega
    go_enter Try.func4, Try.ntmps4
    go_wp2_with fail
    refine (wakes_any _).mono ?_
    rintro e w1 ⟨rfl, hb1⟩
    go_wp2
    go_ret
    exact ⟨rfl, hb1⟩
  · have h8' : (s.size : Int) ≤ 2000 := by omega
    go_enter Try.func4, Try.ntmps4
    go_wp2_with fail
    refine (wakes_any _).mono ?_
    rintro e w1 ⟨rfl, hb1⟩
    go_wp2_with fail
    refine (decode_any s _ (by omega)).mono ?_
    rintro e w2 ⟨⟨v2, hP⟩, hb2⟩
    have hb := below_next hb1 hb2
    clear hb1 hb2
    rcases hP with ⟨hok, rfl, hv2⟩ | ⟨hno, rfl, hv2⟩
    · have HOK : Hid (okD s) := hok
      have HV2 : Hid (Sl w2 v2 (pairsB s (s.size / 2))) := hv2
      clear hok hv2
      go_wp2_with fail
      refine (rdecode_any s _ (by omega)).mono ?_
      rintro e w3 ⟨⟨v3, hQ⟩, hb3⟩
      rcases hQ with ⟨_, rfl, hv3⟩ | ⟨hno, _⟩
      · have HV3 : Hid (Sl w3 v3 (pairsB s (s.size / 2))) := hv3
        have HV23 : Hid (Sl w3 v2 (pairsB s (s.size / 2))) := HV2.out.later hb3
        have hbb := below_next hb hb3
        clear hv3 hb hb3
        go_wp2_with fail
        refine (same_any v2 v3 (pairsB s (s.size / 2)) (pairsB s (s.size / 2)) _ HV23.out HV3.out).mono ?_
        rintro e w4 ⟨he, hb4⟩
        rw [sameB_refl] at he
        subst he
        have HV24 : Hid (Sl w4 v2 (pairsB s (s.size / 2))) := HV23.out.later hb4
        have hbc := below_next hbb hb4
        clear hbb hb4
        go_wp2_with fail
        refine (encode_any v2 (pairsB s (s.size / 2)) _ HV24.out (by rw [pairsB_len]; omega)).mono ?_
        rintro e w5 ⟨he, hb5⟩
        rw [enc_pairs s HOK.out] at he
        subst he
        have hbf := below_next hbc hb5
        clear hbc hb5
        go_wp2
        go_ret
        exact ⟨rfl, hbf⟩
      · exact absurd HOK.out hno
    · have HNO : Hid (¬ okD s) := hno
      clear hno
      obtain ⟨a, cap, hv⟩ := hv2.form
      rw [show ([] : List Int).length = 0 from rfl] at hv
      subst hv
      clear hv2
      go_wp2_with fail
      refine (rdecode_any s _ (by omega)).mono ?_
      rintro e w3 ⟨⟨v3, hQ⟩, hb3⟩
      have hbb := below_next hb hb3
      clear hb hb3
      rcases hQ with ⟨hok, _⟩ | ⟨_, rfl, _⟩
      · exact absurd hok HNO.out
      · go_wp2
        go_ret
        exact ⟨rfl, hbb⟩
end Go.Proofs.Ytdbmncdkbmoaiaa
