/- The contract of the document's own Encode. Conditions: the bytes lie in memory, and are at most 2^40. -/
import Derived.Test.YtilfmemfnheppaaDoorTE
import Derived.Deep.RegionHeld3
namespace Go.Proofs.YtilfmemfnheppaaDoor
open Go.RowKit Hx
set_option linter.unusedVariables false

theorem str_app (xs ys : List Int) : strOfNums xs ++ strOfNums ys = strOfNums (xs ++ ys) := by
  apply ByteArray.ext
  simp [strOfNums, ByteArray.data_append]

set_option maxRecDepth 100000 in
set_option maxHeartbeats 1000000 in
theorem rencode_any (v : Value) (xs : List Int) (w : World) (hv : Sl w v xs) (hs : xs.length ≤ 1099511627776) :
    Calls Tryd.prog 25 #[v] w fun e w' => e = .returned (.string (strOfNums (enc xs))) ∧ Below w.heap.size w w' := by
  obtain ⟨i0, hi, hz0, hz1, hz2⟩ := info_parts Tryd.info5
  obtain ⟨a, cap, rfl, hx, hl, hc, hr⟩ := hv
  go_enter Tryd.func25, Tryd.ntmps25
  go_wp2
  go_loopw [3, 4] (fun v i wr => ∃ k : Nat, k ≤ xs.length ∧ i = .int .i64 k ∧ v = .string (strOfNums (enc (xs.take k))) ∧ Below w.heap.size w wr) (fun _ i _ => xs.length - (intOf i).toNat)
  case atStart => exact ⟨0, by omega, rfl, rfl, Below.refl _ _⟩
  case round =>
    obtain ⟨k, hk, rfl, rfl, hb⟩ := hrel
    by_cases hlt : k < xs.length
    · obtain ⟨b, off, rfl, hbs, hcell⟩ := hr (by omega)
      have c1 : wr.cell? ⟨b, off + k, none⟩ = some (.int .u8 (nth xs k)) := (hb.cell (p := ⟨b, off + k, none⟩) hbs).trans (hcell k hlt)
      have hlt'' : (k : Int) < (xs.length : Int) := by omega
      obtain ⟨n1, n2⟩ := nth_bd hx k
      have HT : Hid (enc (xs.take (k + 1)) = enc (xs.take k) ++ [sgn (nth xs k / 16), sgn (nth xs k % 16)]) := enc_take xs k hlt
      have hlen : (strOfNums (enc (xs.take k))).size + 2 ≤ 2199023255552 := by rw [strOfNums_size, enc_len, List.length_take]; omega
      have hwz := hb.size
      clear hcell hr
      generalize nth xs k = c at *
      generalize HS : strOfNums (enc (xs.take k)) = S at *
      replace HS := HS.symm
      have b1 : 0 ≤ c / 16 := by omega
      have b2 : c / 16 ≤ 15 := by omega
      have b3 : 0 ≤ c % 16 := by omega
      have b4 : c % 16 ≤ 15 := by omega
      have bl : b < wr.heap.size := by omega
      have q1 : IntKind.u8.wrap (c.tdiv 16) = c / 16 := by rw [Int.tdiv_eq_ediv_of_nonneg n1, IntKind.wrap_u8']; omega
      have q2 : IntKind.u8.wrap (c.tmod 16) = c % 16 := by rw [Int.tmod_eq_emod_of_nonneg n1, IntKind.wrap_u8']; omega
      have q3 : c.tmod 16 = c % 16 := Int.tmod_eq_emod_of_nonneg n1
      have hcv : (convert 25 9 (.slice (some ⟨wr.heap.size, 0, none⟩) 2 2)).run Tryd.prog (wr.alloc (.cells #[.int .u8 (sgn (c / 16)), .int .u8 (sgn (c % 16))] 5)).drew = .ok (.string (strOfNums [sgn (c / 16), sgn (c % 16)])) (wr.alloc (.cells #[.int .u8 (sgn (c / 16)), .int .u8 (sgn (c % 16))] 5)).drew :=
        conv_own (w := (wr.alloc (.cells #[.int .u8 (sgn (c / 16)), .int .u8 (sgn (c % 16))] 5)).drew) (base := 0) (World.ownsRow_lit wr #[.int .u8 (sgn (c / 16)), .int .u8 (sgn (c % 16))] 2 (Nat.zero_le _) (by unfold maxLen; omega) rfl)
      have hT : (strOfNums [sgn (c / 16), sgn (c % 16)]).size = 2 := by rw [strOfNums_size]; rfl
      have HTT : Hid (S ++ strOfNums [sgn (c / 16), sgn (c % 16)] = strOfNums (enc (xs.take (k + 1)))) := by
        show _ = _
        rw [HT.out, HS, str_app]
      generalize strOfNums [sgn (c / 16), sgn (c % 16)] = T at *
      have hle : ¬ 9223372036854775807 < S.size + T.size := by omega
      clear hT HT HS
      go_wp2
      go_region_with (first | (go_at_call 31; refine (sign_any _ _ ?_ ?_).mono ?_; omega; omega; rintro e w' ⟨rfl, rfl⟩))
      all_goals
        go_wp2
        go_roundw
        case rel => exact ⟨k + 1, by omega, by go_num, by rw [HTT.out], (hb.alloc hwz _).drew⟩
        case measure => simp [intOf]; omega
    · go_wp2
      go_ret
      first | exact ⟨rfl, hb⟩ | exact ⟨ret_str (by rw [List.take_of_length_le (by omega)]), hb⟩
end Go.Proofs.YtilfmemfnheppaaDoor
