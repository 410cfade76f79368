/- The contracts of Join, the program's and the document's. Conditions: at most a million texts, at most 2^40 bytes together. -/
import Derived.Test.YtmmlafhifnmkpaaDoorLL
namespace Go.Proofs.YtmmlafhifnmkpaaDoor
open Go.RowKit Go.PlainAid
set_option linter.unusedVariables false

theorem bs_app (a b : List UInt8) : bs a ++ bs b = bs (a ++ b) := by
  apply ByteArray.ext
  simp [bs, ByteArray.data_append]
theorem join_any (w : World) (v : Value) (L : List (List UInt8)) (hv : SSl w v L) (hl : L.length ≤ 1000000) (hz : (Lib.join L [32]).length ≤ 1099511627776) : Calls Tryd.prog 15 #[v, .string ⟨#[32]⟩] w fun e w' => e = .returned (.string (bs (Lib.join L [32]))) ∧ Below w.heap.size w w' := by
  obtain ⟨a, c, rfl, h1, h2, h3⟩ := hv
  rcases h3 with ⟨h3, _⟩ | ⟨b, o, rfl, hb, hc⟩
  · subst h3
    exact (Any.strings_Join_none joinLays joinExtra a c ⟨#[32]⟩ w).mono fun e w' ⟨he, hw⟩ => ⟨he, hw ▸ Below.refl _ _⟩
  · have em : (L.map bs).map (fun x => x.data.toList) = L := by
      rw [List.map_map]
      exact List.map_id' L
    have h := Any.strings_Join joinLays joinExtra b o c (L.map bs) ⟨#[32]⟩ w (fun j x hj => by
      rw [List.getElem?_map] at hj
      by_cases hjl : j < L.length
      · rw [nt_some L j hjl] at hj
        simp at hj
        rw [← hj]; exact hc j hjl
      · rw [List.getElem?_eq_none (by omega)] at hj; simp at hj) hb (by rw [List.length_map]; omega) (by rw [List.length_map]; exact h1) (by rw [em]; exact Nat.le_trans hz (by omega))
    rw [em, List.length_map] at h
    exact h
theorem pjoin_any (w : World) (v : Value) (L : List (List UInt8)) (hv : SSl w v L) (hl : L.length ≤ 1000000) (hz : (Lib.join L [32]).length ≤ 1099511627776) : Calls Tryd.prog 9 #[v] w fun e w' => e = .returned (.string (bs (Lib.join L [32]))) ∧ Below w.heap.size w w' := by
  have h := join_any w v L hv hl hz
  obtain ⟨a, c, rfl, _⟩ := hv.form
  generalize bs (Lib.join L [32]) = t at *
  go_enter Tryd.func9, Tryd.ntmps9
  go_wp2_with (go_at_call 15; refine h.mono ?_; rintro e w1 ⟨rfl, hb⟩)
  go_ret
  exact ⟨rfl, hb⟩

theorem join_take (L : List (List UInt8)) (k : Nat) (h : k < L.length) (h0 : 0 < k) : Lib.join (L.take (k + 1)) [32] = Lib.join (L.take k) [32] ++ [32] ++ nt L k := by
  cases L with
  | nil => simp at h
  | cons x r =>
    obtain ⟨j, rfl⟩ : ∃ j, k = j + 1 := ⟨k - 1, by omega⟩
    rw [List.take_succ_cons, List.take_succ_cons, Lib.join_cons, Lib.join_cons, Lib.joinTail_take_succ [32] r j (nt (x :: r) (j + 1)) (by have := nt_some (x :: r) (j + 1) h; simpa using this)]
    simp
theorem join_first (L : List (List UInt8)) (h : 0 < L.length) : Lib.join (L.take 1) [32] = nt L 0 := by
  cases L with
  | nil => simp at h
  | cons x r => rw [List.take_succ_cons, List.take_zero, Lib.join_one]; rfl
theorem join_take_le (L : List (List UInt8)) (k : Nat) : (Lib.join (L.take k) [32]).length ≤ (Lib.join L [32]).length := by
  cases L with
  | nil => simp
  | cons x r =>
    cases k with
    | zero => simp [Lib.join_nil]
    | succ j =>
      rw [List.take_succ_cons, Lib.join_cons, Lib.join_cons]
      have := Lib.joinTail_take_le [32] r j
      simp only [List.length_append]
      omega

set_option maxHeartbeats 2000000 in
theorem rjoin_any (w : World) (v : Value) (L : List (List UInt8)) (hv : SSl w v L) (hl : L.length ≤ 1000000) (hz : (Lib.join L [32]).length ≤ 1099511627776) : Calls Tryd.prog 10 #[v] w fun e w' => e = .returned (.string (bs (Lib.join L [32]))) ∧ Below w.heap.size w w' := by
  have HV : Hid (SSl w v L) := hv
  obtain ⟨a, c, rfl, _⟩ := hv.form
  have HC : Hid (∀ k, (Lib.join (L.take k) [32]).length ≤ 1099511627776) := fun k => Nat.le_trans (join_take_le L k) hz
  clear hv
  go_enter Tryd.func10, Tryd.ntmps10
  go_wp2
  go_loop [3, 4] (fun t i => ∃ k : Nat, k ≤ L.length ∧ i = .int .i64 (k : Int) ∧ t = .string (bs (Lib.join (L.take k) [32]))) (fun t i => L.length - (intOf i).toNat)
  case atStart => exact ⟨0, by omega, rfl, rfl⟩
  case round =>
    obtain ⟨k, hk, rfl, rfl⟩ := hrel
    by_cases hlt : k < L.length
    · have hlt' : (k : Int) < (L.length : Int) := by omega
      obtain ⟨b, o, rfl, hbl⟩ := HV.out.block (by omega)
      have hcell := HV.out.cell (i := k) hlt
      have hl1 := HC.out (k + 1)
      by_cases h0 : 0 < k
      · have h0' : (0 : Int) < (k : Int) := by omega
        have hj := join_take L k hlt h0
        rw [hj] at hl1
        simp only [List.length_append, List.length_cons, List.length_nil] at hl1
        have HJ : Hid (Lib.join (L.take (k + 1)) [32] = Lib.join (L.take k) [32] ++ [32] ++ nt L k) := hj
        have e1 : bs (Lib.join (L.take k) [32]) ++ (⟨#[32]⟩ : ByteArray) = bs (Lib.join (L.take k) [32] ++ [32]) := bs_app _ [32]
        have e2 := bs_app (Lib.join (L.take k) [32] ++ [32]) (nt L k)
        have z1 : (bs (nt L k)).size = (nt L k).length := rfl
        have z2 : (bs (Lib.join (L.take k) [32])).size = (Lib.join (L.take k) [32]).length := rfl
        have z3 : (bs (Lib.join (L.take k) [32] ++ [32])).size = (Lib.join (L.take k) [32]).length + 1 := by rw [bs_size]; simp
        have q1 : ¬ 9223372036854775807 < (bs (Lib.join (L.take k) [32])).size + 1 := by omega
        have q2 : ¬ 9223372036854775807 < (bs (Lib.join (L.take k) [32] ++ [32])).size + (bs (nt L k)).size := by omega
        clear hj
        go_wp2
        go_round
        case rel => exact ⟨k + 1, by omega, by go_num, by rw [HJ.out, List.append_assoc]; rfl⟩
        case measure => simp [intOf]; omega
      · have hk0 : k = 0 := by omega
        subst hk0
        have HJ : Hid (Lib.join (L.take 1) [32] = nt L 0) := join_first L hlt
        rw [Nat.add_zero] at hcell
        have e0 : bs (Lib.join (L.take 0) [32]) = ⟨#[]⟩ := rfl
        have e2 : (⟨#[]⟩ : ByteArray) ++ bs (nt L 0) = bs (nt L 0) := bs_app [] (nt L 0)
        rw [show (0 : Nat) + 1 = 1 from rfl, HJ.out] at hl1
        have z1 : (bs (nt L 0)).size = (nt L 0).length := rfl
        have q2 : ¬ 9223372036854775807 < 0 + (bs (nt L 0)).size := by omega
        have q3 : ¬ 9223372036854775807 < (bs (nt L 0)).size := by omega
        rw [e0]
        go_wp2
        go_round
        case rel => exact ⟨1, by omega, by go_num, by rw [HJ.out]⟩
        case measure => simp [intOf]; omega
    · have e : k = L.length := by omega
      subst e
      rw [List.take_of_length_le (Nat.le_refl _)]
      go_wp2
      go_ret
      exact ⟨rfl, Below.refl _ _⟩
end Go.Proofs.YtmmlafhifnmkpaaDoor
