/- The contracts of Join, the program's and the document's. Conditions: at most a million texts, at most 2^40 bytes together. -/
import Derived.Test.YtdhlheilgagcpaaGreatDoorBM
namespace Go.Proofs.YtdhlheilgagcpaaGreatDoor
namespace Ln
open Go.RowKit Go.PlainAid
set_option linter.unusedVariables false

theorem bs_app (a b : List UInt8) : bs a ++ bs b = bs (a ++ b) := by
  apply ByteArray.ext
  simp [bs, ByteArray.data_append]
theorem join_any (w : World) (v : Value) (L : List (List UInt8)) (hv : SSl w v L) (hl : L.length ≤ 1000000) (hz : (Lib.join L [32]).length ≤ 1099511627776) : Calls Tryz.prog 62 #[v, .string ⟨#[32]⟩] w fun e w' => e = .returned (.string (bs (Lib.join L [32]))) ∧ Below w.heap.size w w' := by
  obtain ⟨a, c, rfl, h1, h2, h3⟩ := hv
  rcases h3 with ⟨h3, _⟩ | ⟨b, o, rfl, hb, hc⟩
  · subst h3
    exact (Any.strings_Join_none joinLays joinExtra a c ⟨#[32]⟩ w).mono fun e w' ⟨he, hw⟩ => ⟨he, hw ▸ Below.refl _ _⟩
  · have em : (L.map bs).map (fun x => x.data.toList) = L := by
      rw [List.map_map]
      exact List.map_id' L
    have h := Any.strings_Join joinLays joinExtra b o c (L.map bs) ⟨#[32]⟩ w (fun j x hj => by
      rw [List.getElem?_map] at hj
      by_cases hjl : j < L.length
      · rw [nt_some L j hjl] at hj
        simp at hj
        rw [← hj]; exact hc j hjl
      · rw [List.getElem?_eq_none (by omega)] at hj; simp at hj) hb (by rw [List.length_map]; omega) (by rw [List.length_map]; exact h1) (by rw [em]; exact Nat.le_trans hz (by omega))
    rw [em, List.length_map] at h
    exact h
theorem pjoin_any (w : World) (v : Value) (L : List (List UInt8)) (hv : SSl w v L) (hl : L.length ≤ 1000000) (hz : (Lib.join L [32]).length ≤ 1099511627776) : Calls Tryz.prog 33 #[v] w fun e w' => e = .returned (.string (bs (Lib.join L [32]))) ∧ Below w.heap.size w w' := by
  have h := join_any w v L hv hl hz
  obtain ⟨a, c, rfl, _⟩ := hv.form
  generalize bs (Lib.join L [32]) = t at *
  go_enter Tryz.func33, Tryz.ntmps33
  go_wp2_with (go_at_call 62; refine h.mono ?_; rintro e w1 ⟨rfl, hb⟩)
  go_ret
  exact ⟨rfl, hb⟩

theorem join_take (L : List (List UInt8)) (k : Nat) (h : k < L.length) (h0 : 0 < k) : Lib.join (L.take (k + 1)) [32] = Lib.join (L.take k) [32] ++ [32] ++ nt L k := by
  cases L with
  | nil => simp at h
  | cons x r =>
    obtain ⟨j, rfl⟩ : ∃ j, k = j + 1 := ⟨k - 1, by omega⟩
    rw [List.take_succ_cons, List.take_succ_cons, Lib.join_cons, Lib.join_cons, Lib.joinTail_take_succ [32] r j (nt (x :: r) (j + 1)) (by have := nt_some (x :: r) (j + 1) h; simpa using this)]
    simp
theorem join_first (L : List (List UInt8)) (h : 0 < L.length) : Lib.join (L.take 1) [32] = nt L 0 := by
  cases L with
  | nil => simp at h
  | cons x r => rw [List.take_succ_cons, List.take_zero, Lib.join_one]; rfl
theorem join_take_le (L : List (List UInt8)) (k : Nat) : (Lib.join (L.take k) [32]).length ≤ (Lib.join L [32]).length := by
  cases L with
  | nil => simp
  | cons x r =>
    cases k with
    | zero => simp [Lib.join_nil]
    | succ j =>
      rw [List.take_succ_cons, Lib.join_cons, Lib.join_cons]
      have := Lib.joinTail_take_le [32] r j
      simp only [List.length_append]
      omega

end Ln
end Go.Proofs.YtdhlheilgagcpaaGreatDoor
