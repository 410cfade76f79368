/- The tables of words; the contracts of Model, Op, ModelName, OpName, the program's and the document's; the walk of SignWords; the tables out of what a row says of them. Conditions: the tables lie in memory. -/
import Derived.Test.YtdhlheilgagcpaaGreatDoorSK
import Derived.Deep.MidRow
namespace Go.Proofs.YtdhlheilgagcpaaGreatDoor
open Go.RowKit Go.PlainAid
set_option linter.unusedVariables false
set_option linter.unusedSimpArgs false

/-- a table of n words, in the block g -/
def cellsW (f : Int → ByteArray) (n : Nat) : List Value := (List.range n).map fun (i : Nat) => Value.string (f (i : Int))
def Wt (w : World) (g n : Nat) (f : Int → ByteArray) : Prop := w.rangeAt g 0 (cellsW f n) ∧ g < w.heap.size
theorem Wt.later {w w' : World} {g n : Nat} {f : Int → ByteArray} (h : Wt w g n f) (hb : Below w.heap.size w w') : Wt w' g n f :=
  ⟨fun j v hv => (hb.cell (p := ⟨g, 0 + j, none⟩) h.2).trans (h.1 j v hv), Nat.lt_of_lt_of_le h.2 hb.size⟩
theorem cellsW_len (f : Int → ByteArray) (n : Nat) : (cellsW f n).length = n := by simp [cellsW]
theorem cellsW_at (f : Int → ByteArray) (n k : Nat) (hk : k < n) : (cellsW f n)[k]? = some (.string (f (k : Int))) := by simp [cellsW, hk]
theorem Wt.cell {w : World} {g n : Nat} {f : Int → ByteArray} (h : Wt w g n f) {k : Nat} (hk : k < n) : w.cell? ⟨g, k, none⟩ = some (.string (f (k : Int))) := by
  have := h.1 k _ (cellsW_at f n k hk)
  rwa [Nat.zero_add] at this
theorem run_idxM (k : Nat) (hk : k < 11) (w : World) : (Instr.index 101 (.agg (cellsW mn 11).toArray) (.int .i64 (k : Int))).run Tryz.prog w = .ok (.string (mn (k : Int))) w := by
  have hc := cellsW_at mn 11 k hk
  have hl := cellsW_len mn 11
  have hE : (0 : Int) ≤ (k : Int) ∧ (k : Int) < 11 := by omega
  have u := Tryz.underlying101
  have a5 := Tryz.isAgg9
  have z5 := Tryz.sizeOf9
  simp [Instr.index, run_underlying u, asIntOf, hE, go_sem, a5, z5, hk, hc, hl]
  exact (List.getElem?_eq_some_iff.1 hc).2
theorem run_idxO (k : Nat) (hk : k < 14) (w : World) : (Instr.index 102 (.agg (cellsW on 14).toArray) (.int .i64 (k : Int))).run Tryz.prog w = .ok (.string (on (k : Int))) w := by
  have hc := cellsW_at on 14 k hk
  have hl := cellsW_len on 14
  have hE : (0 : Int) ≤ (k : Int) ∧ (k : Int) < 14 := by omega
  have u := Tryz.underlying102
  have a5 := Tryz.isAgg9
  have z5 := Tryz.sizeOf9
  simp [Instr.index, run_underlying u, asIntOf, hE, go_sem, a5, z5, hk, hc, hl]
  exact (List.getElem?_eq_some_iff.1 hc).2

/-- a is the number of the word s, among n; or nought, where there is none -/
def IsW (f : Int → ByteArray) (n : Nat) (s : ByteArray) (a : Nat) : Prop := (a < n ∧ ((f (a : Int)).toList == s.toList) = true) ∨ (a = 0 ∧ ∀ i : Nat, i < n → ((f (i : Int)).toList == s.toList) = false)
def apart (f : Int → ByteArray) (n : Nat) : Bool := (List.range n).all fun i => (List.range n).all fun j => decide ((f (i : Int)).data.toList = (f (j : Int)).data.toList → i = j)
theorem apart_m : apart mn 11 = true := by kernel_rfl
theorem apart_o : apart on 14 = true := by kernel_rfl
theorem isW_one {f : Int → ByteArray} {n : Nat} (hf : apart f n = true) {s : ByteArray} {a b : Nat} (ha : IsW f n s a) (hb : IsW f n s b) : a = b := by
  unfold apart at hf
  simp only [List.all_eq_true, List.mem_range, decide_eq_true_iff] at hf
  rcases ha with ⟨a1, a2⟩ | ⟨a1, a2⟩
  · rcases hb with ⟨b1, b2⟩ | ⟨b1, b2⟩
    · refine hf a a1 b b1 ?_
      have e1 := eq_of_beq a2
      have e2 := eq_of_beq b2
      rw [ByteArray.toList_eq] at e1 e2
      rw [e1, e2]
    · have := b2 a a1; rw [a2] at this; cases this
  · rcases hb with ⟨b1, b2⟩ | ⟨b1, b2⟩
    · have := a2 b b1; rw [b2] at this; cases this
    · rw [a1, b1]
/-- how the program's Model and Op end -/
def RW (f : Int → ByteArray) (n : Nat) (s : ByteArray) (w : World) (e : Ending) (w' : World) : Prop := ∃ a : Nat, e = .returned (.tuple #[.int .i64 (a : Int), .bool (decide ((0 : Int) < (a : Int)))]) ∧ IsW f n s a ∧ a ≤ 100 ∧ Below w.heap.size w w'
def RV (f : Int → ByteArray) (n : Nat) (s : ByteArray) (w : World) (e : Ending) (w' : World) : Prop := ∃ a : Nat, e = .returned (.int .i64 (a : Int)) ∧ IsW f n s a ∧ a ≤ 100 ∧ Below w.heap.size w w'
theorem pos_ne (k : Nat) : ((k : Int) != 0) = decide ((0 : Int) < (k : Int)) := by
  by_cases h : k = 0
  · subst h; rfl
  · rw [decide_eq_true (by omega)]; simp [h]

set_option maxHeartbeats 2000000 in
theorem model_any (s : ByteArray) (w : World) (ht : Wt w 1 11 mn) : Calls Tryz.prog 92 #[.string s] w fun e w' => RW mn 11 s w e w' := by
  have HR : Hid (w.rangeAt 1 0 (cellsW mn 11)) := ht.1
  clear ht
  go_enter Tryz.func92, Tryz.ntmps92
  go_wp2_with ((with_reducible refine wpList_load_mid ?_ 101 (.global 1) ?_ 1 0 ?_ (cellsW mn 11) _ HR.out Tryz.underlying101 rfl (by rw [cellsW_len]; kernel_rfl) ?_); (exact rfl); (exact rfl); (exact rfl))
  have HI : Hid (∀ k, k < 11 → ∀ w, (Instr.index 101 (.agg (cellsW mn 11).toArray) (.int .i64 ((k : Nat) : Int))).run Tryz.prog w = .ok (.string (mn (k : Int))) w) := fun k hk w => run_idxM k hk w
  generalize (Value.agg (cellsW mn 11).toArray) = A at *
  go_loopw [7] (fun i wr => ∃ k : Nat, k ≤ 11 ∧ i = .int .i64 (k : Int) ∧ Below w.heap.size w wr ∧ ∀ i : Nat, i < k → ((mn (i : Int)).toList == s.toList) = false) (fun i wr => 11 - (intOf i).toNat)
  case atStart => exact ⟨0, by omega, rfl, Below.refl _ _, fun i h => by omega⟩
  case round =>
    obtain ⟨k, hk, rfl, hb, hall⟩ := hrel
    have HA : Hid (∀ i : Nat, i < k → ((mn (i : Int)).toList == s.toList) = false) := hall
    clear hall
    by_cases hlt : k < 11
    · have hlt' : (k : Int) < 11 := by omega
      have hx := HI.out k hlt
      have HE : Hid (∃ b, ((mn (k : Int)).toList == s.toList) = b) := ⟨_, rfl⟩
      obtain ⟨b, hb'⟩ := HE.out
      have HE' : Hid (((mn (k : Int)).toList == s.toList) = b) := hb'
      generalize mn (k : Int) = t at hx hb'
      cases b
      · go_wp2
        go_roundw
        case rel =>
          refine ⟨k + 1, by omega, by go_num, hb, fun i hi => ?_⟩
          by_cases e : i = k
          · subst e; exact HE'.out
          · exact HA.out i (by omega)
        case measure => simp [intOf]; omega
      · go_wp2
        refine bodyPost_ret (v := .tuple #[.int .i64 (k : Int), .bool ((k : Int) != 0)]) (by simp [results, Tryz.f92, go_sem]) rfl ?_
        exact ⟨k, by rw [pos_ne], .inl ⟨hlt, HE'.out⟩, by omega, hb⟩
    · have e : k = 11 := by omega
      subst e
      go_wp2
      refine bodyPost_ret (v := .tuple #[.int .i64 0, .bool false]) (by simp [results, Tryz.f92, go_sem]) rfl ?_
      exact ⟨0, rfl, .inr ⟨rfl, HA.out⟩, by omega, hb⟩
set_option maxHeartbeats 2000000 in
theorem op_any (s : ByteArray) (w : World) (ht : Wt w 2 14 on) : Calls Tryz.prog 74 #[.string s] w fun e w' => RW on 14 s w e w' := by
  have HR : Hid (w.rangeAt 2 0 (cellsW on 14)) := ht.1
  clear ht
  go_enter Tryz.func74, Tryz.ntmps74
  go_wp2_with ((with_reducible refine wpList_load_mid ?_ 102 (.global 2) ?_ 2 0 ?_ (cellsW on 14) _ HR.out Tryz.underlying102 rfl (by rw [cellsW_len]; kernel_rfl) ?_); (exact rfl); (exact rfl); (exact rfl))
  have HI : Hid (∀ k, k < 14 → ∀ w, (Instr.index 102 (.agg (cellsW on 14).toArray) (.int .i64 ((k : Nat) : Int))).run Tryz.prog w = .ok (.string (on (k : Int))) w) := fun k hk w => run_idxO k hk w
  generalize (Value.agg (cellsW on 14).toArray) = A at *
  go_loopw [7] (fun i wr => ∃ k : Nat, k ≤ 14 ∧ i = .int .i64 (k : Int) ∧ Below w.heap.size w wr ∧ ∀ i : Nat, i < k → ((on (i : Int)).toList == s.toList) = false) (fun i wr => 14 - (intOf i).toNat)
  case atStart => exact ⟨0, by omega, rfl, Below.refl _ _, fun i h => by omega⟩
  case round =>
    obtain ⟨k, hk, rfl, hb, hall⟩ := hrel
    have HA : Hid (∀ i : Nat, i < k → ((on (i : Int)).toList == s.toList) = false) := hall
    clear hall
    by_cases hlt : k < 14
    · have hlt' : (k : Int) < 14 := by omega
      have hx := HI.out k hlt
      have HE : Hid (∃ b, ((on (k : Int)).toList == s.toList) = b) := ⟨_, rfl⟩
      obtain ⟨b, hb'⟩ := HE.out
      have HE' : Hid (((on (k : Int)).toList == s.toList) = b) := hb'
      generalize on (k : Int) = t at hx hb'
      cases b
      · go_wp2
        go_roundw
        case rel =>
          refine ⟨k + 1, by omega, by go_num, hb, fun i hi => ?_⟩
          by_cases e : i = k
          · subst e; exact HE'.out
          · exact HA.out i (by omega)
        case measure => simp [intOf]; omega
      · go_wp2
        refine bodyPost_ret (v := .tuple #[.int .i64 (k : Int), .bool ((k : Int) != 0)]) (by simp [results, Tryz.f74, go_sem]) rfl ?_
        exact ⟨k, by rw [pos_ne], .inl ⟨hlt, HE'.out⟩, by omega, hb⟩
    · have e : k = 14 := by omega
      subst e
      go_wp2
      refine bodyPost_ret (v := .tuple #[.int .i64 0, .bool false]) (by simp [results, Tryz.f74, go_sem]) rfl ?_
      exact ⟨0, rfl, .inr ⟨rfl, HA.out⟩, by omega, hb⟩
theorem mn_out {m : Int} (h : m < 0 ∨ 11 ≤ m) : mn m = ⟨#[]⟩ := by
  unfold mn; simp only [show ¬ m = 1 by omega, show ¬ m = 2 by omega, show ¬ m = 3 by omega, show ¬ m = 4 by omega, show ¬ m = 5 by omega, show ¬ m = 6 by omega, show ¬ m = 7 by omega, show ¬ m = 8 by omega, show ¬ m = 9 by omega, show ¬ m = 10 by omega, if_false]
theorem on_out {m : Int} (h : m < 0 ∨ 14 ≤ m) : on m = ⟨#[]⟩ := by
  unfold on; simp only [show ¬ m = 1 by omega, show ¬ m = 2 by omega, show ¬ m = 3 by omega, show ¬ m = 4 by omega, show ¬ m = 5 by omega, show ¬ m = 6 by omega, show ¬ m = 7 by omega, show ¬ m = 8 by omega, show ¬ m = 9 by omega, show ¬ m = 10 by omega, show ¬ m = 11 by omega, show ¬ m = 12 by omega, show ¬ m = 13 by omega, if_false]
set_option maxHeartbeats 2000000 in
theorem modelName_any (m : Int) (w : World) (ht : Wt w 1 11 mn) : Calls Tryz.prog 30 #[.int .i64 m] w fun e w' => e = .returned (.string (mn m)) ∧ Below w.heap.size w w' := by
  by_cases h0 : m < 0
  · rw [mn_out (.inl h0)]
    clear ht
    go_enter Tryz.func30, Tryz.ntmps30
    go_wp2
    go_ret
    exact ⟨rfl, Below.refl _ _⟩
  by_cases h1 : 11 ≤ m
  · rw [mn_out (.inr h1)]
    clear ht
    go_enter Tryz.func30, Tryz.ntmps30
    go_wp2
    go_ret
    exact ⟨rfl, Below.refl _ _⟩
  obtain ⟨k, rfl⟩ : ∃ k : Nat, m = (k : Int) := ⟨m.toNat, by omega⟩
  have hk : k < 11 := by omega
  have hk' : (k : Int) < 11 := by omega
  have hc := ht.cell hk
  clear ht
  generalize mn (k : Int) = t at *
  go_enter Tryz.func30, Tryz.ntmps30
  go_wp2
  go_ret
  exact ⟨rfl, Below.refl _ _⟩
set_option maxHeartbeats 2000000 in
theorem opName_any (m : Int) (w : World) (ht : Wt w 2 14 on) : Calls Tryz.prog 31 #[.int .i64 m] w fun e w' => e = .returned (.string (on m)) ∧ Below w.heap.size w w' := by
  by_cases h0 : m < 0
  · rw [on_out (.inl h0)]
    clear ht
    go_enter Tryz.func31, Tryz.ntmps31
    go_wp2
    go_ret
    exact ⟨rfl, Below.refl _ _⟩
  by_cases h1 : 14 ≤ m
  · rw [on_out (.inr h1)]
    clear ht
    go_enter Tryz.func31, Tryz.ntmps31
    go_wp2
    go_ret
    exact ⟨rfl, Below.refl _ _⟩
  obtain ⟨k, rfl⟩ : ∃ k : Nat, m = (k : Int) := ⟨m.toNat, by omega⟩
  have hk : k < 14 := by omega
  have hk' : (k : Int) < 14 := by omega
  have hc := ht.cell hk
  clear ht
  generalize on (k : Int) = t at *
  go_enter Tryz.func31, Tryz.ntmps31
  go_wp2
  go_ret
  exact ⟨rfl, Below.refl _ _⟩
end Go.Proofs.YtdhlheilgagcpaaGreatDoor
