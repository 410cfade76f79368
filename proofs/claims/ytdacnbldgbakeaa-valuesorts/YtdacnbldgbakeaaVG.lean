/- Rows of values in memory; the contract of what refuses great ones. No conditions. -/
import Derived.Test.YtdacnbldgbakeaaVC
namespace Go.Proofs.Ytdacnbldgbakeaa
open Go.RowKit Go.PlainAid
set_option linter.unusedVariables false

/-- a value: the kind, the number, the text -/
abbrev Val := Int × Int × ByteArray
/-- the i-th value of a row -/
def nv (xs : List Val) (i : Nat) : Val := xs.getD i (0, 0, noB)
theorem nv_eq (xs : List Val) (i : Nat) (h : i < xs.length) : nv xs i = xs[i] := by unfold nv; rw [List.getD_eq_getElem?_getD, List.getElem?_eq_getElem h]; rfl
/-- a value's three cells at a place -/
def At (w : World) (b o : Nat) (x : Val) : Prop := w.cell? ⟨b, o, none⟩ = some (.int .i64 x.1) ∧ w.cell? ⟨b, o + 1, none⟩ = some (.int .i64 x.2.1) ∧ w.cell? ⟨b, o + 2, none⟩ = some (.string x.2.2)
/-- a slice that holds these values -/
def VSl (w : World) (v : Value) (xs : List Val) : Prop :=
  ∃ (a : Option Addr) (c : Nat), v = .slice a xs.length c ∧ xs.length ≤ c ∧ c ≤ 9223372036854775807 ∧ ((xs = [] ∧ (a = none → c = 0)) ∨ ∃ b o, a = some ⟨b, o, none⟩ ∧ b < w.heap.size ∧ ∀ i, i < xs.length → At w b (o + i * 3) (nv xs i))
theorem At.later {w w' : World} {b o : Nat} {x : Val} (h : At w b o x) (hl : b < w.heap.size) (hb : Below w.heap.size w w') : At w' b o x :=
  ⟨(hb.cell (p := ⟨b, o, none⟩) hl).trans h.1, (hb.cell (p := ⟨b, o + 1, none⟩) hl).trans h.2.1, (hb.cell (p := ⟨b, o + 2, none⟩) hl).trans h.2.2⟩
theorem VSl.later {w w' : World} {v : Value} {xs : List Val} (h : VSl w v xs) (hb : Below w.heap.size w w') : VSl w' v xs := by
  obtain ⟨a, c, h1, h2, h3, h4⟩ := h
  refine ⟨a, c, h1, h2, h3, h4.imp id ?_⟩
  rintro ⟨b, o, e, hl, hc⟩
  exact ⟨b, o, e, Nat.lt_of_lt_of_le hl hb.size, fun i hi => (hc i hi).later hl hb⟩
/-- the values of a row are few, their texts short -/
def FewV (xs : List Val) : Prop := xs.length ≤ 40 ∧ ∀ i, i < xs.length → (nv xs i).2.2.size ≤ 200
def RGreat (w : World) (xs : List Val) (e : Ending) (w' : World) : Prop := ∃ b, e = .returned (.bool b) ∧ (b = false → FewV xs) ∧ Below w.heap.size w w'

set_option maxHeartbeats 1600000 in
theorem great_any (v : Value) (xs : List Val) (w : World) (hv : VSl w v xs) : Calls Try.prog 9 #[v] w fun e w' => RGreat w xs e w' := by
  obtain ⟨a, c, rfl, hl, hm, hc⟩ := hv
  have HC : Hid ((xs = [] ∧ (a = none → c = 0)) ∨ ∃ b o, a = some ⟨b, o, none⟩ ∧ b < w.heap.size ∧ ∀ i, i < xs.length → At w b (o + i * 3) (nv xs i)) := hc
  clear hc
  go_enter Try.func9, Try.ntmps9
  go_wp2
  go_loopw [7] (fun i w' => ∃ k : Nat, k ≤ xs.length ∧ i = .int .i64 (k : Int) ∧ Below w.heap.size w w' ∧ ∀ i, i < k → (nv xs i).2.2.size ≤ 200) (fun i w' => xs.length - (intOf i).toNat)
  case atStart => exact ⟨0, by omega, rfl, Below.refl _ _, fun i h => by omega⟩
  case round =>
    obtain ⟨k, hk, rfl, hb, hall⟩ := hrel
    have HA : Hid (∀ i, i < k → (nv xs i).2.2.size ≤ 200) := hall
    clear hall
    by_cases hlt : k < xs.length
    · have hlt' : (k : Int) < (xs.length : Int) := by omega
      rcases HC.out with ⟨h0, _⟩ | ⟨b, o, rfl, hbl, hat⟩
      · rw [h0] at hlt; cases hlt
      obtain ⟨c0, c1, c2⟩ := (hat k hlt).later hbl hb
      clear hat
      by_cases hs : 200 < (nv xs k).2.2.size
      · have hs' : (200 : Int) < ((nv xs k).2.2.size : Int) := by omega
        go_wp2
        go_ret
        exact ⟨true, rfl, (fun h => Bool.noConfusion h), below_more hb _⟩
      · have hs' : ¬ (200 : Int) < ((nv xs k).2.2.size : Int) := by omega
        go_wp2
        go_roundw
        case rel =>
          refine ⟨k + 1, by omega, by go_num, below_more hb _, fun i hi => ?_⟩
          by_cases e : i = k
          · subst e; omega
          · exact HA.out i (by omega)
        case measure => simp [intOf]; omega
    · have e : k = xs.length := by omega
      subst e
      by_cases hs : 40 < xs.length
      · have hs' : (40 : Int) < (xs.length : Int) := by omega
        go_wp2
        go_ret
        exact ⟨true, rfl, (fun h => Bool.noConfusion h), hb⟩
      · have hs' : ¬ (40 : Int) < (xs.length : Int) := by omega
        go_wp2
        go_ret
        exact ⟨_, rfl, fun _ => ⟨by omega, HA.out⟩, hb⟩
end Go.Proofs.Ytdacnbldgbakeaa
