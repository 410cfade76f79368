/- That the document's example holds; what is more than a statement takes. Conditions: the table holds the rounds' numbers. -/
import Derived.Test.YtilfmemfnheppaaDoorMF
import Derived.Lib.SlBytesConst
import Derived.Deep.OwnRows
namespace Go.Proofs.YtilfmemfnheppaaDoor
open Go.RowKit Hx
set_option linter.unusedVariables false

theorem part_len {w : World} {u : Value} {xs : List Int} (h : Sl w u xs) : ∃ a c, u = .slice a xs.length c ∧ xs.length ≤ 9223372036854775807 := by
  obtain ⟨a, c, h, _, h', _⟩ := h; exact ⟨a, c, h, h'⟩

/-- what great tells: if no, there are few parts, and none of them is long -/
def Few (ps : List (List Int)) : Prop := ps.length ≤ 20 ∧ ∀ k, k < ps.length → (part ps k).length ≤ 200
def RGreat (ps : List (List Int)) (w : World) (en : Ending) (w' : World) : Prop := ∃ b, en = .returned (.bool b) ∧ (b = false → Few ps) ∧ w' = w
theorem RGreat.yes {ps : List (List Int)} {w w' : World} (h : w' = w) : RGreat ps w (.returned (.bool true)) w' := ⟨true, rfl, (fun h => nomatch h), h⟩
theorem RGreat.no {ps : List (List Int)} {w w' : World} (h : w' = w) (hf : Few ps) : RGreat ps w (.returned (.bool false)) w' := ⟨false, rfl, fun _ => hf, h⟩

set_option maxRecDepth 100000 in
set_option maxHeartbeats 1000000 in
theorem great_any (v : Value) (ps : List (List Int)) (w : World) (hv : PSl w v ps) :
    Calls Tryd.prog 9 #[v] w fun en w' => RGreat ps w en w' := by
  obtain ⟨ad, cap, rfl, hl, hcap, hr⟩ := hv
  obtain ⟨L, hL⟩ : ∃ L, L = ps.length := ⟨_, rfl⟩
  rw [← hL] at hl hcap hr ⊢
  have HL : Hid (L = ps.length) := hL
  clear hL
  go_enter Tryd.func9, Tryd.ntmps9
  go_wp2_with fail
  go_loopw [7] (fun i wr => ∃ k : Nat, k ≤ L ∧ i = .int .i64 k ∧ Hid (∀ j, j < k → (part ps j).length ≤ 200) ∧ Hid (wr = w)) (fun i _ => L - (intOf i).toNat)
  case atStart => exact ⟨0, by omega, rfl, fun j hj => by omega, rfl⟩
  case round =>
    obtain ⟨k, hk, rfl, HA, HW⟩ := hrel
    by_cases hlt : k < L
    · obtain ⟨b, off, rfl, hbs, hcell⟩ := hr (by omega)
      obtain ⟨u, hu, hsu⟩ := hcell k hlt
      obtain ⟨au, cu, rfl, hul⟩ := part_len hsu
      have hlt' : (k : Int) < (L : Int) := by omega
      have cc : wr.cell? ⟨b, off + k, none⟩ = some (.slice au (part ps k).length cu) := by rw [HW.out]; exact hu
      obtain ⟨M, hM⟩ : ∃ M, M = (part ps k).length := ⟨_, rfl⟩
      rw [← hM] at cc hul
      have HM : Hid (M = (part ps k).length) := hM
      clear hM hu hsu hcell hr
      by_cases hg : 200 < M
      · have hg' : (200 : Int) < (M : Int) := by omega
        go_wp2
        go_ret
        exact RGreat.yes HW.out
      · have hg' : ¬ (200 : Int) < (M : Int) := by omega
        go_wp2
        refine ⟨⟨k + 1, by omega, by go_num, fun j hj => ?_, HW⟩, by simp [intOf]; omega⟩
        by_cases hjk : j < k
        · exact HA.out j hjk
        · have : j = k := by omega
          subst this
          rw [← HM.out]; omega
    · have hk' : k = L := by omega
      subst hk'
      by_cases hg : 20 < k
      · have hg' : (20 : Int) < (k : Int) := by omega
        go_wp2
        go_ret
        exact RGreat.yes HW.out
      · have hg' : ¬ (20 : Int) < (k : Int) := by omega
        go_wp2
        go_ret
        exact RGreat.no HW.out ⟨by rw [← HL.out]; omega, by rw [← HL.out]; exact HA.out⟩
end Go.Proofs.YtilfmemfnheppaaDoor
