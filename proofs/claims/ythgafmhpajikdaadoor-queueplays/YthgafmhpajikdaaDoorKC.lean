/- Rows of values put one behind the other in new memory. No conditions but sizes. -/
import Derived.Test.YthgafmhpajikdaaDoorUC
import Derived.Test.YthgafmhpajikdaaDoorGL
namespace Go.Proofs.YthgafmhpajikdaaDoor
open Go.RowKit Go.PlainAid Ln Go.Sort
set_option linter.unusedVariables false
set_option linter.unusedSimpArgs false

/-- the k-th row -/
def rwL (ls : List (List Val)) (k : Nat) : List Val := ls.getD k []
theorem rwL_eq (ls : List (List Val)) (k : Nat) (h : k < ls.length) : rwL ls k = ls[k] := by unfold rwL; simp [h]
/-- in the world w the slice v has these rows -/
def RSl (w : World) (v : Value) (ls : List (List Val)) : Prop :=
  ∃ (a : Option Addr) (cap : Nat), v = .slice a ls.length cap ∧ ls.length ≤ 9223372036854775807 ∧ ls.length ≤ cap ∧
    (0 < ls.length → ∃ b off, a = some ⟨b, off, none⟩ ∧ b < w.heap.size ∧ ∀ i, i < ls.length → ∃ u, w.cell? ⟨b, off + i, none⟩ = some u ∧ VSl w u (rwL ls i))
theorem flat_next (ls : List (List Val)) (k : Nat) (h : k < ls.length) : (ls.take (k + 1)).flatten = (ls.take k).flatten ++ rwL ls k := by
  rw [List.take_succ_eq_append_getElem h, List.flatten_append, rwL_eq ls k h]; simp
theorem flat_le (ls : List (List Val)) (k : Nat) : (ls.take k).flatten.length ≤ ls.flatten.length := by
  have e : ls.flatten = (ls.take k).flatten ++ (ls.drop k).flatten := by rw [← List.flatten_append, List.take_append_drop]
  have h := congrArg List.length e
  rw [List.length_append] at h
  omega
theorem RSl.later {w w' : World} {v : Value} {ls : List (List Val)} (h : RSl w v ls) (hb : Below w.heap.size w w') : RSl w' v ls := by
  obtain ⟨a, cap, hv, h1, h2, h3⟩ := h
  refine ⟨a, cap, hv, h1, h2, fun h0 => ?_⟩
  obtain ⟨b, off, ha, hbs, hc⟩ := h3 h0
  refine ⟨b, off, ha, Nat.lt_of_lt_of_le hbs hb.size, fun i hi => ?_⟩
  obtain ⟨u, h4, h5⟩ := hc i hi
  exact ⟨u, (hb.cell (p := ⟨b, off + i, none⟩) hbs).trans h4, h5.later hb⟩
theorem rsl_none (w : World) : RSl w (.slice none 0 0) [] := ⟨none, 0, rfl, by simp, by simp, fun h => by cases h⟩
theorem rsl_one {w : World} {u : Value} {xs : List Val} (h : VSl w u xs) (T : TypeId) : RSl (w.alloc (.cells #[u] T)) (.slice (some ⟨w.heap.size, 0, none⟩) 1 1) [xs] := by
  refine ⟨some ⟨w.heap.size, 0, none⟩, 1, rfl, by simp, by simp, fun _ => ⟨w.heap.size, 0, rfl, by simp, fun i hi => ?_⟩⟩
  have hi0 : i = 0 := by simpa using hi
  subst hi0
  exact ⟨u, by simp, h.later ((Below.refl _ _).alloc (Nat.le_refl _) _)⟩
theorem rsl_two {w : World} {u v : Value} {xs ys : List Val} (h : VSl w u xs) (k : VSl w v ys) (T : TypeId) : RSl (w.alloc (.cells #[u, v] T)) (.slice (some ⟨w.heap.size, 0, none⟩) 2 2) [xs, ys] := by
  refine ⟨some ⟨w.heap.size, 0, none⟩, 2, rfl, by simp, by simp, fun _ => ⟨w.heap.size, 0, rfl, by simp, fun i hi => ?_⟩⟩
  have hb := (Below.refl w.heap.size w).alloc (Nat.le_refl _) (.cells #[u, v] T)
  have hi2 : i < 2 := by simpa using hi
  match i, hi2 with
  | 0, _ => exact ⟨u, by simp, h.later hb⟩
  | 1, _ => exact ⟨v, by simp, k.later hb⟩
theorem rsl_three {w : World} {u v x : Value} {xs ys zs : List Val} (h : VSl w u xs) (k : VSl w v ys) (l : VSl w x zs) (T : TypeId) : RSl (w.alloc (.cells #[u, v, x] T)) (.slice (some ⟨w.heap.size, 0, none⟩) 3 3) [xs, ys, zs] := by
  refine ⟨some ⟨w.heap.size, 0, none⟩, 3, rfl, by simp, by simp, fun _ => ⟨w.heap.size, 0, rfl, by simp, fun i hi => ?_⟩⟩
  have hb := (Below.refl w.heap.size w).alloc (Nat.le_refl _) (.cells #[u, v, x] T)
  have hi2 : i < 3 := by simpa using hi
  match i, hi2 with
  | 0, _ => exact ⟨u, by simp, h.later hb⟩
  | 1, _ => exact ⟨v, by simp, k.later hb⟩
  | 2, _ => exact ⟨x, by simp, l.later hb⟩
/-- a part of a row that the call owns, of its length: what it is told by -/
theorem grow_any (n : Nat) (hn : n ≤ 1000000) (w : World) : Calls Tryd.prog 33 #[.slice none 0 0, .int .i64 (n : Int)] w fun e w' => ∃ v, e = .returned v ∧ OwnV w' w.heap.size v [] ∧ Below w.heap.size w w' := by
  by_cases h0 : n = 0
  · subst h0
    refine (Any8.slices_Grow_room growLays none 0 0 0 w (Nat.le_refl _) (by decide) (by decide) (Nat.le_refl _)).mono ?_
    rintro e w' ⟨rfl, rfl⟩
    exact ⟨_, rfl, OwnV.nil _ _, Below.refl _ _⟩
  · obtain ⟨i0, hi, hz0, hz1, hz2⟩ := info_parts infoV
    refine (Any8.slices_Grow_grow growLays i0 _ hi hz0 (by rw [hz1]; decide) none 0 0 n [] w (Nat.le_refl _) (by omega) (by rw [hz2]; omega) (by omega) (by simp) (fun _ => rfl) (fun a h => by cases h)).mono ?_
    rintro e w' ⟨rfl, rfl⟩
    have hG : grownCap w (0 + n) 0 25 ≤ maxLen := grownCap_le_maxLen w (0 + n) 0 25 (by unfold maxLen; omega)
    have hg := grownCap_ge w (0 + n) 0 25
    refine ⟨_, rfl, ⟨rfl, .inr ⟨w.heap.size, _, _, rfl, Nat.le_refl _, World.alloc_heap_new w.drew _, Nat.zero_le _, hG, ?_, by simp [cellsV]⟩⟩, ?_⟩
    · change grownCap w (0 + n) 0 25 ≤ maxLen at hG
      rw [Array.size_append, Array.size_append, size_zeroCells, size_zeroCells]
      show 0 + (0 + n - 0) * 3 + (grownCap w (0 + n) 0 25 - (0 + n)) * 3 = grownCap w (0 + n) 0 25 * 3
      omega
    · exact below_more (show Below w.heap.size w w.drew from ⟨rfl, rfl, rfl, Nat.le_refl _, fun _ _ => rfl⟩) _
set_option maxRecDepth 100000 in
set_option maxHeartbeats 4000000 in
theorem concat_any (v : Value) (ls : List (List Val)) (w : World) (hv : RSl w v ls) (hsz : ls.flatten.length ≤ 900000) :
    Calls Tryd.prog 25 #[v] w fun e w' => ∃ u, e = .returned u ∧ OwnV w' w.heap.size u ls.flatten ∧ Below w.heap.size w w' := by
  obtain ⟨ad, cap, rfl, hl, hcap, hr⟩ := hv
  go_enter Tryd.func25, Tryd.ntmps25
  go_wp2
  go_loopw [3, 11] (fun s i w' => ∃ k : Nat, k ≤ ls.length ∧ i = .int .i64 (k : Int) ∧ s = .int .i64 ((ls.take k).flatten.length : Int) ∧ w = w') (fun s i w' => ls.length - (intOf i).toNat)
  case atStart => exact ⟨0, by omega, rfl, rfl, rfl⟩
  case round =>
    obtain ⟨k, hk, rfl, rfl, rfl⟩ := hrel
    by_cases hlt : k < ls.length
    · have hlt' : (k : Int) < (ls.length : Int) := by omega
      obtain ⟨b, off, rfl, hbs, hcell⟩ := hr (by omega)
      obtain ⟨u, hu, hsu⟩ := hcell k hlt
      obtain ⟨a, c, rfl, _, _, _⟩ := hsu.form
      have f1 := flat_le ls (k + 1)
      have f2 := flat_next ls k hlt
      have f3 : ((ls.take (k + 1)).flatten).length = (ls.take k).flatten.length + (rwL ls k).length := by rw [f2, List.length_append]
      have HF : Hid (((ls.take (k + 1)).flatten).length = (ls.take k).flatten.length + (rwL ls k).length) := f3
      clear hcell hr hsu f2
      generalize (rwL ls k).length = n1 at *
      obtain ⟨n0, hn0⟩ : ∃ n0, (ls.take k).flatten.length = n0 := ⟨_, rfl⟩
      rw [hn0] at f3 HF ⊢
      rw [f3] at f1
      clear f3 hn0
      have hs' : ¬ ((n0 : Int) + (n1 : Int) < 0) := by omega
      go_wp2
      go_roundw
      case rel => exact ⟨k + 1, by omega, by go_num, by rw [HF.out]; go_num, by first | rfl | trivial⟩
      case measure => simp [intOf]; omega
    · have hk' : k = ls.length := by omega
      subst hk'
      rw [List.take_length]
      obtain ⟨N, hN⟩ : ∃ N, ls.flatten.length = N := ⟨_, rfl⟩
      have HL : Hid (ls.flatten.length = N) := hN
      rw [hN] at hsz ⊢
      clear hN
      go_wp2_with (go_at_call 33; refine (grow_any N (by omega) _).mono ?_; rintro e w1 ⟨v1, rfl, ho1, hb1⟩; have HO : Hid (OwnV w1 w.heap.size v1 []) := ho1; have HB : Hid (Below w.heap.size w w1) := hb1; clear ho1 hb1)
      go_loopw [6, 27] (fun s i w' => ∃ k : Nat, k ≤ ls.length ∧ i = .int .i64 (k : Int) ∧ Hid (OwnV w' w.heap.size s (ls.take k).flatten) ∧ Hid (Below w.heap.size w w')) (fun s i w' => ls.length - (intOf i).toNat)
      case atStart => exact ⟨0, by omega, rfl, HO, HB⟩
      case round =>
        clear HO HB
        obtain ⟨k, hk, rfl, HO, HB⟩ := hrel
        by_cases hlt : k < ls.length
        · have hlt' : (k : Int) < (ls.length : Int) := by omega
          obtain ⟨b, off, rfl, hbs, hcell⟩ := hr (by omega)
          obtain ⟨u, hu, hsu⟩ := hcell k hlt
          have cu : wr.cell? ⟨b, off + k, none⟩ = some u := (HB.out.cell (p := ⟨b, off + k, none⟩) hbs).trans hu
          have HS : Hid (VSl wr u (rwL ls k)) := hsu.later HB.out
          have HF : Hid ((ls.take (k + 1)).flatten = (ls.take k).flatten ++ rwL ls k) := flat_next ls k hlt
          have HG : Hid ((ls.take k).flatten.length + (rwL ls k).length ≤ 1000000) := by
            have f1 := flat_le ls (k + 1)
            rw [HF.out, List.length_append] at f1
            have f2 := HL.out
            show (ls.take k).flatten.length + (rwL ls k).length ≤ 1000000
            omega
          clear hcell hr hsu hu
          go_wp2_with (at_builtin; refine wpList_appendV rfl (.tmp 31) (.tmp 32) rfl w.heap.size _ _ rfl HO.out u (rwL ls k) rfl HS.out HG.out HB.out.size ?_; intro v' w' o' g' e'; have HO2 : Hid (OwnV w' w.heap.size v' (ls.take (k + 1)).flatten) := HF.out ▸ o'; have HB2 : Hid (Below w.heap.size w w') := below_own HO.out g' HB.out HB.out.size; clear o' g' e')
          go_roundw
          case rel => exact ⟨k + 1, by omega, by go_num, HO2, HB2⟩
          case measure => simp [intOf]; omega
        · have hk' : k = ls.length := by omega
          subst hk'
          rw [List.take_length] at HO
          go_wp2
          go_ret
          exact ⟨_, rfl, HO.out, HB.out⟩
end Go.Proofs.YthgafmhpajikdaaDoor
