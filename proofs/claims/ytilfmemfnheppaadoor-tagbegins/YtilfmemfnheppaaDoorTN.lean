/- That the document's examples hold: a tag of no bytes is refused, a frame has 17 bytes; lists of parts that a call builds. No conditions. -/
import Derived.Test.YtilfmemfnheppaaDoorTM
import Derived.Test.YtilfmemfnheppaaDoorTI
import Derived.Test.YtilfmemfnheppaaDoorMJ
import Derived.Lib.SlBytesConst
namespace Go.Proofs.YtilfmemfnheppaaDoor
open Go.RowKit Hx
set_option linter.unusedVariables false

theorem nf_some (ad : Addr) (n c : Nat) : Nf (.slice (some ad) n c) := fun _ _ h => by cases h
theorem nf_nil : Nf (.slice none 0 0) := fun _ _ h => by cases h; exact ⟨rfl, rfl⟩
theorem sl_nil (w : World) : Sl w (.slice none 0 0) [] := ⟨none, 0, rfl, by simp, by simp, by simp, fun h => by simp at h⟩
theorem psn_two {w : World} {u v : Value} {xs ys : List Int} (h : Sl w u xs) (k : Sl w v ys) (hn : Nf u) (kn : Nf v) (T : TypeId) : PSn (w.alloc (.cells #[u, v] T)) (.slice (some ⟨w.heap.size, 0, none⟩) 2 2) [xs, ys] := by
  refine ⟨some ⟨w.heap.size, 0, none⟩, 2, rfl, by simp, by simp, fun _ => ⟨w.heap.size, 0, rfl, by simp, fun i hi => ?_⟩⟩
  have hb := (Below.refl w.heap.size w).alloc (Nat.le_refl _) (.cells #[u, v] T)
  have hi2 : i < 2 := by simpa using hi
  match i, hi2 with
  | 0, _ => exact ⟨u, by simp, h.later hb, hn⟩
  | 1, _ => exact ⟨v, by simp, k.later hb, kn⟩
theorem psn_three {w : World} {u v x : Value} {xs ys zs : List Int} (h : Sl w u xs) (k : Sl w v ys) (l : Sl w x zs) (hn : Nf u) (kn : Nf v) (ln : Nf x) (T : TypeId) : PSn (w.alloc (.cells #[u, v, x] T)) (.slice (some ⟨w.heap.size, 0, none⟩) 3 3) [xs, ys, zs] := by
  refine ⟨some ⟨w.heap.size, 0, none⟩, 3, rfl, by simp, by simp, fun _ => ⟨w.heap.size, 0, rfl, by simp, fun i hi => ?_⟩⟩
  have hb := (Below.refl w.heap.size w).alloc (Nat.le_refl _) (.cells #[u, v, x] T)
  have hi2 : i < 3 := by simpa using hi
  match i, hi2 with
  | 0, _ => exact ⟨u, by simp, h.later hb, hn⟩
  | 1, _ => exact ⟨v, by simp, k.later hb, kn⟩
  | 2, _ => exact ⟨x, by simp, l.later hb, ln⟩

set_option maxRecDepth 100000 in
set_option maxHeartbeats 1000000 in
theorem of_no (k d : Value) (size : Int) (x : Value) (w : World) (h : size < 1 ∨ 16 < size) :
    Calls Tryd.prog 16 #[k, d, .int .i64 size, x] w fun en w' => en = .returned (.tuple #[.string (ByteArray.mk #[]), .int .i64 1]) ∧ w' = w := by
  by_cases h1 : size < 1
  · go_enter Tryd.func16, Tryd.ntmps16
    go_wp2
    go_ret2
    exact ⟨rfl, rfl⟩
  · have h2 : 16 < size := by omega
    go_enter Tryd.func16, Tryd.ntmps16
    go_wp2
    go_ret2
    exact ⟨rfl, rfl⟩

set_option maxRecDepth 100000 in
set_option maxHeartbeats 1000000 in
theorem wakes_any (w : World) : Calls Tryd.prog 8 #[] w fun en w' => en = .returned (.bool true) ∧ Below w.heap.size w w' := by
  have kc := fun (w : World) (C : Array Value) (n c : Nat) => Lib.run_convert_bytes_const (P := Tryd.prog) w 25 5 C n c Tryd.underlying25 Tryd.underlying5
  go_enter Tryd.func8, Tryd.ntmps8
  go_wp2_with fail
  refine (of_no _ _ 0 _ w (.inl (by omega))).mono ?_
  rintro e w1 ⟨rfl, rfl⟩
  go_wp2_with fail
  clear kc
  have p1 : PSn ((w1.alloc (.cells #[.int .u8 97] 5 (1, 2))).alloc (.cells #[.slice (some ⟨w1.heap.size, 0, none⟩) 1 1, .slice none 0 0] 25)) (.slice (some ⟨w1.heap.size + 1, 0, none⟩) 2 2) [[97], []] := by
    have h := psn_two (sl_lit w1 [97] (by decide) (by decide) (1, 2)) (sl_nil _) (nf_some _ _ _) nf_nil 25
    rw [World.size_alloc] at h
    exact h
  have hb2 : Below w1.heap.size w1 ((w1.alloc (.cells #[.int .u8 97] 5 (1, 2))).alloc (.cells #[.slice (some ⟨w1.heap.size, 0, none⟩) 1 1, .slice none 0 0] 25)) := ((Below.refl _ _).alloc (Nat.le_refl _) _).alloc (by simp) _
  generalize (w1.alloc (.cells #[.int .u8 97] 5 (1, 2))).alloc (.cells #[.slice (some ⟨w1.heap.size, 0, none⟩) 1 1, .slice none 0 0] 25) = w0 at p1 hb2 ⊢
  refine (frame_any _ [[97], []] w0 p1 (by decide)).mono ?_
  rintro e w4 ⟨v4, rfl, own4, hb4⟩
  obtain ⟨a4, c4, rfl⟩ : ∃ a c, v4 = .slice a 17 c := own_form own4 (by decide)
  have hb5 := below_next hb2 hb4
  clear p1 hb2 hb4 own4
  go_wp2
  go_ret
  exact ⟨rfl, hb5⟩
end Go.Proofs.YtilfmemfnheppaaDoor
