/- The contracts of Go's Split at a blank, of its Contains over texts, and of the program's Words. Conditions: at most 900,000 bytes. -/
import Derived.Test.YtmmlafhifnmkpaaDoorLF
import Derived.Test.YtmmlafhifnmkpaaDoorLD
import Derived.RangeFuncBox
namespace Go.Proofs.YtmmlafhifnmkpaaDoor
open Go.RowKit Go.PlainAid
set_option linter.unusedVariables false

theorem sindex_any (s : ByteArray) (c : UInt8) (w : World) : Calls Tryd.prog 31 #[.string s, .string ⟨#[c]⟩] w fun e w' => e = .returned (.int .i64 (Lib.indexB s ⟨#[c]⟩)) ∧ w' = w := by
  have h := Any.strings_Index_one sindexLays s c w
  rw [byte_index] at h
  exact h
theorem count_any (s : ByteArray) (c : UInt8) (w : World) : Calls Tryd.prog 30 #[.string s, .string ⟨#[c]⟩] w fun e w' => e = .returned (.int .i64 (Lib.countB s ⟨#[c]⟩)) ∧ w' = w := by
  refine (Any.strings_Count_one countLays s c w).mono fun e w' ⟨he, hw⟩ => ⟨?_, hw⟩
  rw [he]
  show _ = Ending.returned (Value.int .i64 ((Lib.count s.data.toList [c] : Nat) : Int))
  rw [Lib.count_one]
  rfl
theorem pcs_len (c : UInt8) (l : List UInt8) : (pcs c l).length ≤ l.length + 1 := by
  unfold pcs
  have := cutL_count c l
  simp; omega
theorem splitB_pcs (s : ByteArray) (c : UInt8) : Lib.splitB ⟨#[c]⟩ 0 (Lib.countB s ⟨#[c]⟩) s = (pcs c (tx s)).map bs := by
  have h := Lib.splitB_data ⟨#[c]⟩ 0 (Lib.countB s ⟨#[c]⟩) s
  have e : Lib.splitK [c] 0 (Lib.count (tx s) [c]) (tx s) = pcs c (tx s) := splitK_pcs c _ (tx s) (Nat.le_refl _)
  have h2 : (Lib.splitB ⟨#[c]⟩ 0 (Lib.countB s ⟨#[c]⟩) s).map (fun b => b.data.toList) = pcs c (tx s) := h.trans e
  rw [← h2, List.map_map]
  have : (bs ∘ fun b : ByteArray => b.data.toList) = id := funext fun b => bs_tx b
  rw [this, List.map_id]
theorem countB_pcs (s : ByteArray) (c : UInt8) : Lib.countB s ⟨#[c]⟩ + 1 = (pcs c (tx s)).length := by
  have h := Lib.splitB_all ⟨#[c]⟩ (Nat.le_refl 1) 0 _ s rfl
  rw [splitB_pcs, List.length_map] at h
  exact h.symm

set_option maxHeartbeats 1000000 in
/-- a text split at a byte: a new row of its pieces -/
theorem ssplit_any (s : ByteArray) (c : UInt8) (w : World) (hz : s.size ≤ 900000) : Calls Tryd.prog 13 #[.string s, .string ⟨#[c]⟩] w fun e w' =>
    e = .returned (.slice (some ⟨w.heap.size, 0, none⟩) (pcs c (tx s)).length (pcs c (tx s)).length) ∧ w' = w.alloc (.cells (cellsS (pcs c (tx s))).toArray 9) := by
  have hle := Lib.countB_le ⟨#[c]⟩ (Nat.le_refl 1) s.size s (Nat.le_refl _)
  have g := Any.strings_genSplit_core gensLays (by kernel_rfl) s ⟨#[c]⟩ 0 (-1) (Lib.countB s ⟨#[c]⟩ + 1) w (by omega) (Nat.le_refl 1) (Nat.zero_le _)
    (fun x cc hx => sindex_any x c _) (count_any s c w) (by decide) (by decide) (by rw [if_pos (by decide)]; omega)
  rw [Nat.add_sub_cancel, splitB_pcs, List.length_map, countB_pcs] at g
  have e2 : Lib.cellsOf ((pcs c (tx s)).map bs) (pcs c (tx s)).length = (cellsS (pcs c (tx s))).toArray := by
    have := Lib.cellsOf_full ((pcs c (tx s)).map bs)
    rw [List.length_map, List.map_map] at this
    exact this
  rw [e2] at g
  generalize pcs c (tx s) = L at *
  go_enter Tryd.func13, Tryd.ntmps13
  go_wp2_with (go_at_call 20; refine g.mono ?_; rintro e w' ⟨rfl, hw⟩; rw [hw])
  go_ret
  exact ⟨rfl, rfl⟩
theorem ssl_new (w : World) (L : List (List UInt8)) (hl : L.length ≤ 1000000) : SSl (w.alloc (.cells (cellsS L).toArray 9)) (.slice (some ⟨w.heap.size, 0, none⟩) L.length L.length) L :=
  ⟨_, _, rfl, Nat.le_refl _, by omega, .inr ⟨w.heap.size, 0, rfl, by simp, fun i hi => by
    have e : (w.alloc (.cells (cellsS L).toArray 9)).heap[w.heap.size]? = some (.cells (cellsS L).toArray 9 (0, 0)) := World.alloc_heap_new w _
    have e2 : (cellsS L).toArray[0 + i]? = some (.string (bs (nt L i))) := by rw [List.getElem?_toArray, Nat.zero_add]; exact cellsS_at L i hi
    unfold World.cell?
    rw [e]
    exact e2⟩⟩
/-- is one of these texts empty? -/
def emB (L : List (List UInt8)) : Bool := decide ([] ∈ L)
theorem has_any (w : World) (v : Value) (L : List (List UInt8)) (hv : SSl w v L) (hl : L.length ≤ 1000000) : Calls Tryd.prog 14 #[v, .string ⟨#[]⟩] w fun e w' => e = .returned (.bool (emB L)) ∧ w' = w := by
  obtain ⟨a, c, rfl, h1, h2, h3⟩ := hv
  rcases h3 with ⟨h3, _⟩ | ⟨b, o, rfl, hb, hc⟩
  · subst h3
    have := Any.slices_Contains_string_empty hasLays a c ⟨#[]⟩ w
    rw [show emB [] = false from rfl]
    exact this
  · have h := Any.slices_Contains_string hasLays b o L.length c (L.map bs) ⟨#[]⟩ w (by simp) (by omega) (fun j hj => by
      rw [List.length_map] at hj
      rw [hc j hj]
      congr 2
      rw [List.getD_eq_getElem?_getD, List.getElem?_map, nt_some L j hj]; rfl)
    have e : Lib.containsS ((L.map bs).take L.length) ⟨#[]⟩ = emB L := by
      rw [List.take_of_length_le (by simp)]
      unfold emB
      rw [Bool.eq_iff_iff, Lib.containsS_iff, decide_eq_true_iff, List.mem_map]
      constructor
      · rintro ⟨x, hx, h⟩
        have : x = [] := bs_inj h
        rw [← this]; exact hx
      · intro hx; exact ⟨[], hx, rfl⟩
    rw [e] at h
    exact h

/-- what the program's Words hands back of a line -/
def PWords (w : World) (l : List UInt8) (e : Ending) (w' : World) : Prop :=
  ∃ v, Below w.heap.size w w' ∧ (([] ∉ pcs 32 l ∧ e = .returned (.tuple #[v, .int .i64 0]) ∧ SSl w' v (pcs 32 l)) ∨ ([] ∈ pcs 32 l ∧ e = .returned (.tuple #[.slice none 0 0, .int .i64 2])))
set_option maxHeartbeats 1000000 in
theorem words_any (s : ByteArray) (w : World) (hz : s.size ≤ 900000) : Calls Tryd.prog 6 #[.string s] w fun e w' => PWords w (tx s) e w' := by
  have h1 := ssplit_any s 32
  have hl := pcs_len 32 (tx s)
  rw [tx_len] at hl
  by_cases hm : [] ∈ pcs 32 (tx s)
  · have HM : Hid ([] ∈ pcs 32 (tx s)) := hm
    have h2 := fun w => has_any (w.alloc (.cells (cellsS (pcs 32 (tx s))).toArray 9)) _ _ (ssl_new w (pcs 32 (tx s)) (by omega)) (by omega)
    rw [show emB (pcs 32 (tx s)) = true from decide_eq_true hm] at h2
    clear hm
    go_enter Tryd.func6, Tryd.ntmps6
    go_wp2_with (first | (go_at_call 13; refine (h1 _ hz).mono ?_; rintro e w1 ⟨rfl, hw⟩; rw [hw]) | (go_at_call 14; refine (h2 _).mono ?_; rintro e w2 ⟨rfl, hw2⟩; rw [hw2]))
    go_ret2
    exact ⟨.slice none 0 0, below_more (Below.refl _ _) _, .inr ⟨HM.out, rfl⟩⟩
  · have HM : Hid ([] ∉ pcs 32 (tx s)) := hm
    have h2 := fun w => has_any (w.alloc (.cells (cellsS (pcs 32 (tx s))).toArray 9)) _ _ (ssl_new w (pcs 32 (tx s)) (by omega)) (by omega)
    rw [show emB (pcs 32 (tx s)) = false from decide_eq_false hm] at h2
    have HS : Hid (∀ w : World, SSl (w.alloc (.cells (cellsS (pcs 32 (tx s))).toArray 9)) (.slice (some ⟨w.heap.size, 0, none⟩) (pcs 32 (tx s)).length (pcs 32 (tx s)).length) (pcs 32 (tx s))) := fun w => ssl_new w _ (by omega)
    clear hm
    go_enter Tryd.func6, Tryd.ntmps6
    go_wp2_with (first | (go_at_call 13; refine (h1 _ hz).mono ?_; rintro e w1 ⟨rfl, hw⟩; rw [hw]) | (go_at_call 14; refine (h2 _).mono ?_; rintro e w2 ⟨rfl, hw2⟩; rw [hw2]))
    go_ret2
    exact ⟨_, below_more (Below.refl _ _) _, .inl ⟨HM.out, rfl, HS.out w⟩⟩
end Go.Proofs.YtmmlafhifnmkpaaDoor
