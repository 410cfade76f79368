/- The contracts of Go's Cut, Contains and CutSuffix at one byte, and of the program's isNote and Note. Conditions: at most 2^62 bytes. The contracts of Go's Split at a blank, of its Contains over texts, and of the program's Words. Conditions: at most 900,000 bytes. The contract of the document's Words. Conditions: at most 900,000 bytes. -/
import Derived.Test.YtdhlheilgagcpaaGreatDoorBL
import Derived.Test.YtdhlheilgagcpaaGreatDoorLS
import Derived.RangeFuncBox
namespace Go.Proofs.YtdhlheilgagcpaaGreatDoor
namespace Ln
open Go.RowKit Go.PlainAid
set_option linter.unusedVariables false

theorem byte_index (c : UInt8) : ∀ s : List UInt8, Lib.indexByte s c = Lib.index s [c]
  | [] => by simp [Lib.indexByte, Lib.index]
  | b :: l => by
    rw [Lib.indexByte, Lib.index, byte_index c l]
    have : ([c] : List UInt8).isPrefixOf (b :: l) = (b == c) := by
      simp only [List.isPrefixOf, Bool.and_true]
      by_cases h : b = c
      · subst h; rfl
      · rw [beq_eq_false_iff_ne.2 h, beq_eq_false_iff_ne.2 (Ne.symm h)]
    rw [this]
/-- a text cut at its first c -/
def cutV (c : UInt8) (l : List UInt8) : Value := .tuple #[.string (bs (Lib.cut l [c]).1), .string (bs (Lib.cut l [c]).2.1), .bool (Lib.cut l [c]).2.2]
theorem cutV_none (c : UInt8) (l : List UInt8) (h : c ∉ l) : cutV c l = .tuple #[.string (bs l), .string ⟨#[]⟩, .bool false] := by unfold cutV; rw [cut_none c l h]; rfl
theorem cutV_at (c : UInt8) (a b : List UInt8) (h : c ∉ a) : cutV c (a ++ c :: b) = .tuple #[.string (bs a), .string (bs b), .bool true] := by unfold cutV; rw [cut_at c a b h]

theorem index_any (s : ByteArray) (c : UInt8) (w : World) : Calls Tryz.prog 85 #[.string s, .string ⟨#[c]⟩] w fun e w' => e = .returned (.int .i64 (Lib.index (tx s) [c])) ∧ w' = w := by
  have h := Any.stringslite_Index_one indexLays s c w
  rw [byte_index] at h
  exact h
set_option maxHeartbeats 1000000 in
theorem lcut_any (s : ByteArray) (c : UInt8) (w : World) (hz : s.size ≤ 4611686018427387904) : Calls Tryz.prog 65 #[.string s, .string ⟨#[c]⟩] w fun e w' => e = .returned (cutV c (tx s)) ∧ Below w.heap.size w w' := by
  have hi := index_any s c
  have hone : (⟨#[c]⟩ : ByteArray).size = 1 := rfl
  rcases cut_cases c (tx s) with ⟨h1, h2⟩ | ⟨a, b, h1, h2, h3⟩
  · rw [cutV_none c _ h1, bs_tx]
    rw [h2] at hi
    go_enter Tryz.func65, Tryz.ntmps65
    go_wp2_with (go_at_call 85; refine (hi _).mono ?_; rintro e w1 ⟨rfl, rfl⟩)
    go_ret3
    exact ⟨rfl, Below.refl _ _⟩
  · have hv := cutV_at c a b h2
    rw [← h1] at hv
    rw [hv]
    rw [h3] at hi
    have hl : a.length + (b.length + 1) = s.size := by rw [← tx_len, h1]; simp
    obtain ⟨n, hn⟩ : ∃ n, a.length = n := ⟨_, rfl⟩
    have e1 : s.extract 0 n = bs a := by rw [extract_tx, h1, ← hn]; simp
    have e2 : s.extract (n + 1) s.size = bs b := by
      rw [extract_tx, h1, ← hn]
      congr 1
      rw [show a.length + 1 = (a ++ [c]).length from by simp, show a ++ c :: b = (a ++ [c]) ++ b from by simp, List.drop_left]
      exact List.take_of_length_le (by simp; omega)
    rw [hn] at hi hl
    have c1 : (0 : Int) ≤ (n : Int) := by omega
    have c2 : (n : Int) ≤ (s.size : Int) := by omega
    have c3 : (0 : Int) ≤ (n : Int) + 1 := by omega
    have c4 : (n : Int) + 1 ≤ (s.size : Int) := by omega
    clear h1 hv h2 h3 hn
    go_enter Tryz.func65, Tryz.ntmps65
    go_wp2_with (go_at_call 85; refine (hi _).mono ?_; rintro e w1 ⟨rfl, rfl⟩)
    go_region
    go_wp2
    go_ret3
    exact ⟨rfl, (Below.refl _ _).drew⟩
theorem cut_any (s : ByteArray) (c : UInt8) (w : World) (hz : s.size ≤ 4611686018427387904) : Calls Tryz.prog 44 #[.string s, .string ⟨#[c]⟩] w fun e w' => e = .returned (cutV c (tx s)) ∧ Below w.heap.size w w' := by
  go_enter Tryz.func44, Tryz.ntmps44
  go_wp2_with (go_at_call 65; refine (lcut_any s c _ hz).mono ?_; unfold cutV; rintro e w1 ⟨rfl, hb⟩)
  go_ret3
  exact ⟨rfl, hb⟩
theorem contains_any (s : ByteArray) (c : UInt8) (w : World) : Calls Tryz.prog 67 #[.string s, .string ⟨#[c]⟩] w fun e w' => e = .returned (.bool (decide (c ∈ tx s))) ∧ w' = w := by
  have h := Any.strings_Contains_one contLays s c w
  rw [byte_index] at h
  have e := contains_mem c (tx s)
  unfold Lib.contains at e
  rw [e] at h
  exact h
/-- does a text end with a blank? -/
def endB (l : List UInt8) : Bool := decide (l.getLast? = some 32)
theorem suffix_last (l : List UInt8) : Lib.hasSuffix l [32] = endB l := by
  unfold Lib.hasSuffix endB
  rcases List.eq_nil_or_concat l with rfl | ⟨m, x, rfl⟩
  · rfl
  · rw [List.concat_eq_append]
    by_cases h : x = 32
    · subst h; simp [List.isSuffixOf, List.isPrefixOf]
    · simp [List.isSuffixOf, List.isPrefixOf, h, Ne.symm h]
/-- a text without the blank at its end, if it has one -/
def cutE (l : List UInt8) : List UInt8 := if endB l then l.dropLast else l
theorem trim_last (l : List UInt8) : Lib.trimSuffix l [32] = cutE l := by
  unfold Lib.trimSuffix cutE
  rw [suffix_last, List.dropLast_eq_take]
  rfl
theorem suffix_any (s : ByteArray) (w : World) (hz : s.size ≤ 4611686018427387904) : Calls Tryz.prog 45 #[.string s, .string ⟨#[32]⟩] w fun e w' => e = .returned (.tuple #[.string (bs (cutE (tx s))), .bool (endB (tx s))]) ∧ w' = w := by
  have h := Any.strings_CutSuffix csufLays s ⟨#[32]⟩ w (by omega)
  rw [show (⟨#[32]⟩ : ByteArray).data.toList = [32] from rfl, suffix_last, trim_last] at h
  exact h

/-- what can be a note -/
def okN (l : List UInt8) : Bool := decide (l.length ≤ 100 ∧ (10 : UInt8) ∉ l)
theorem isNote_any (s : ByteArray) (w : World) (hz : s.size ≤ 4611686018427387904) : Calls Tryz.prog 46 #[.string s] w fun e w' => e = .returned (.bool (okN (tx s))) ∧ w' = w := by
  have hc := contains_any s 10
  by_cases h1 : s.size ≤ 100
  · have h1' : (s.size : Int) ≤ 100 := by omega
    by_cases h2 : (10 : UInt8) ∈ tx s
    · have ho : okN (tx s) = false := decide_eq_false (fun h => h.2 h2)
      rw [decide_eq_true h2] at hc
      rw [ho]
      clear h2 ho
      go_enter Tryz.func46, Tryz.ntmps46
      go_wp2_with (go_at_call 67; refine (hc _).mono ?_; rintro e w1 ⟨rfl, rfl⟩)
      go_ret
      exact ⟨rfl, rfl⟩
    · have ho : okN (tx s) = true := decide_eq_true ⟨by rw [tx_len]; exact h1, h2⟩
      rw [decide_eq_false h2] at hc
      rw [ho]
      clear h2 ho
      go_enter Tryz.func46, Tryz.ntmps46
      go_wp2_with (go_at_call 67; refine (hc _).mono ?_; rintro e w1 ⟨rfl, rfl⟩)
      go_ret
      exact ⟨rfl, rfl⟩
  · have h1' : ¬ (s.size : Int) ≤ 100 := by omega
    have ho : okN (tx s) = false := decide_eq_false (fun h => by have := h.1; rw [tx_len] at this; exact h1 this)
    rw [ho]
    clear ho hc
    go_enter Tryz.func46, Tryz.ntmps46
    go_wp2
    go_ret
    exact ⟨rfl, rfl⟩

/-- the program's answer on a line's note -/
def notA (r : List UInt8 × List UInt8 × Bool × Bool) : Value := .tuple #[.string (bs r.1), .string (bs r.2.1), .bool r.2.2.1, .int .i64 (if r.2.2.2 then 0 else 2)]

set_option maxHeartbeats 2000000 in
theorem note_any (s : ByteArray) (w : World) (hz : s.size ≤ 4611686018427387904) : Calls Tryz.prog 24 #[.string s] w fun e w' => e = .returned (notA (noteR (tx s))) ∧ Below w.heap.size w w' := by
  have hc := cut_any s 59
  rcases cut_cases 59 (tx s) with ⟨h1, h2⟩ | ⟨a, b, h1, h2, h3⟩
  · rw [cutV_none 59 _ h1, bs_tx] at hc
    rw [noteR_none _ h1, notA, bs_tx]
    clear h1 h2
    go_enter Tryz.func24, Tryz.ntmps24
    go_wp2_with (go_at_call 44; refine (hc _ hz).mono ?_; rintro e w1 ⟨rfl, hb1⟩)
    refine bodyPost_ret (v := .tuple #[.string s, .string ⟨#[]⟩, .bool false, .int .i64 0]) (by simp [results, Tryz.f24, go_sem]) rfl ?_
    exact ⟨rfl, hb1⟩
  · have hl : a.length + (b.length + 1) = s.size := by rw [← tx_len, h1]; simp
    have hv := cutV_at 59 a b h2
    rw [h1, hv] at hc
    have hA := suffix_any (bs a)
    have hN := isNote_any (bs b)
    have z1 : (bs a).size ≤ 4611686018427387904 := by rw [bs_size]; omega
    have z2 : (bs b).size ≤ 4611686018427387904 := by rw [bs_size]; omega
    rw [h1]
    by_cases hE : a.getLast? = some 32
    · have hE' : endB (tx (bs a)) = true := decide_eq_true hE
      rw [cutE, hE'] at hA
      simp only [if_true] at hA
      by_cases hO : okN b = true
      · have hO' : okN (tx (bs b)) = true := hO
        rw [hO'] at hN
        have hr := noteR_good a b h2 ⟨hE, (of_decide_eq_true hO).1, (of_decide_eq_true hO).2⟩
        rw [hr, notA]
        clear hE hE' hO hO' hr h1 h2 h3 hv
        go_enter Tryz.func24, Tryz.ntmps24
        go_wp2_with (first | (go_at_call 44; refine (hc _ hz).mono ?_; rintro e w1 ⟨rfl, hb1⟩) | (go_at_call 45; refine (hA _ z1).mono ?_; rintro e w2 ⟨rfl, rfl⟩) | (go_at_call 46; refine (hN _ z2).mono ?_; rintro e w3 ⟨rfl, rfl⟩))
        refine bodyPost_ret (v := .tuple #[.string (bs a.dropLast), .string (bs b), .bool true, .int .i64 0]) (by simp [results, Tryz.f24, go_sem]; rfl) rfl ?_
        exact ⟨rfl, hb1⟩
      · have hO' : okN (tx (bs b)) = false := by cases h : okN (tx (bs b)); rfl; exact absurd h hO
        rw [hO'] at hN
        have hr := noteR_bad a b h2 (fun h => hO (decide_eq_true h.2))
        rw [hr, notA]
        clear hE hE' hO hO' hr h1 h2 h3 hv
        go_enter Tryz.func24, Tryz.ntmps24
        go_wp2_with (first | (go_at_call 44; refine (hc _ hz).mono ?_; rintro e w1 ⟨rfl, hb1⟩) | (go_at_call 45; refine (hA _ z1).mono ?_; rintro e w2 ⟨rfl, rfl⟩) | (go_at_call 46; refine (hN _ z2).mono ?_; rintro e w3 ⟨rfl, rfl⟩))
        refine bodyPost_ret (v := .tuple #[.string ⟨#[]⟩, .string ⟨#[]⟩, .bool false, .int .i64 2]) (by simp [results, Tryz.f24, go_sem]) rfl ?_
        exact ⟨rfl, hb1⟩
    · have hE' : endB (tx (bs a)) = false := decide_eq_false hE
      rw [cutE, hE'] at hA
      have hr := noteR_bad a b h2 (fun h => hE h.1)
      rw [hr, notA]
      clear hE hE' hr h1 h2 h3 hv hN
      go_enter Tryz.func24, Tryz.ntmps24
      go_wp2_with (first | (go_at_call 44; refine (hc _ hz).mono ?_; rintro e w1 ⟨rfl, hb1⟩) | (go_at_call 45; refine (hA _ z1).mono ?_; rintro e w2 ⟨rfl, rfl⟩))
      refine bodyPost_ret (v := .tuple #[.string ⟨#[]⟩, .string ⟨#[]⟩, .bool false, .int .i64 2]) (by simp [results, Tryz.f24, go_sem]) rfl ?_
      exact ⟨rfl, hb1⟩
end Ln
end Go.Proofs.YtdhlheilgagcpaaGreatDoor
namespace Go.Proofs.YtdhlheilgagcpaaGreatDoor
namespace Ln
open Go.RowKit Go.PlainAid
set_option linter.unusedVariables false

theorem sindex_any (s : ByteArray) (c : UInt8) (w : World) : Calls Tryz.prog 87 #[.string s, .string ⟨#[c]⟩] w fun e w' => e = .returned (.int .i64 (Lib.indexB s ⟨#[c]⟩)) ∧ w' = w := by
  have h := Any.strings_Index_one sindexLays s c w
  rw [byte_index] at h
  exact h
theorem count_any (s : ByteArray) (c : UInt8) (w : World) : Calls Tryz.prog 89 #[.string s, .string ⟨#[c]⟩] w fun e w' => e = .returned (.int .i64 (Lib.countB s ⟨#[c]⟩)) ∧ w' = w := by
  refine (Any.strings_Count_one countLays s c w).mono fun e w' ⟨he, hw⟩ => ⟨?_, hw⟩
  rw [he]
  show _ = Ending.returned (Value.int .i64 ((Lib.count s.data.toList [c] : Nat) : Int))
  rw [Lib.count_one]
  rfl
theorem pcs_len (c : UInt8) (l : List UInt8) : (pcs c l).length ≤ l.length + 1 := by
  unfold pcs
  have := cutL_count c l
  simp; omega
theorem splitB_pcs (s : ByteArray) (c : UInt8) : Lib.splitB ⟨#[c]⟩ 0 (Lib.countB s ⟨#[c]⟩) s = (pcs c (tx s)).map bs := by
  have h := Lib.splitB_data ⟨#[c]⟩ 0 (Lib.countB s ⟨#[c]⟩) s
  have e : Lib.splitK [c] 0 (Lib.count (tx s) [c]) (tx s) = pcs c (tx s) := splitK_pcs c _ (tx s) (Nat.le_refl _)
  have h2 : (Lib.splitB ⟨#[c]⟩ 0 (Lib.countB s ⟨#[c]⟩) s).map (fun b => b.data.toList) = pcs c (tx s) := h.trans e
  rw [← h2, List.map_map]
  have : (bs ∘ fun b : ByteArray => b.data.toList) = id := funext fun b => bs_tx b
  rw [this, List.map_id]
theorem countB_pcs (s : ByteArray) (c : UInt8) : Lib.countB s ⟨#[c]⟩ + 1 = (pcs c (tx s)).length := by
  have h := Lib.splitB_all ⟨#[c]⟩ (Nat.le_refl 1) 0 _ s rfl
  rw [splitB_pcs, List.length_map] at h
  exact h.symm

set_option maxHeartbeats 1000000 in
/-- a text split at a byte: a new row of its pieces -/
theorem ssplit_any (s : ByteArray) (c : UInt8) (w : World) (hz : s.size ≤ 900000) : Calls Tryz.prog 47 #[.string s, .string ⟨#[c]⟩] w fun e w' =>
    e = .returned (.slice (some ⟨w.heap.size, 0, none⟩) (pcs c (tx s)).length (pcs c (tx s)).length) ∧ w' = w.alloc (.cells (cellsS (pcs c (tx s))).toArray 9) := by
  have hle := Lib.countB_le ⟨#[c]⟩ (Nat.le_refl 1) s.size s (Nat.le_refl _)
  have g := Any.strings_genSplit_core gensLays (by kernel_rfl) s ⟨#[c]⟩ 0 (-1) (Lib.countB s ⟨#[c]⟩ + 1) w (by omega) (Nat.le_refl 1) (Nat.zero_le _)
    (fun x cc hx => sindex_any x c _) (count_any s c w) (by decide) (by decide) (by rw [if_pos (by decide)]; omega)
  rw [Nat.add_sub_cancel, splitB_pcs, List.length_map, countB_pcs] at g
  have e2 : Lib.cellsOf ((pcs c (tx s)).map bs) (pcs c (tx s)).length = (cellsS (pcs c (tx s))).toArray := by
    have := Lib.cellsOf_full ((pcs c (tx s)).map bs)
    rw [List.length_map, List.map_map] at this
    exact this
  rw [e2] at g
  generalize pcs c (tx s) = L at *
  go_enter Tryz.func47, Tryz.ntmps47
  go_wp2_with (go_at_call 68; refine g.mono ?_; rintro e w' ⟨rfl, hw⟩; rw [hw])
  go_ret
  exact ⟨rfl, rfl⟩
theorem ssl_new (w : World) (L : List (List UInt8)) (hl : L.length ≤ 1000000) : SSl (w.alloc (.cells (cellsS L).toArray 9)) (.slice (some ⟨w.heap.size, 0, none⟩) L.length L.length) L :=
  ⟨_, _, rfl, Nat.le_refl _, by omega, .inr ⟨w.heap.size, 0, rfl, by simp, fun i hi => by
    have e : (w.alloc (.cells (cellsS L).toArray 9)).heap[w.heap.size]? = some (.cells (cellsS L).toArray 9 (0, 0)) := World.alloc_heap_new w _
    have e2 : (cellsS L).toArray[0 + i]? = some (.string (bs (nt L i))) := by rw [List.getElem?_toArray, Nat.zero_add]; exact cellsS_at L i hi
    unfold World.cell?
    rw [e]
    exact e2⟩⟩
/-- is one of these texts empty? -/
def emB (L : List (List UInt8)) : Bool := decide ([] ∈ L)
theorem has_any (w : World) (v : Value) (L : List (List UInt8)) (hv : SSl w v L) (hl : L.length ≤ 1000000) : Calls Tryz.prog 48 #[v, .string ⟨#[]⟩] w fun e w' => e = .returned (.bool (emB L)) ∧ w' = w := by
  obtain ⟨a, c, rfl, h1, h2, h3⟩ := hv
  rcases h3 with ⟨h3, _⟩ | ⟨b, o, rfl, hb, hc⟩
  · subst h3
    have := Any.slices_Contains_string_empty hasLays a c ⟨#[]⟩ w
    rw [show emB [] = false from rfl]
    exact this
  · have h := Any.slices_Contains_string hasLays b o L.length c (L.map bs) ⟨#[]⟩ w (by simp) (by omega) (fun j hj => by
      rw [List.length_map] at hj
      rw [hc j hj]
      congr 2
      rw [List.getD_eq_getElem?_getD, List.getElem?_map, nt_some L j hj]; rfl)
    have e : Lib.containsS ((L.map bs).take L.length) ⟨#[]⟩ = emB L := by
      rw [List.take_of_length_le (by simp)]
      unfold emB
      rw [Bool.eq_iff_iff, Lib.containsS_iff, decide_eq_true_iff, List.mem_map]
      constructor
      · rintro ⟨x, hx, h⟩
        have : x = [] := bs_inj h
        rw [← this]; exact hx
      · intro hx; exact ⟨[], hx, rfl⟩
    rw [e] at h
    exact h

/-- what the program's Words hands back of a line -/
def PWords (w : World) (l : List UInt8) (e : Ending) (w' : World) : Prop :=
  ∃ v, Below w.heap.size w w' ∧ (([] ∉ pcs 32 l ∧ e = .returned (.tuple #[v, .int .i64 0]) ∧ SSl w' v (pcs 32 l)) ∨ ([] ∈ pcs 32 l ∧ e = .returned (.tuple #[.slice none 0 0, .int .i64 2])))
set_option maxHeartbeats 1000000 in
theorem words_any (s : ByteArray) (w : World) (hz : s.size ≤ 900000) : Calls Tryz.prog 25 #[.string s] w fun e w' => PWords w (tx s) e w' := by
  have h1 := ssplit_any s 32
  have hl := pcs_len 32 (tx s)
  rw [tx_len] at hl
  by_cases hm : [] ∈ pcs 32 (tx s)
  · have HM : Hid ([] ∈ pcs 32 (tx s)) := hm
    have h2 := fun w => has_any (w.alloc (.cells (cellsS (pcs 32 (tx s))).toArray 9)) _ _ (ssl_new w (pcs 32 (tx s)) (by omega)) (by omega)
    rw [show emB (pcs 32 (tx s)) = true from decide_eq_true hm] at h2
    clear hm
    go_enter Tryz.func25, Tryz.ntmps25
    go_wp2_with (first | (go_at_call 47; refine (h1 _ hz).mono ?_; rintro e w1 ⟨rfl, hw⟩; rw [hw]) | (go_at_call 48; refine (h2 _).mono ?_; rintro e w2 ⟨rfl, hw2⟩; rw [hw2]))
    go_ret2
    exact ⟨.slice none 0 0, below_more (Below.refl _ _) _, .inr ⟨HM.out, rfl⟩⟩
  · have HM : Hid ([] ∉ pcs 32 (tx s)) := hm
    have h2 := fun w => has_any (w.alloc (.cells (cellsS (pcs 32 (tx s))).toArray 9)) _ _ (ssl_new w (pcs 32 (tx s)) (by omega)) (by omega)
    rw [show emB (pcs 32 (tx s)) = false from decide_eq_false hm] at h2
    have HS : Hid (∀ w : World, SSl (w.alloc (.cells (cellsS (pcs 32 (tx s))).toArray 9)) (.slice (some ⟨w.heap.size, 0, none⟩) (pcs 32 (tx s)).length (pcs 32 (tx s)).length) (pcs 32 (tx s))) := fun w => ssl_new w _ (by omega)
    clear hm
    go_enter Tryz.func25, Tryz.ntmps25
    go_wp2_with (first | (go_at_call 47; refine (h1 _ hz).mono ?_; rintro e w1 ⟨rfl, hw⟩; rw [hw]) | (go_at_call 48; refine (h2 _).mono ?_; rintro e w2 ⟨rfl, hw2⟩; rw [hw2]))
    go_ret2
    exact ⟨_, below_more (Below.refl _ _) _, .inl ⟨HM.out, rfl, HS.out w⟩⟩
end Ln
end Go.Proofs.YtdhlheilgagcpaaGreatDoor
namespace Go.Proofs.YtdhlheilgagcpaaGreatDoor
namespace Ln
open Go.RowKit Go.PlainAid
set_option linter.unusedVariables false

theorem cutL_grows (c : UInt8) (l m : List UInt8) : ∃ r, (cutL c (l ++ m)).1 = (cutL c l).1 ++ r := by
  have e : cutL c (l ++ m) = m.foldl (stp c) ((cutL c l).1, (cutL c l).2) := by unfold cutL; rw [List.foldl_append]
  rw [e, foldl_shift]
  exact ⟨_, rfl⟩
theorem mem_pcs (c : UInt8) (l : List UInt8) (k : Nat) (x : List UInt8) (h : x ∈ (cutL c (l.take k)).1) : x ∈ pcs c l := by
  obtain ⟨r, hr⟩ := cutL_grows c (l.take k) (l.drop k)
  rw [List.take_append_drop] at hr
  unfold pcs
  rw [hr]
  exact List.mem_append.2 (.inl (List.mem_append.2 (.inl h)))
/-- what the document's Words hands back of a line -/
def RWords (w : World) (l : List UInt8) (e : Ending) (w' : World) : Prop :=
  ∃ v, Below w.heap.size w w' ∧ (([] ∉ pcs 32 l ∧ e = .returned (.tuple #[v, .bool true]) ∧ SSl w' v (pcs 32 l)) ∨ ([] ∈ pcs 32 l ∧ e = .returned (.tuple #[.slice none 0 0, .bool false])))
/-- where the loop stands: k bytes are behind it, the word under way begins at d -/
def AtW (w0 w : World) (l : List UInt8) (n k d : Nat) (v : Value) : Prop :=
  (k ≤ n ∧ d ≤ k ∧ OwnS w w0.heap.size v (cutL 32 (l.take k)).1 ∧ (l.take k).drop d = (cutL 32 (l.take k)).2 ∧ [] ∉ (cutL 32 (l.take k)).1) ∨
  (k = n + 1 ∧ OwnS w w0.heap.size v (pcs 32 l) ∧ [] ∉ pcs 32 l)

end Ln
end Go.Proofs.YtdhlheilgagcpaaGreatDoor
