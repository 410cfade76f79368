/- The contracts of Go's Cut, Contains and CutSuffix at one byte, and of the program's isNote and Note. Conditions: at most 2^62 bytes. -/
import Derived.Test.YtmmlafhifnmkpaaDoorLB
import Derived.Test.YtmmlafhifnmkpaaDoorLS
namespace Go.Proofs.YtmmlafhifnmkpaaDoor
open Go.RowKit Go.PlainAid
set_option linter.unusedVariables false

theorem byte_index (c : UInt8) : ∀ s : List UInt8, Lib.indexByte s c = Lib.index s [c]
  | [] => by simp [Lib.indexByte, Lib.index]
  | b :: l => by
    rw [Lib.indexByte, Lib.index, byte_index c l]
    have : ([c] : List UInt8).isPrefixOf (b :: l) = (b == c) := by
      simp only [List.isPrefixOf, Bool.and_true]
      by_cases h : b = c
      · subst h; rfl
      · rw [beq_eq_false_iff_ne.2 h, beq_eq_false_iff_ne.2 (Ne.symm h)]
    rw [this]
/-- a text cut at its first c -/
def cutV (c : UInt8) (l : List UInt8) : Value := .tuple #[.string (bs (Lib.cut l [c]).1), .string (bs (Lib.cut l [c]).2.1), .bool (Lib.cut l [c]).2.2]
theorem cutV_none (c : UInt8) (l : List UInt8) (h : c ∉ l) : cutV c l = .tuple #[.string (bs l), .string ⟨#[]⟩, .bool false] := by unfold cutV; rw [cut_none c l h]; rfl
theorem cutV_at (c : UInt8) (a b : List UInt8) (h : c ∉ a) : cutV c (a ++ c :: b) = .tuple #[.string (bs a), .string (bs b), .bool true] := by unfold cutV; rw [cut_at c a b h]

theorem index_any (s : ByteArray) (c : UInt8) (w : World) : Calls Tryd.prog 34 #[.string s, .string ⟨#[c]⟩] w fun e w' => e = .returned (.int .i64 (Lib.index (tx s) [c])) ∧ w' = w := by
  have h := Any.stringslite_Index_one indexLays s c w
  rw [byte_index] at h
  exact h
set_option maxHeartbeats 1000000 in
theorem lcut_any (s : ByteArray) (c : UInt8) (w : World) (hz : s.size ≤ 4611686018427387904) : Calls Tryd.prog 26 #[.string s, .string ⟨#[c]⟩] w fun e w' => e = .returned (cutV c (tx s)) ∧ Below w.heap.size w w' := by
  have hi := index_any s c
  have hone : (⟨#[c]⟩ : ByteArray).size = 1 := rfl
  rcases cut_cases c (tx s) with ⟨h1, h2⟩ | ⟨a, b, h1, h2, h3⟩
  · rw [cutV_none c _ h1, bs_tx]
    rw [h2] at hi
    go_enter Tryd.func26, Tryd.ntmps26
    go_wp2_with (go_at_call 34; refine (hi _).mono ?_; rintro e w1 ⟨rfl, rfl⟩)
    go_ret3
    exact ⟨rfl, Below.refl _ _⟩
  · have hv := cutV_at c a b h2
    rw [← h1] at hv
    rw [hv]
    rw [h3] at hi
    have hl : a.length + (b.length + 1) = s.size := by rw [← tx_len, h1]; simp
    obtain ⟨n, hn⟩ : ∃ n, a.length = n := ⟨_, rfl⟩
    have e1 : s.extract 0 n = bs a := by rw [extract_tx, h1, ← hn]; simp
    have e2 : s.extract (n + 1) s.size = bs b := by
      rw [extract_tx, h1, ← hn]
      congr 1
      rw [show a.length + 1 = (a ++ [c]).length from by simp, show a ++ c :: b = (a ++ [c]) ++ b from by simp, List.drop_left]
      exact List.take_of_length_le (by simp; omega)
    rw [hn] at hi hl
    have c1 : (0 : Int) ≤ (n : Int) := by omega
    have c2 : (n : Int) ≤ (s.size : Int) := by omega
    have c3 : (0 : Int) ≤ (n : Int) + 1 := by omega
    have c4 : (n : Int) + 1 ≤ (s.size : Int) := by omega
    clear h1 hv h2 h3 hn
    go_enter Tryd.func26, Tryd.ntmps26
    go_wp2_with (go_at_call 34; refine (hi _).mono ?_; rintro e w1 ⟨rfl, rfl⟩)
    go_region
    go_wp2
    go_ret3
    exact ⟨rfl, (Below.refl _ _).drew⟩
theorem cut_any (s : ByteArray) (c : UInt8) (w : World) (hz : s.size ≤ 4611686018427387904) : Calls Tryd.prog 17 #[.string s, .string ⟨#[c]⟩] w fun e w' => e = .returned (cutV c (tx s)) ∧ Below w.heap.size w w' := by
  go_enter Tryd.func17, Tryd.ntmps17
  go_wp2_with (go_at_call 26; refine (lcut_any s c _ hz).mono ?_; unfold cutV; rintro e w1 ⟨rfl, hb⟩)
  go_ret3
  exact ⟨rfl, hb⟩
theorem contains_any (s : ByteArray) (c : UInt8) (w : World) : Calls Tryd.prog 28 #[.string s, .string ⟨#[c]⟩] w fun e w' => e = .returned (.bool (decide (c ∈ tx s))) ∧ w' = w := by
  have h := Any.strings_Contains_one contLays s c w
  rw [byte_index] at h
  have e := contains_mem c (tx s)
  unfold Lib.contains at e
  rw [e] at h
  exact h
/-- does a text end with a blank? -/
def endB (l : List UInt8) : Bool := decide (l.getLast? = some 32)
theorem suffix_last (l : List UInt8) : Lib.hasSuffix l [32] = endB l := by
  unfold Lib.hasSuffix endB
  rcases List.eq_nil_or_concat l with rfl | ⟨m, x, rfl⟩
  · rfl
  · rw [List.concat_eq_append]
    by_cases h : x = 32
    · subst h; simp [List.isSuffixOf, List.isPrefixOf]
    · simp [List.isSuffixOf, List.isPrefixOf, h, Ne.symm h]
/-- a text without the blank at its end, if it has one -/
def cutE (l : List UInt8) : List UInt8 := if endB l then l.dropLast else l
theorem trim_last (l : List UInt8) : Lib.trimSuffix l [32] = cutE l := by
  unfold Lib.trimSuffix cutE
  rw [suffix_last, List.dropLast_eq_take]
  rfl
theorem suffix_any (s : ByteArray) (w : World) (hz : s.size ≤ 4611686018427387904) : Calls Tryd.prog 18 #[.string s, .string ⟨#[32]⟩] w fun e w' => e = .returned (.tuple #[.string (bs (cutE (tx s))), .bool (endB (tx s))]) ∧ w' = w := by
  have h := Any.strings_CutSuffix csufLays s ⟨#[32]⟩ w (by omega)
  rw [show (⟨#[32]⟩ : ByteArray).data.toList = [32] from rfl, suffix_last, trim_last] at h
  exact h

/-- what can be a note -/
def okN (l : List UInt8) : Bool := decide (l.length ≤ 100 ∧ (10 : UInt8) ∉ l)
theorem isNote_any (s : ByteArray) (w : World) (hz : s.size ≤ 4611686018427387904) : Calls Tryd.prog 19 #[.string s] w fun e w' => e = .returned (.bool (okN (tx s))) ∧ w' = w := by
  have hc := contains_any s 10
  by_cases h1 : s.size ≤ 100
  · have h1' : (s.size : Int) ≤ 100 := by omega
    by_cases h2 : (10 : UInt8) ∈ tx s
    · have ho : okN (tx s) = false := decide_eq_false (fun h => h.2 h2)
      rw [decide_eq_true h2] at hc
      rw [ho]
      clear h2 ho
      go_enter Tryd.func19, Tryd.ntmps19
      go_wp2_with (go_at_call 28; refine (hc _).mono ?_; rintro e w1 ⟨rfl, rfl⟩)
      go_ret
      exact ⟨rfl, rfl⟩
    · have ho : okN (tx s) = true := decide_eq_true ⟨by rw [tx_len]; exact h1, h2⟩
      rw [decide_eq_false h2] at hc
      rw [ho]
      clear h2 ho
      go_enter Tryd.func19, Tryd.ntmps19
      go_wp2_with (go_at_call 28; refine (hc _).mono ?_; rintro e w1 ⟨rfl, rfl⟩)
      go_ret
      exact ⟨rfl, rfl⟩
  · have h1' : ¬ (s.size : Int) ≤ 100 := by omega
    have ho : okN (tx s) = false := decide_eq_false (fun h => by have := h.1; rw [tx_len] at this; exact h1 this)
    rw [ho]
    clear ho hc
    go_enter Tryd.func19, Tryd.ntmps19
    go_wp2
    go_ret
    exact ⟨rfl, rfl⟩

/-- the program's answer on a line's note -/
def notA (r : List UInt8 × List UInt8 × Bool × Bool) : Value := .tuple #[.string (bs r.1), .string (bs r.2.1), .bool r.2.2.1, .int .i64 (if r.2.2.2 then 0 else 2)]

set_option maxHeartbeats 2000000 in
theorem note_any (s : ByteArray) (w : World) (hz : s.size ≤ 4611686018427387904) : Calls Tryd.prog 12 #[.string s] w fun e w' => e = .returned (notA (noteR (tx s))) ∧ Below w.heap.size w w' := by
  have hc := cut_any s 59
  rcases cut_cases 59 (tx s) with ⟨h1, h2⟩ | ⟨a, b, h1, h2, h3⟩
  · rw [cutV_none 59 _ h1, bs_tx] at hc
    rw [noteR_none _ h1, notA, bs_tx]
    clear h1 h2
    go_enter Tryd.func12, Tryd.ntmps12
    go_wp2_with (go_at_call 17; refine (hc _ hz).mono ?_; rintro e w1 ⟨rfl, hb1⟩)
    refine bodyPost_ret (v := .tuple #[.string s, .string ⟨#[]⟩, .bool false, .int .i64 0]) (by simp [results, Tryd.f12, go_sem]) rfl ?_
    exact ⟨rfl, hb1⟩
  · have hl : a.length + (b.length + 1) = s.size := by rw [← tx_len, h1]; simp
    have hv := cutV_at 59 a b h2
    rw [h1, hv] at hc
    have hA := suffix_any (bs a)
    have hN := isNote_any (bs b)
    have z1 : (bs a).size ≤ 4611686018427387904 := by rw [bs_size]; omega
    have z2 : (bs b).size ≤ 4611686018427387904 := by rw [bs_size]; omega
    rw [h1]
    by_cases hE : a.getLast? = some 32
    · have hE' : endB (tx (bs a)) = true := decide_eq_true hE
      rw [cutE, hE'] at hA
      simp only [if_true] at hA
      by_cases hO : okN b = true
      · have hO' : okN (tx (bs b)) = true := hO
        rw [hO'] at hN
        have hr := noteR_good a b h2 ⟨hE, (of_decide_eq_true hO).1, (of_decide_eq_true hO).2⟩
        rw [hr, notA]
        clear hE hE' hO hO' hr h1 h2 h3 hv
        go_enter Tryd.func12, Tryd.ntmps12
        go_wp2_with (first | (go_at_call 17; refine (hc _ hz).mono ?_; rintro e w1 ⟨rfl, hb1⟩) | (go_at_call 18; refine (hA _ z1).mono ?_; rintro e w2 ⟨rfl, rfl⟩) | (go_at_call 19; refine (hN _ z2).mono ?_; rintro e w3 ⟨rfl, rfl⟩))
        refine bodyPost_ret (v := .tuple #[.string (bs a.dropLast), .string (bs b), .bool true, .int .i64 0]) (by simp [results, Tryd.f12, go_sem]; rfl) rfl ?_
        exact ⟨rfl, hb1⟩
      · have hO' : okN (tx (bs b)) = false := by cases h : okN (tx (bs b)); rfl; exact absurd h hO
        rw [hO'] at hN
        have hr := noteR_bad a b h2 (fun h => hO (decide_eq_true h.2))
        rw [hr, notA]
        clear hE hE' hO hO' hr h1 h2 h3 hv
        go_enter Tryd.func12, Tryd.ntmps12
        go_wp2_with (first | (go_at_call 17; refine (hc _ hz).mono ?_; rintro e w1 ⟨rfl, hb1⟩) | (go_at_call 18; refine (hA _ z1).mono ?_; rintro e w2 ⟨rfl, rfl⟩) | (go_at_call 19; refine (hN _ z2).mono ?_; rintro e w3 ⟨rfl, rfl⟩))
        refine bodyPost_ret (v := .tuple #[.string ⟨#[]⟩, .string ⟨#[]⟩, .bool false, .int .i64 2]) (by simp [results, Tryd.f12, go_sem]) rfl ?_
        exact ⟨rfl, hb1⟩
    · have hE' : endB (tx (bs a)) = false := decide_eq_false hE
      rw [cutE, hE'] at hA
      have hr := noteR_bad a b h2 (fun h => hE h.1)
      rw [hr, notA]
      clear hE hE' hr h1 h2 h3 hv hN
      go_enter Tryd.func12, Tryd.ntmps12
      go_wp2_with (first | (go_at_call 17; refine (hc _ hz).mono ?_; rintro e w1 ⟨rfl, hb1⟩) | (go_at_call 18; refine (hA _ z1).mono ?_; rintro e w2 ⟨rfl, rfl⟩))
      refine bodyPost_ret (v := .tuple #[.string ⟨#[]⟩, .string ⟨#[]⟩, .bool false, .int .i64 2]) (by simp [results, Tryd.f12, go_sem]) rfl ?_
      exact ⟨rfl, hb1⟩
end Go.Proofs.YtmmlafhifnmkpaaDoor
