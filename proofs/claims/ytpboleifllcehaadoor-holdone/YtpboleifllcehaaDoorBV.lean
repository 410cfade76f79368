/- What a word is; the contracts of what tells whether a byte is a letter or a digit, and of IsWord, the program's and the document's. Conditions: the text is at most 2^62 bytes. The contracts of the document's own: whether a byte may stand in a word, and whether a text is one. Conditions: the text is at most 2^62 bytes. Values: when two are one; the contracts of what makes one of a number, of a word, of a truth. No conditions. Rows of values in memory; the contract of what refuses great ones. No conditions. -/
import Derived.Test.YtpboleifllcehaaDoorNA
import Derived.Laws.StructEq
namespace Go.Proofs.YtpboleifllcehaaDoor
open Go.RowKit Go.PlainAid
set_option linter.unusedVariables false

/-- c is a letter -/
abbrev letP (c : Int) : Prop := 97 ≤ c ∧ c ≤ 122
/-- c is a digit -/
abbrev digP (c : Int) : Prop := 48 ≤ c ∧ c ≤ 57
def letB (c : Int) : Bool := decide (letP c)
def digB (c : Int) : Bool := decide (digP c)
/-- c may stand in a word -/
abbrev chrP (c : Int) : Prop := letP c ∨ digP c ∨ c = 95
/-- s is a word -/
abbrev wordP (s : ByteArray) : Prop := 0 < s.size ∧ s.size ≤ 40 ∧ letP (bt s 0) ∧ ∀ i, i < s.size → chrP (bt s i)
def wordB (s : ByteArray) : Bool := decide (wordP s)
theorem letB_t {c : Int} (h : letP c) : letB c = true := decide_eq_true h
theorem letB_f {c : Int} (h : ¬ letP c) : letB c = false := decide_eq_false h
theorem digB_t {c : Int} (h : digP c) : digB c = true := decide_eq_true h
theorem digB_f {c : Int} (h : ¬ digP c) : digB c = false := decide_eq_false h
theorem wordB_t {s : ByteArray} (h : wordP s) : wordB s = true := decide_eq_true h
theorem wordB_f {s : ByteArray} (h : ¬ wordP s) : wordB s = false := decide_eq_false h
theorem ret_b {a b : Bool} (h : a = b) : Ending.returned (.bool a) = .returned (.bool b) := by rw [h]

theorem isLetter_any (c : Int) (w : World) : Calls Tryd.prog 45 #[.int .u8 c] w fun e w' => e = .returned (.bool (letB c)) ∧ w' = w := by
  by_cases h1 : 97 ≤ c
  · by_cases h2 : c ≤ 122
    · rw [letB_t ⟨h1, h2⟩]
      go_enter Tryd.func45, Tryd.ntmps45
      go_wp2
      go_ret
      exact ⟨ret_b (by simp), rfl⟩
    · rw [letB_f (fun h => h2 h.2)]
      go_enter Tryd.func45, Tryd.ntmps45
      go_wp2
      go_ret
      exact ⟨ret_b (by simp), rfl⟩
  · rw [letB_f (fun h => h1 h.1)]
    go_enter Tryd.func45, Tryd.ntmps45
    go_wp2
    go_ret
    exact ⟨rfl, rfl⟩
theorem isDigit_any (c : Int) (w : World) : Calls Tryd.prog 46 #[.int .u8 c] w fun e w' => e = .returned (.bool (digB c)) ∧ w' = w := by
  by_cases h1 : 48 ≤ c
  · by_cases h2 : c ≤ 57
    · rw [digB_t ⟨h1, h2⟩]
      go_enter Tryd.func46, Tryd.ntmps46
      go_wp2
      go_ret
      exact ⟨ret_b (by simp), rfl⟩
    · rw [digB_f (fun h => h2 h.2)]
      go_enter Tryd.func46, Tryd.ntmps46
      go_wp2
      go_ret
      exact ⟨ret_b (by simp), rfl⟩
  · rw [digB_f (fun h => h1 h.1)]
    go_enter Tryd.func46, Tryd.ntmps46
    go_wp2
    go_ret
    exact ⟨rfl, rfl⟩

set_option maxHeartbeats 1600000 in
theorem isWord_any (s : ByteArray) (w : World) (hz : s.size ≤ 4611686018427387904) :
    Calls Tryd.prog 42 #[.string s] w fun e w' => e = .returned (.bool (wordB s)) ∧ w' = w := by
  have hbt := get_bt s
  by_cases h0 : s.size = 0
  · rw [wordB_f (fun h => by have := h.1; omega)]
    have hn : s.toList = [] := toList_nil.2 h0
    go_enter Tryd.func42, Tryd.ntmps42
    go_wp2
    go_ret
    exact ⟨rfl, rfl⟩
  have hn : ¬ s.toList = [] := fun h => h0 (toList_nil.1 h)
  have hi : s.toList.isEmpty = false := by cases h : s.toList.isEmpty; rfl; exact absurd (List.isEmpty_iff.1 h) hn
  by_cases h1 : 40 < s.size
  · rw [wordB_f (fun h => by have := h.2.1; omega)]
    have h1' : (40 : Int) < (s.size : Int) := by omega
    go_enter Tryd.func42, Tryd.ntmps42
    go_wp2
    go_ret
    exact ⟨rfl, rfl⟩
  have h1' : ¬ (40 : Int) < (s.size : Int) := by omega
  have h0' : (0 : Int) < (s.size : Int) := by omega
  have hL := isLetter_any (bt s 0)
  by_cases h2 : letP (bt s 0)
  · rw [letB_t h2] at hL
    have HL : Hid (letP (bt s 0)) := h2
    clear h2
    go_enter Tryd.func42, Tryd.ntmps42
    go_wp2_with (go_at_call 45; refine (hL _).mono ?_; rintro e w1 ⟨rfl, rfl⟩)
    go_loop [19] (fun i => ∃ k : Nat, k ≤ s.size ∧ i = .int .i64 (k : Int) ∧ ∀ i, i < k → chrP (bt s i)) (fun i => s.size - (intOf i).toNat)
    case atStart => exact ⟨0, by omega, rfl, fun i h => by omega⟩
    case round =>
      obtain ⟨k, hk, rfl, hall⟩ := hrel
      have HA : Hid (∀ i, i < k → chrP (bt s i)) := hall
      clear hall
      by_cases hlt : k < s.size
      · have hlt' : (k : Int) < (s.size : Int) := by omega
        have hA := isLetter_any (bt s k)
        have hB := isDigit_any (bt s k)
        by_cases hc : chrP (bt s k)
        · have HC : Hid (chrP (bt s k)) := hc
          by_cases a : letP (bt s k)
          · rw [letB_t a] at hA
            clear hc a hL
            go_wp2_with (go_at_call 45; refine (hA _).mono ?_; rintro e w1 ⟨rfl, rfl⟩)
            go_round
            case rel =>
              refine ⟨k + 1, by omega, by go_num, fun i hi => ?_⟩
              by_cases e : i = k
              · subst e; exact HC.out
              · exact HA.out i (by omega)
            case measure => simp [intOf]; omega
          · rw [letB_f a] at hA
            by_cases b : digP (bt s k)
            · rw [digB_t b] at hB
              clear hc a b hL
              go_wp2_with (first | (go_at_call 45; refine (hA _).mono ?_; rintro e w1 ⟨rfl, rfl⟩) | (go_at_call 46; refine (hB _).mono ?_; rintro e w1 ⟨rfl, rfl⟩))
              go_round
              case rel =>
                refine ⟨k + 1, by omega, by go_num, fun i hi => ?_⟩
                by_cases e : i = k
                · subst e; exact HC.out
                · exact HA.out i (by omega)
              case measure => simp [intOf]; omega
            · rw [digB_f b] at hB
              have hu : (bt s k == 95) = true := by rcases hc with h | h | h; exact absurd h a; exact absurd h b; simp [h]
              clear hc a b hL
              go_wp2_with (first | (go_at_call 45; refine (hA _).mono ?_; rintro e w1 ⟨rfl, rfl⟩) | (go_at_call 46; refine (hB _).mono ?_; rintro e w1 ⟨rfl, rfl⟩))
              go_round
              case rel =>
                refine ⟨k + 1, by omega, by go_num, fun i hi => ?_⟩
                by_cases e : i = k
                · subst e; exact HC.out
                · exact HA.out i (by omega)
              case measure => simp [intOf]; omega
        · have HC : Hid (¬ chrP (bt s k)) := hc
          rw [letB_f (fun h => hc (.inl h))] at hA
          rw [digB_f (fun h => hc (.inr (.inl h)))] at hB
          have hu : ¬ bt s k = 95 := fun h => hc (.inr (.inr h))
          have hu' : (bt s k == 95) = false := by simp [hu]
          clear hc hL hu
          go_wp2_with (first | (go_at_call 45; refine (hA _).mono ?_; rintro e w1 ⟨rfl, rfl⟩) | (go_at_call 46; refine (hB _).mono ?_; rintro e w1 ⟨rfl, rfl⟩))
          go_ret
          exact ⟨ret_b (wordB_f (fun h => HC.out (h.2.2.2 k hlt))).symm, rfl⟩
      · go_wp2
        go_ret
        have e : k = s.size := by omega
        subst e
        exact ⟨ret_b (wordB_t ⟨by omega, by omega, HL.out, HA.out⟩).symm, rfl⟩
  · rw [wordB_f (fun h => h2 h.2.2.1)]
    rw [letB_f h2] at hL
    clear h2
    go_enter Tryd.func42, Tryd.ntmps42
    go_wp2_with (go_at_call 45; refine (hL _).mono ?_; rintro e w1 ⟨rfl, rfl⟩)
    go_ret
    exact ⟨rfl, rfl⟩
end Go.Proofs.YtpboleifllcehaaDoor
namespace Go.Proofs.YtpboleifllcehaaDoor
open Go.RowKit Go.PlainAid
set_option linter.unusedVariables false

/-- c may stand in a word, at its beginning or behind it -/
abbrev letFP (c : Int) (f : Bool) : Prop := letP c ∨ (f = false ∧ (c = 95 ∨ digP c))
def letF (c : Int) (f : Bool) : Bool := decide (letFP c f)
theorem letF_t {c : Int} {f : Bool} (h : letFP c f) : letF c f = true := decide_eq_true h
theorem letF_f {c : Int} {f : Bool} (h : ¬ letFP c f) : letF c f = false := decide_eq_false h

set_option maxHeartbeats 1600000 in
theorem rletter_any (c : Int) (f : Bool) (w : World) :
    Calls Tryd.prog 44 #[.int .u8 c, .bool f] w fun e w' => e = .returned (.bool (letF c f)) ∧ w' = w := by
  go_enter Tryd.func44, Tryd.ntmps44
  go_wp2
  go_loop [5] (fun x => ∃ k : Nat, k ≤ 26 ∧ x = .int .u8 (97 + (k : Int)) ∧ ∀ j : Nat, j < k → c ≠ 97 + (j : Int)) (fun x => 123 - (intOf x).toNat)
  case atStart => exact ⟨0, by omega, rfl, fun i h => by omega⟩
  case round =>
    obtain ⟨k, hk, rfl, hall⟩ := hrel
    have HA : Hid (∀ j : Nat, j < k → c ≠ 97 + (j : Int)) := hall
    clear hall
    obtain ⟨x, hx⟩ : ∃ x : Int, x = 97 + (k : Int) := ⟨_, rfl⟩
    have HX : Hid (x = 97 + (k : Int)) := hx
    have hx0 : 97 ≤ x := by omega
    have hx1 : x ≤ 123 := by omega
    rw [← hx]
    clear hx
    by_cases hlt : x ≤ 122
    · by_cases he : c = x
      · have he' : (c == x) = true := by simp [he]
        have HE : Hid (c = x) := he
        clear he
        go_wp2
        go_ret
        exact ⟨ret_b (letF_t (.inl (by have := HE.out; have := HX.out; constructor <;> omega))).symm, rfl⟩
      · have he' : (c == x) = false := by simp [he]
        have HE : Hid (¬ c = x) := he
        clear he
        go_wp2
        go_round
        case rel =>
          refine ⟨k + 1, by have := HX.out; omega, by have := HX.out; go_num, fun j hj => ?_⟩
          have := HX.out
          by_cases e : j = k
          · subst e; intro h; exact HE.out (by omega)
          · exact HA.out j (by omega)
        case measure => simp [intOf]; omega
    · have HL : Hid (¬ letP c) := fun h => HA.out (c - 97).toNat (by have := HX.out; have := h.1; have := h.2; omega) (by have := h.1; omega)
      cases f with
      | true =>
        have HE : Hid (letF c true = false) := letF_f (fun h => by rcases h with h | h; exact HL.out h; cases h.1)
        go_wp2
        go_ret
        exact ⟨ret_b (by rw [HE.out]), rfl⟩
      | false =>
        by_cases hu : c = 95
        · have HE : Hid (letF c false = true) := letF_t (.inr ⟨rfl, .inl hu⟩)
          have hu' : (c == 95) = true := by simp [hu]
          clear hu HA HX HL
          go_wp2
          go_ret
          exact ⟨ret_b (by rw [HE.out]), rfl⟩
        · have hu' : (c == 95) = false := by simp [hu]
          by_cases h1 : 48 ≤ c
          · by_cases h2 : c ≤ 57
            · have HE : Hid (letF c false = true) := letF_t (.inr ⟨rfl, .inr ⟨h1, h2⟩⟩)
              clear hu HA HX HL
              go_wp2
              go_ret
              exact ⟨ret_b (by rw [HE.out]), rfl⟩
            · have HE : Hid (letF c false = false) := letF_f (fun h => by rcases h with h | ⟨_, h | h⟩; exact HL.out h; exact hu h; exact h2 h.2)
              clear hu HA HX HL
              go_wp2
              go_ret
              exact ⟨ret_b (by rw [HE.out]), rfl⟩
          · have HE : Hid (letF c false = false) := letF_f (fun h => by rcases h with h | ⟨_, h | h⟩; exact HL.out h; exact hu h; exact h1 h.1)
            clear hu HA HX HL
            go_wp2
            go_ret
            exact ⟨ret_b (by rw [HE.out]), rfl⟩

set_option maxHeartbeats 1600000 in
theorem risWord_any (s : ByteArray) (w : World) (hz : s.size ≤ 4611686018427387904) :
    Calls Tryd.prog 37 #[.string s] w fun e w' => e = .returned (.bool (wordB s)) ∧ w' = w := by
  have hbt := get_bt s
  go_enter Tryd.func37, Tryd.ntmps37
  go_wp2
  go_loop [3] (fun i => ∃ k : Nat, k ≤ s.size ∧ i = .int .i64 (k : Int) ∧ ∀ i, i < k → letFP (bt s i) (i == 0)) (fun i => s.size - (intOf i).toNat)
  case atStart => exact ⟨0, by omega, rfl, fun i h => by omega⟩
  case round =>
    obtain ⟨k, hk, rfl, hall⟩ := hrel
    have HA : Hid (∀ i, i < k → letFP (bt s i) (i == 0)) := hall
    clear hall
    by_cases hlt : k < s.size
    · have hlt' : (k : Int) < (s.size : Int) := by omega
      have hR := rletter_any (bt s k) ((k : Int) == 0)
      have HB : Hid (((k : Int) == 0) = (k == 0)) := by show _ = _; rw [Bool.eq_iff_iff]; simp
      by_cases hc : letFP (bt s k) (k == 0)
      · have HC : Hid (letFP (bt s k) (k == 0)) := hc
        rw [letF_t (by rw [HB.out]; exact hc)] at hR
        clear hc
        go_wp2_with (go_at_call 44; refine (hR _).mono ?_; rintro e w1 ⟨rfl, rfl⟩)
        go_round
        case rel =>
          refine ⟨k + 1, by omega, by go_num, fun i hi => ?_⟩
          by_cases e : i = k
          · subst e; exact HC.out
          · exact HA.out i (by omega)
        case measure => simp [intOf]; omega
      · have HC : Hid (¬ letFP (bt s k) (k == 0)) := hc
        rw [letF_f (by rw [HB.out]; exact hc)] at hR
        clear hc
        go_wp2_with (go_at_call 44; refine (hR _).mono ?_; rintro e w1 ⟨rfl, rfl⟩)
        go_ret
        refine ⟨ret_b (wordB_f (fun h => HC.out ?_)).symm, rfl⟩
        by_cases e : k = 0
        · subst e; exact .inl h.2.2.1
        · rcases h.2.2.2 k hlt with a | a | a
          · exact .inl a
          · exact .inr ⟨by simp [e], .inr a⟩
          · exact .inr ⟨by simp [e], .inl a⟩
    · have e : k = s.size := by omega
      subst e
      by_cases h0 : s.size = 0
      · have HE : Hid (wordB s = false) := wordB_f (fun h => by have := h.1; omega)
        have h0' : ¬ (1 : Int) ≤ (s.size : Int) := by omega
        go_wp2
        go_ret
        exact ⟨ret_b (by rw [HE.out]), rfl⟩
      · have h0' : (1 : Int) ≤ (s.size : Int) := by omega
        by_cases h1 : s.size ≤ 40
        · have h1' : (s.size : Int) ≤ 40 := by omega
          have hw : wordP s := by
            refine ⟨by omega, h1, ?_, fun i hi => ?_⟩
            · rcases HA.out 0 (by omega) with a | a
              · exact a
              · cases a.1
            · rcases HA.out i hi with a | ⟨_, a | a⟩
              · exact .inl a
              · exact .inr (.inr a)
              · exact .inr (.inl a)
          have HE : Hid (wordB s = true) := wordB_t hw
          clear hw
          go_wp2
          go_ret
          exact ⟨ret_b (by rw [HE.out]), rfl⟩
        · have h1' : ¬ (s.size : Int) ≤ 40 := by omega
          have HE : Hid (wordB s = false) := wordB_f (fun h => h1 h.2.1)
          go_wp2
          go_ret
          exact ⟨ret_b (by rw [HE.out]), rfl⟩
end Go.Proofs.YtpboleifllcehaaDoor
namespace Go.Proofs.YtpboleifllcehaaDoor
open Go.RowKit Go.PlainAid
set_option linter.unusedVariables false

/-- are two values one? -/
def eqvB (k n : Int) (s : ByteArray) (k' n' : Int) (s' : ByteArray) : Bool := (k == k') && ((n == n') && (s.toList == s'.toList))
/-- a value's cells, and a value -/
def vcs (k n : Int) (s : ByteArray) : Array Value := #[.int .i64 k, .int .i64 n, .string s]

theorem eqV_in (d : Nat) (k n k' n' : Int) (s s' : ByteArray) (w : World) : (Op.equalIn (d + 2) 25 (.agg #[.int .i64 k, .int .i64 n, .string s]) (.agg #[.int .i64 k', .int .i64 n', .string s'])).run Tryd.prog w = .ok (eqvB k n s k' n' s') w := by
  have hS : Tryd.prog.underlying 25 = some (.struct (Tryd.prog.fieldsOf 25)) := by kernel_rfl
  have hp : Tryd.prog.stoodInHeld 25 = false := by kernel_rfl
  have u2 := Tryd.underlying2
  have u3 := Tryd.underlying3
  have u9 := Tryd.underlying9
  have a2 := Tryd.isAgg2
  have a3 := Tryd.isAgg3
  have a9 := Tryd.isAgg9
  have z2 := Tryd.sizeOf2
  have z3 := Tryd.sizeOf3
  have z9 := Tryd.sizeOf9
  rw [run_equalIn_agg w (d + 1) 25 _ _ hS hp]
  simp only [Program.fieldsOf, Tryd.underlying25]
  unfold eqvB
  go_simp
  by_cases h1 : k = k' <;> by_cases h2 : n = n' <;> by_cases h3 : s.toList = s'.toList <;> simp [h1, h2, h3]
theorem eqV (k n k' n' : Int) (s s' : ByteArray) (w : World) : (binOp .eql 25 (.agg #[.int .i64 k, .int .i64 n, .string s]) (.agg #[.int .i64 k', .int .i64 n', .string s'])).run Tryd.prog w = .ok (.bool (eqvB k n s k' n' s')) w := by
  rw [run_eql_struct, eqV_in 9998]
  rfl
theorem neV (k n k' n' : Int) (s s' : ByteArray) (w : World) : (binOp .neq 25 (.agg #[.int .i64 k, .int .i64 n, .string s]) (.agg #[.int .i64 k', .int .i64 n', .string s'])).run Tryd.prog w = .ok (.bool (!eqvB k n s k' n' s')) w := by
  rw [run_neq_struct, eqV_in 9998]
  rfl
theorem eqgV (op : BinOp) (x y : Operand) (a b : Array Value) (w : World) : (eqGuard op 25 x y (.agg a) (.agg b)).run Tryd.prog w = .ok () w := run_eqGuard_agg w op 25 x y _ _ (by kernel_rfl)

/-- a value laid in memory -/
def VBox (w : World) (p : Nat) (k n : Int) (s : ByteArray) : Prop :=
  p < w.heap.size ∧ w.cell? ⟨p, 0, none⟩ = some (.int .i64 k) ∧ w.cell? ⟨p, 1, none⟩ = some (.int .i64 n) ∧ w.cell? ⟨p, 2, none⟩ = some (.string s) ∧
    w.frozen? ⟨p, 0, none⟩ = false ∧ w.frozen? ⟨p, 1, none⟩ = false ∧ w.frozen? ⟨p, 2, none⟩ = false
theorem VBox.later {w w' : World} {p : Nat} {k n : Int} {s : ByteArray} (h : VBox w p k n s) (hb : Below w.heap.size w w') : VBox w' p k n s :=
  ⟨Nat.lt_of_lt_of_le h.1 hb.size, (hb.cell (p := ⟨p, 0, none⟩) h.1).trans h.2.1, (hb.cell (p := ⟨p, 1, none⟩) h.1).trans h.2.2.1, (hb.cell (p := ⟨p, 2, none⟩) h.1).trans h.2.2.2.1,
    (hb.frozen (p := ⟨p, 0, none⟩) h.1).trans h.2.2.2.2.1, (hb.frozen (p := ⟨p, 1, none⟩) h.1).trans h.2.2.2.2.2.1, (hb.frozen (p := ⟨p, 2, none⟩) h.1).trans h.2.2.2.2.2.2⟩
theorem VBox.new (w : World) (k n : Int) (s : ByteArray) (T : TypeId) : VBox (w.alloc (.cells #[.int .i64 k, .int .i64 n, .string s] T)) w.heap.size k n s :=
  ⟨by simp, by simp, by simp, by simp, by simp, by simp, by simp⟩
/-- a value stored in memory of the call's own -/
theorem below_store {w a : World} (h : Below w.heap.size w a) {p : Nat} (hp : w.heap.size ≤ p) (x y z : Value) : Below w.heap.size w (((a.setCell ⟨p, 0, none⟩ x).setCell ⟨p, 1, none⟩ y).setCell ⟨p, 2, none⟩ z) :=
  ((h.setCell hp x).setCell hp y).setCell hp z

/-- no text -/
def noB : ByteArray := ⟨#[]⟩
theorem ofBool_any (n : Int) (w : World) : Calls Tryd.prog 43 #[.int .i64 n] w fun e w' => e = .returned (.agg #[.int .i64 3, .int .i64 n, .string noB]) ∧ Below w.heap.size w w' := by
  go_enter Tryd.func43, Tryd.ntmps43
  go_wp2
  refine bodyPost_ret (v := .agg #[.int .i64 3, .int .i64 n, .string noB]) (by simp [results, Tryd.f43, go_sem]; rfl) rfl ?_
  exact ⟨rfl, by first | exact below_more (Below.refl _ _) _ | skip⟩
theorem ofNumber_any (n : Int) (w : World) : Calls Tryd.prog 40 #[.int .i64 n] w fun e w' => e = .returned (.agg #[.int .i64 1, .int .i64 n, .string noB]) ∧ Below w.heap.size w w' := by
  go_enter Tryd.func40, Tryd.ntmps40
  go_wp2
  refine bodyPost_ret (v := .agg #[.int .i64 1, .int .i64 n, .string noB]) (by simp [results, Tryd.f40, go_sem]; rfl) rfl ?_
  exact ⟨rfl, by first | exact below_more (Below.refl _ _) _ | skip⟩
theorem ofWord_any (s : ByteArray) (w : World) : Calls Tryd.prog 41 #[.string s] w fun e w' => e = .returned (.agg #[.int .i64 2, .int .i64 0, .string s]) ∧ Below w.heap.size w w' := by
  go_enter Tryd.func41, Tryd.ntmps41
  go_wp2
  refine bodyPost_ret (v := .agg #[.int .i64 2, .int .i64 0, .string s]) (by simp [results, Tryd.f41, go_sem]) rfl ?_
  exact ⟨rfl, by first | exact below_more (Below.refl _ _) _ | skip⟩
end Go.Proofs.YtpboleifllcehaaDoor
namespace Go.Proofs.YtpboleifllcehaaDoor
open Go.RowKit Go.PlainAid
set_option linter.unusedVariables false

/-- a value: the kind, the number, the text -/
abbrev Val := Int × Int × ByteArray
/-- the i-th value of a row -/
def nv (xs : List Val) (i : Nat) : Val := xs.getD i (0, 0, noB)
theorem nv_eq (xs : List Val) (i : Nat) (h : i < xs.length) : nv xs i = xs[i] := by unfold nv; rw [List.getD_eq_getElem?_getD, List.getElem?_eq_getElem h]; rfl
/-- a value's three cells at a place -/
def At (w : World) (b o : Nat) (x : Val) : Prop := w.cell? ⟨b, o, none⟩ = some (.int .i64 x.1) ∧ w.cell? ⟨b, o + 1, none⟩ = some (.int .i64 x.2.1) ∧ w.cell? ⟨b, o + 2, none⟩ = some (.string x.2.2)
/-- a slice that holds these values -/
def VSl (w : World) (v : Value) (xs : List Val) : Prop :=
  ∃ (a : Option Addr) (c : Nat), v = .slice a xs.length c ∧ xs.length ≤ c ∧ c ≤ 9223372036854775807 ∧ ((xs = [] ∧ (a = none → c = 0)) ∨ ∃ b o, a = some ⟨b, o, none⟩ ∧ b < w.heap.size ∧ ∀ i, i < xs.length → At w b (o + i * 3) (nv xs i))
theorem At.later {w w' : World} {b o : Nat} {x : Val} (h : At w b o x) (hl : b < w.heap.size) (hb : Below w.heap.size w w') : At w' b o x :=
  ⟨(hb.cell (p := ⟨b, o, none⟩) hl).trans h.1, (hb.cell (p := ⟨b, o + 1, none⟩) hl).trans h.2.1, (hb.cell (p := ⟨b, o + 2, none⟩) hl).trans h.2.2⟩
theorem VSl.later {w w' : World} {v : Value} {xs : List Val} (h : VSl w v xs) (hb : Below w.heap.size w w') : VSl w' v xs := by
  obtain ⟨a, c, h1, h2, h3, h4⟩ := h
  refine ⟨a, c, h1, h2, h3, h4.imp id ?_⟩
  rintro ⟨b, o, e, hl, hc⟩
  exact ⟨b, o, e, Nat.lt_of_lt_of_le hl hb.size, fun i hi => (hc i hi).later hl hb⟩
/-- the values of a row are few, their texts short -/
def FewV (xs : List Val) : Prop := xs.length ≤ 40 ∧ ∀ i, i < xs.length → (nv xs i).2.2.size ≤ 200
def RGreat (w : World) (xs : List Val) (e : Ending) (w' : World) : Prop := ∃ b, e = .returned (.bool b) ∧ (b = false → FewV xs) ∧ Below w.heap.size w w'

end Go.Proofs.YtpboleifllcehaaDoor
