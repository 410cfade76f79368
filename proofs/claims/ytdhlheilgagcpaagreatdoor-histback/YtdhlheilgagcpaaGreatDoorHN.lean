/- A history's text over lists of bytes: what is printed is read again, what is read prints. No conditions. -/
import Derived.Test.YtdhlheilgagcpaaGreatDoorHM
import Derived.Test.YtdhlheilgagcpaaGreatDoorBQ
namespace Go.Proofs.YtdhlheilgagcpaaGreatDoor
open Go.RowKit Go.PlainAid Ln
set_option linter.unusedVariables false
set_option linter.unusedSimpArgs false

/-! ### no line holds a line's end -/
theorem no_dec (u : Nat) : (10 : UInt8) ∉ Lib.decDigits u := fun hb => by
  have := (dec_all u).1 10 hb
  revert this; decide
theorem no_txt (n : Int) : (10 : UInt8) ∉ tx (txt n) := by
  show (10 : UInt8) ∉ Lib.itoa n
  by_cases h : n < 0
  · rw [itoa_neg h]
    intro hb
    rcases List.mem_cons.1 hb with hb | hb
    · exact absurd hb (by decide)
    · exact no_dec _ hb
  · rw [itoa_pos h]; exact no_dec _
theorem no_word {s : ByteArray} (h : wordP s) : (10 : UInt8) ∉ tx s := by
  obtain ⟨h0, _, _, h3⟩ := h
  intro hb
  obtain ⟨i, hi, e⟩ := List.getElem_of_mem hb
  have hi' : i < s.size := by rw [← tx_len]; exact hi
  have := h3 i hi'
  rw [bt_tx s i _ (List.getElem?_eq_getElem hi), e] at this
  revert this; decide
theorem no_val {v : Val} (h : rV v = true) : (10 : UInt8) ∉ pv v := by
  obtain ⟨k, n, s⟩ := v
  have hp : rightP k n s := of_decide_eq_true h
  show (10 : UInt8) ∉ tx (prt k n s)
  rcases hp with ⟨h1, _⟩ | ⟨h1, _⟩ | ⟨h1, h2, h3⟩ | ⟨h1, h2, h3⟩
  · subst h1; rw [prt_none (of_decide_eq_true h)]; decide
  · subst h1; rw [prt_num (of_decide_eq_true h)]; exact no_txt n
  · subst h1; rw [prt_word (of_decide_eq_true h)]; exact no_word h3
  · subst h1
    by_cases e : n = 1
    · subst e; rw [prt_yes (of_decide_eq_true h)]; decide
    · rw [prt_no (of_decide_eq_true h) e]; decide
theorem no_rows : ∀ k, k < 24 → (10 : UInt8) ∉ tx (mn (rwA k).m) ∧ (10 : UInt8) ∉ tx (on (rwA k).o) := by decide +kernel
theorem no_types : ∀ k : Nat, k < 5 → (10 : UInt8) ∉ tx (tn (k : Int)) := by decide +kernel
theorem right_note {x : Ev} (h : rightE x = true) : noteB x.nd x.n = true := by
  have := h
  simp only [rightE, Bool.and_eq_true] at this
  exact this.1.2
theorem no_line {x : Ev} (h : rightE x = true) (hb : bdE x) : (10 : UInt8) ∉ lineE x := by
  have h1 := join_free (c := 10) (by decide) (wds x) (wds_all (P := fun l => (10 : UInt8) ∉ l) h hb (no_txt _) (fun v hv _ => no_val hv) (fun u hu _ => no_types u hu) no_rows)
  have hn := right_note h
  unfold lineE
  unfold noteB at hn
  rw [List.mem_append]
  rintro (e | e)
  · exact h1 e
  · split at e
    · rename_i e2
      rw [if_pos e2, decide_eq_true_eq] at hn
      simp only [List.mem_cons] at e
      rcases e with e | e | e
      · exact absurd e (by decide)
      · exact absurd e (by decide)
      · exact hn.2 e
    · cases e

/-- a history's text, nothing if one of its events isn't right -/
def hT (xs : List Ev) : List UInt8 := if xs.all rightE = true then flatC 10 (xs.map lineE) else []
theorem hT_t {xs : List Ev} (h : xs.all rightE = true) : hT xs = flatC 10 (xs.map lineE) := if_pos h
theorem hT_f {xs : List Ev} (h : ¬ xs.all rightE = true) : hT xs = [] := if_neg h
theorem nt_map (xs : List Ev) (i : Nat) (h : i < xs.length) : nt (xs.map lineE) i = lineE xs[i] := by rw [nt_eq _ i (by simpa using h)]; simp
theorem cut_hT (xs : List Ev) (h : xs.all rightE = true) (hb : ∀ x ∈ xs, bdE x) : cutL 10 (flatC 10 (xs.map lineE)) = (xs.map lineE, []) := by
  have e := cutL_flat 10 (xs.map lineE) [] (fun l hl => by
    obtain ⟨x, hx, rfl⟩ := List.mem_map.1 hl
    exact no_line (List.all_eq_true.1 h x hx) (hb x hx)) (by simp)
  rw [List.append_nil] at e
  exact e
/-- what is printed is read again -/
theorem hT_read (xs : List Ev) (h : xs.all rightE = true) (hb : ∀ x ∈ xs, bdE x) (hn : xs.length ≤ 4096) : hR (hT xs) = (xs, 0, 0) := by
  rw [hT_t h]
  have hc := cut_hT xs h hb
  have rd : ∀ x ∈ xs, pE (lineE x) = (x, 0) := fun x hx => read_line (List.all_eq_true.1 h x hx) (hb x hx)
  rw [hR_ok (t := flatC 10 (xs.map lineE)) (by rw [hc]) (by
    rw [hc]
    intro i hi
    have hi' : i < xs.length := by simpa using hi
    rw [cdE_lt (by omega), nt_map xs i hi', rd _ (List.getElem_mem hi')]), hc]
  have : evs (xs.map lineE) = xs := by
    unfold evs
    rw [List.map_map]
    refine (List.map_congr_left (g := id) fun x hx => ?_).trans (List.map_id xs)
    show (pE (lineE x)).1 = x
    rw [rd x hx]
  rw [this]
/-- what is read is right, and prints -/
theorem hT_one {t : List UInt8} (h : (hR t).2.1 = 0) : (hR t).1.all rightE = true ∧ (∀ x ∈ (hR t).1, bdE x) ∧ hT (hR t).1 = t ∧ ∀ x ∈ (hR t).1, ∃ l ∈ (cutL 10 t).1, (pE l).1 = x := by
  obtain ⟨h1, h2, h3⟩ := hR_good h
  have hlt := okTo_lt h2
  have each : ∀ l ∈ (cutL 10 t).1, rightE (pE l).1 = true ∧ lineE (pE l).1 = l ∧ bdE (pE l).1 := by
    intro l hl
    obtain ⟨i, hi, rfl⟩ := List.getElem_of_mem hl
    have hc := h2 i hi
    rw [cdE_lt (by omega), nt_eq _ i hi] at hc
    exact line_read (Prod.ext rfl hc)
  rw [h3]
  have hall : (evs (cutL 10 t).1).all rightE = true := by
    rw [List.all_eq_true]
    intro x hx
    obtain ⟨l, hl, rfl⟩ := List.mem_map.1 hx
    exact (each l hl).1
  refine ⟨hall, fun x hx => ?_, ?_, fun x hx => ?_⟩
  · obtain ⟨l, hl, rfl⟩ := List.mem_map.1 hx
    exact (each l hl).2.2
  · show hT (evs (cutL 10 t).1) = t
    rw [hT_t hall]
    have e : (evs (cutL 10 t).1).map lineE = (cutL 10 t).1 := by
      unfold evs
      rw [List.map_map]
      refine (List.map_congr_left (g := id) fun l hl => ?_).trans (List.map_id _)
      exact (each l hl).2.1
    rw [e]
    have := cutL_text 10 t
    rw [h1, List.append_nil] at this
    exact this
  · obtain ⟨l, hl, rfl⟩ := List.mem_map.1 hx
    exact ⟨l, hl, rfl⟩

/-! ### sizes -/
theorem flat_len {m : Nat} : ∀ L : List (List UInt8), (∀ l ∈ L, l.length ≤ m) → (flatC 10 L).length ≤ L.length * (m + 1)
  | [], _ => by simp [flatC]
  | x :: L, h => by
    have h1 := flat_len L fun l hl => h l (List.mem_cons_of_mem _ hl)
    have h2 := h x List.mem_cons_self
    rw [flatC_cons]
    simp only [List.length_append, List.length_cons, Nat.succ_mul] at h1 ⊢
    omega
theorem line_len2 {x : Ev} (h : rightE x = true) (hb : bdE x) (hr : x.r.length ≤ 900000) : (lineE x).length ≤ 56000000 := by
  obtain ⟨h1, h2⟩ := wds_len h hb
  have h3 := join_len (wds x) h1
  have hn := right_note h
  have h4 : (wds x).length * (61 + 1) ≤ 900008 * 62 := Nat.mul_le_mul_right _ (by omega)
  unfold lineE
  unfold noteB at hn
  rw [List.length_append]
  split
  · rename_i e
    rw [if_pos e, decide_eq_true_eq] at hn
    simp only [List.length_cons, tx_len]
    omega
  · simp only [List.length_nil]; omega
end Go.Proofs.YtdhlheilgagcpaaGreatDoor
