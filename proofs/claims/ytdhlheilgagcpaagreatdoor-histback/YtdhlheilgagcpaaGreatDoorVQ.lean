/- Plain mathematics of a value's text: a right value is told again from its text; what a text tells is right, and has this text. Conditions: numbers of 64 bits. -/
import Derived.Test.YtdhlheilgagcpaaGreatDoorVN
import Derived.Test.YtdhlheilgagcpaaGreatDoorBP
import Derived.Test.YtdhlheilgagcpaaGreatDoorBG
namespace Go.Proofs.YtdhlheilgagcpaaGreatDoor
open Go.RowKit Go.PlainAid Go.Sort
set_option linter.unusedVariables false

theorem no_text {s : ByteArray} (h : s.size = 0) : s = noB := empty_of_size h
theorem bt_one {s : ByteArray} {c : UInt8} (h : s.toList = [c]) : bt s 0 = (c.toNat : Int) := first_of h
/-- a number's text begins with a sign or a digit -/
theorem num_first {s : ByteArray} {n : Int} (h : sgnR s = (n, 0)) : bt s 0 ≤ 57 := by
  by_cases hm : bt s 0 = 45
  · omega
  · rw [sgnR_plain hm] at h
    by_cases hk : okD s
    · exact (hk.2.1 0 hk.1).2
    · rw [cntR_bad _ hk] at h; injection h with _ h; cases h
theorem not_tilde {s : ByteArray} (h : bt s 0 ≤ 57 ∨ letP (bt s 0)) : ¬ s.toList = [126] ∧ ¬ s.toList = [84] ∧ ¬ s.toList = [70] := by
  refine ⟨fun e => ?_, fun e => ?_, fun e => ?_⟩
  · have := bt_one e
    have h1 : ((126 : UInt8).toNat : Int) = 126 := rfl
    rcases h with h | ⟨h, k⟩ <;> omega
  · have := bt_one e
    have h1 : ((84 : UInt8).toNat : Int) = 84 := rfl
    rcases h with h | ⟨h, k⟩ <;> omega
  · have := bt_one e
    have h1 : ((70 : UInt8).toNat : Int) = 70 := rfl
    rcases h with h | ⟨h, k⟩ <;> omega
theorem one_list (c : UInt8) : (⟨#[c]⟩ : ByteArray).toList = [c] := by rw [ByteArray.toList_eq]

/-- a right value is told again from its text -/
theorem par_prt {k n : Int} {s : ByteArray} (h : rightP k n s) (hn : -9223372036854775808 ≤ n ∧ n ≤ 9223372036854775807) : parR (prt k n s) = (k, n, s, 0) := by
  rcases h with h | h | h | h
  · obtain ⟨rfl, rfl, hs⟩ := h
    rw [prt_none (.inl ⟨rfl, rfl, hs⟩), parR_none (one_list 126), no_text hs]
  · obtain ⟨rfl, hs⟩ := h
    have hr := read_txt n hn.1 hn.2
    have hf := num_first hr
    obtain ⟨a, b, c⟩ := not_tilde (.inl hf)
    rw [prt_num (.inr (.inl ⟨rfl, hs⟩)), parR_num a b c (fun hw => by have := hw.2.2.1; unfold letP at this; omega) (by rw [hr]), hr, no_text hs]
  · obtain ⟨rfl, rfl, hw⟩ := h
    obtain ⟨a, b, c⟩ := not_tilde (.inr hw.2.2.1)
    rw [prt_word (.inr (.inr (.inl ⟨rfl, rfl, hw⟩))), parR_word a b c hw]
  · obtain ⟨rfl, hn01, hs⟩ := h
    rcases hn01 with rfl | rfl
    · rw [prt_no (.inr (.inr (.inr ⟨rfl, .inl rfl, hs⟩))) (by decide), parR_no (one_list 70), no_text hs]
    · rw [prt_yes (.inr (.inr (.inr ⟨rfl, .inr rfl, hs⟩))), parR_yes (one_list 84), no_text hs]

/-- what a text tells is right, and has this text; its number is one of 64 bits -/
theorem prt_par {s t : ByteArray} {k n : Int} (h : parR s = (k, n, t, 0)) : rightP k n t ∧ prt k n t = s ∧ (-9223372036854775808 ≤ n ∧ n ≤ 9223372036854775807) ∧ t.size ≤ s.size := by
  by_cases h1 : s.toList = [126]
  · rw [parR_none h1] at h
    injection h with e1 h; injection h with e2 h; injection h with e3 h
    subst e1 e2 e3
    have hr : rightP 0 0 noB := .inl ⟨rfl, rfl, rfl⟩
    exact ⟨hr, (prt_none hr).trans (eq_of_toList (by rw [h1, one_list])), by omega, Nat.zero_le _⟩
  by_cases h2 : s.toList = [84]
  · rw [parR_yes h2] at h
    injection h with e1 h; injection h with e2 h; injection h with e3 h
    subst e1 e2 e3
    have hr : rightP 3 1 noB := .inr (.inr (.inr ⟨rfl, .inr rfl, rfl⟩))
    exact ⟨hr, (prt_yes hr).trans (eq_of_toList (by rw [h2, one_list])), by omega, Nat.zero_le _⟩
  by_cases h3 : s.toList = [70]
  · rw [parR_no h3] at h
    injection h with e1 h; injection h with e2 h; injection h with e3 h
    subst e1 e2 e3
    have hr : rightP 3 0 noB := .inr (.inr (.inr ⟨rfl, .inl rfl, rfl⟩))
    exact ⟨hr, (prt_no hr (by decide)).trans (eq_of_toList (by rw [h3, one_list])), by omega, Nat.zero_le _⟩
  by_cases h4 : wordP s
  · rw [parR_word h1 h2 h3 h4] at h
    injection h with e1 h; injection h with e2 h; injection h with e3 h
    subst e1 e2 e3
    have hr : rightP 2 0 s := .inr (.inr (.inl ⟨rfl, rfl, h4⟩))
    exact ⟨hr, prt_word hr, by omega, Nat.le_refl _⟩
  by_cases h5 : (sgnR s).2 = 0
  · rw [parR_num h1 h2 h3 h4 h5] at h
    injection h with e1 h; injection h with e2 h; injection h with e3 h
    have hb := read_bd s
    have hR : sgnR s = (n, 0) := Prod.ext e2 h5
    rw [e2] at hb
    subst e1 e3
    have hr : rightP 1 n noB := .inr (.inl ⟨rfl, rfl⟩)
    exact ⟨hr, (prt_num hr).trans (txt_read hR), hb, Nat.zero_le _⟩
  · rw [parR_bad h1 h2 h3 h4 h5] at h
    injection h with e1 h; injection h with e2 h; injection h with e3 h
    exact absurd h h5
theorem prt_size (k n : Int) (s : ByteArray) (hn : -9223372036854775808 ≤ n ∧ n ≤ 9223372036854775807) : (prt k n s).size ≤ s.size + 21 := by
  unfold prt
  split
  · split
    · show 1 ≤ _; omega
    · split
      · have := txt_size n hn.1 hn.2; omega
      · split
        · omega
        · split
          · show 1 ≤ _; omega
          · show 1 ≤ _; omega
  · exact Nat.zero_le _
end Go.Proofs.YtdhlheilgagcpaaGreatDoor
