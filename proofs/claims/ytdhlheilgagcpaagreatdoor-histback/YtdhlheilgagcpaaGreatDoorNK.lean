/- Plain mathematics of a number's text: it is read again, and what is read has this text; unlike numbers have unlike texts. Conditions: numbers of 64 bits, where one is read. -/
import Derived.Test.YtdhlheilgagcpaaGreatDoorNJ
namespace Go.Proofs.YtdhlheilgagcpaaGreatDoor
open Go.RowKit Go.PlainAid
set_option linter.unusedVariables false

theorem ofNat_dig (d : Nat) (h : d < 10) : (UInt8.ofNat (48 + d)).toNat = 48 + d := by
  rw [UInt8.toNat_ofNat']; omega

theorem dec_all : ∀ u, allL (Lib.decDigits u) ∧ vL (Lib.decDigits u) = u ∧ 0 < (Lib.decDigits u).length ∧ (0 < u → (Lib.decDigits u).head? ≠ some 48) ∧ (1 < (Lib.decDigits u).length → 10 ≤ u) := by
  intro u
  induction u using Nat.strongRecOn with
  | ind u ih =>
    by_cases h : u < 10
    · rw [Lib.decDigits_one h]
      have e := ofNat_dig u h
      refine ⟨?_, ?_, by simp, ?_, by simp⟩
      · intro c hc
        simp only [List.mem_singleton] at hc
        subst hc
        omega
      · show dv _ * 10 ^ 0 + 0 = u
        unfold dv
        rw [e]; omega
      · intro h0 k
        have k : some (UInt8.ofNat (48 + u)) = some 48 := k
        injection k with k
        have := congrArg UInt8.toNat k
        rw [e] at this
        have h48 : (48 : UInt8).toNat = 48 := rfl
        omega
    · obtain ⟨i1, i2, i3, i4, i5⟩ := ih (u / 10) (by omega)
      have e := ofNat_dig (u % 10) (by omega)
      rw [dec_step h]
      refine ⟨?_, ?_, by simp, ?_, fun _ => by omega⟩
      · intro c hc
        rcases List.mem_append.1 hc with hc | hc
        · exact i1 c hc
        · simp only [List.mem_singleton] at hc
          subst hc
          omega
      · rw [vL_one, i2]
        unfold dv
        rw [e]; omega
      · intro _
        rw [List.head?_append, Option.or_of_isSome (by rw [List.isSome_head?]; simp; intro k; rw [k] at i3; simp at i3)]
        exact i4 (by omega)
theorem dec_ok (u : Nat) : okL (Lib.decDigits u) := by
  obtain ⟨h1, h2, h3, h4, h5⟩ := dec_all u
  exact ⟨h3, h1, fun h => h4 (by have := h5 h; omega)⟩
theorem dec_val (u : Nat) : vL (Lib.decDigits u) = u := (dec_all u).2.1
theorem dec_of {xs : List UInt8} (h : okL xs) : Lib.decDigits (vL xs) = xs := one_text (dec_ok _) h (dec_val _)

theorem toList_mk (l : List UInt8) : (⟨l.toArray⟩ : ByteArray).toList = l := by rw [ByteArray.toList_eq]
theorem eq_of_toList {a b : ByteArray} (h : a.toList = b.toList) : a = b := by
  rw [ByteArray.toList_eq, ByteArray.toList_eq] at h
  exact ByteArray.ext (Array.toList_inj.1 h)
theorem txt_list (n : Int) : (txt n).toList = Lib.itoa n := toList_mk _
theorem tl_list (s : ByteArray) : (tl s).toList = s.toList.drop 1 := by
  rw [ByteArray.toList_eq, ByteArray.toList_eq]
  unfold tl
  rw [ByteArray.data_extract, Array.toList_extract]
  have : s.data.toList.length = s.size := rfl
  simp only [List.extract_eq_take_drop]
  rw [List.take_of_length_le (by rw [List.length_drop]; omega)]

theorem itoa_neg {n : Int} (h : n < 0) : Lib.itoa n = 45 :: Lib.decDigits n.natAbs := by unfold Lib.itoa; rw [if_pos h]
theorem itoa_pos {n : Int} (h : ¬ n < 0) : Lib.itoa n = Lib.decDigits n.natAbs := by unfold Lib.itoa; rw [if_neg h, show n.natAbs = n.toNat from by omega]
theorem first_of {s : ByteArray} {c : UInt8} {cs : List UInt8} (h : s.toList = c :: cs) : bt s 0 = (c.toNat : Int) := by
  rw [bt_list s 0 (by rw [h]; simp)]
  simp only [h]
  rfl
theorem plain_ok {s : ByteArray} (h : okD s) : ¬ bt s 0 = 45 := by have := h.2.1 0 h.1; omega

/-- a number's text is read again -/
theorem read_txt (n : Int) (h0 : -9223372036854775808 ≤ n) (h1 : n ≤ 9223372036854775807) : sgnR (txt n) = (n, 0) := by
  by_cases h : n < 0
  · have e := (txt_list n).trans (itoa_neg h)
    have e2 : (tl (txt n)).toList = Lib.decDigits n.natAbs := by rw [tl_list, e]; rfl
    have k : okD (tl (txt n)) := (ok_list _).2 (by rw [e2]; exact dec_ok _)
    have v : valN (tl (txt n)) (tl (txt n)).size = n.natAbs := by rw [val_list, e2, dec_val]
    rw [sgnR_neg (by rw [first_of e]; rfl) k (by rw [v]; omega) (by rw [v]; omega), v]
    exact Prod.ext (by show -(n.natAbs : Int) = n; omega) rfl
  · have e := (txt_list n).trans (itoa_pos h)
    have k : okD (txt n) := (ok_list _).2 (by rw [e]; exact dec_ok _)
    have v : valN (txt n) (txt n).size = n.natAbs := by rw [val_list, e, dec_val]
    rw [sgnR_plain (plain_ok k), cntR_good k (by rw [v]; omega), v]
    exact Prod.ext (by show (n.natAbs : Int) = n; omega) rfl

/-- what is read has this text -/
theorem txt_read {s : ByteArray} {n : Int} (h : sgnR s = (n, 0)) : txt n = s := by
  apply eq_of_toList
  rw [txt_list]
  by_cases hm : bt s 0 = 45
  · by_cases hk : okD (tl s)
    · by_cases h0 : valN (tl s) (tl s).size = 0
      · rw [sgnR_nought hm hk h0] at h; injection h with _ h; cases h
      · by_cases hv : (valN (tl s) (tl s).size : Int) ≤ 9223372036854775808
        · rw [sgnR_neg hm hk hv h0] at h
          injection h with h _
          have e : n.natAbs = vL (tl s).toList := by rw [← val_list]; omega
          rw [itoa_neg (by omega), e, dec_of ((ok_list _).1 hk), tl_list]
          have hs : 0 < s.toList.length := by
            apply Nat.pos_of_ne_zero
            intro k
            rw [bt_end s (by rw [ByteArray.toList_eq] at k; show s.data.size ≤ 0; have : s.data.toList.length = s.data.size := rfl; omega)] at hm
            omega
          match hl : s.toList, hs with
          | c :: cs, _ =>
            have := first_of hl
            rw [hm] at this
            rw [show c = 45 from UInt8.toNat_inj.1 (by have h45 : (45 : UInt8).toNat = 45 := rfl; omega)]
            rfl
        · rw [sgnR_great hm hk hv] at h; injection h with _ h; cases h
    · rw [sgnR_bad hm hk] at h; injection h with _ h; cases h
  · rw [sgnR_plain hm] at h
    by_cases hk : okD s
    · by_cases hv : (valN s s.size : Int) ≤ 9223372036854775807
      · rw [cntR_good hk hv] at h
        injection h with h _
        have e : n.natAbs = vL s.toList := by rw [← val_list]; omega
        rw [itoa_pos (by omega), e, dec_of ((ok_list _).1 hk)]
      · rw [cntR_great hk hv] at h; injection h with _ h; cases h
    · rw [cntR_bad _ hk] at h; injection h with _ h; cases h

/-- what is read is a number of 64 bits -/
theorem read_bd (s : ByteArray) : -9223372036854775808 ≤ (sgnR s).1 ∧ (sgnR s).1 ≤ 9223372036854775807 := by
  unfold sgnR cntR
  split
  · split
    · split
      · split
        · exact ⟨by decide, by decide⟩
        · constructor <;> simp only <;> omega
      · exact ⟨by decide, by decide⟩
    · exact ⟨by decide, by decide⟩
  · split
    · split
      · constructor <;> simp only <;> omega
      · exact ⟨by decide, by decide⟩
    · exact ⟨by decide, by decide⟩

/-- unlike numbers have unlike texts -/
theorem txt_inj {a b : Int} (ha : -9223372036854775808 ≤ a ∧ a ≤ 9223372036854775807) (hb : -9223372036854775808 ≤ b ∧ b ≤ 9223372036854775807) : txt a = txt b ↔ a = b := by
  constructor
  · intro h
    have h1 := read_txt a ha.1 ha.2
    rw [h, read_txt b hb.1 hb.2] at h1
    injection h1 with h1 _
    exact h1.symm
  · intro h; rw [h]
/-- a longer text without a sign is a greater number -/
theorem txt_long {a b : Int} (ha : 0 ≤ a) (hb : 0 ≤ b) (h : (txt b).size < (txt a).size) : b < a := by
  have ea := (txt_list a).trans (itoa_pos (by omega))
  have eb := (txt_list b).trans (itoa_pos (by omega))
  have la : (txt a).toList.length = (txt a).size := by rw [ByteArray.toList_eq]; rfl
  have lb : (txt b).toList.length = (txt b).size := by rw [ByteArray.toList_eq]; rfl
  have := longer (dec_ok b.natAbs) (dec_ok a.natAbs) (by rw [← eb, ← ea]; omega)
  rw [dec_val, dec_val] at this
  omega
theorem txt_size (n : Int) (h0 : -9223372036854775808 ≤ n) (h1 : n ≤ 9223372036854775807) : (txt n).size ≤ 21 := by
  have := Lib.itoa_length_le n h0 h1
  show (Lib.itoa n).toArray.size ≤ 21
  simpa using this
end Go.Proofs.YtdhlheilgagcpaaGreatDoor
