/- Lines, words and notes of lists of bytes: plain mathematics. No conditions. Texts as lists of bytes; rows of texts in memory, and rows that a call owns; an append to one. No conditions but sizes. The contract of the document's Same. Conditions: at most a million texts. The contract of the document's Split: the lines of a text, or the number of the one that has no end. Conditions: at most 900,000 bytes. The contract of the document's Note: what stands ahead, the note, whether there is one, whether it is formed so. Conditions: at most 2^62 bytes. -/
import Derived.Lib.SplitLaws
import Derived.Lib.Join
import Derived.Test.YtdhlheilgagcpaaGreatDoorRows
import Derived.WalkKit
import Derived.WalkSpells
import Derived.WalkLawsBesides
import Derived.Handy
import Derived.PlainAid
import Derived.Deep.AppendLies
import Derived.Laws.AppendOwnNone
import Derived.Deep.MidRow
import Derived.OwnWalk
import Derived.Lib.QuietBelow
namespace Go.Proofs.YtdhlheilgagcpaaGreatDoor
namespace Ln
open Go
set_option linter.unusedVariables false

/-- one more byte: it ends what was begun, or goes on with it -/
def stp (c : UInt8) (p : List (List UInt8) × List UInt8) (b : UInt8) : List (List UInt8) × List UInt8 := if b = c then (p.1 ++ [p.2], []) else (p.1, p.2 ++ [b])
/-- all that ends with c, and what is left -/
def cutL (c : UInt8) (l : List UInt8) : List (List UInt8) × List UInt8 := l.foldl (stp c) ([], [])
/-- put together again -/
def flatC (c : UInt8) (L : List (List UInt8)) : List UInt8 := (L.map (· ++ [c])).flatten
/-- what stands between the c, all of it -/
def pcs (c : UInt8) (l : List UInt8) : List (List UInt8) := (cutL c l).1 ++ [(cutL c l).2]

theorem cutL_nil (c : UInt8) : cutL c [] = ([], []) := rfl
theorem cutL_snoc (c : UInt8) (l : List UInt8) (b : UInt8) : cutL c (l ++ [b]) = stp c (cutL c l) b := by simp [cutL]
theorem stp_end (c : UInt8) (p : List (List UInt8) × List UInt8) : stp c p c = (p.1 ++ [p.2], []) := by unfold stp; rw [if_pos rfl]
theorem stp_on (c : UInt8) (p : List (List UInt8) × List UInt8) {b : UInt8} (h : b ≠ c) : stp c p b = (p.1, p.2 ++ [b]) := by unfold stp; rw [if_neg h]
theorem flatC_nil (c : UInt8) : flatC c [] = [] := rfl
theorem flatC_cons (c : UInt8) (x : List UInt8) (L : List (List UInt8)) : flatC c (x :: L) = x ++ c :: flatC c L := by simp [flatC]
theorem flatC_snoc (c : UInt8) (L : List (List UInt8)) (x : List UInt8) : flatC c (L ++ [x]) = flatC c L ++ (x ++ [c]) := by simp [flatC]

theorem foldl_shift (c : UInt8) : ∀ (l : List UInt8) (P : List (List UInt8)) (cur : List UInt8), l.foldl (stp c) (P, cur) = (P ++ (l.foldl (stp c) ([], cur)).1, (l.foldl (stp c) ([], cur)).2)
  | [], P, cur => by simp
  | b :: l, P, cur => by
    simp only [List.foldl_cons]
    by_cases h : b = c
    · subst h
      rw [stp_end, stp_end]
      dsimp only
      rw [foldl_shift b l (P ++ [cur]) [], foldl_shift b l ([] ++ [cur]) []]
      simp
    · rw [stp_on c _ h, stp_on c _ h]
      exact foldl_shift c l P (cur ++ [b])
theorem foldl_text (c : UInt8) : ∀ (l : List UInt8) (P : List (List UInt8)) (cur : List UInt8), flatC c (l.foldl (stp c) (P, cur)).1 ++ (l.foldl (stp c) (P, cur)).2 = flatC c P ++ cur ++ l
  | [], P, cur => by simp
  | b :: l, P, cur => by
    simp only [List.foldl_cons]
    by_cases h : b = c
    · subst h
      rw [stp_end, foldl_text b l, flatC_snoc]; simp
    · rw [stp_on c _ h, foldl_text c l]; simp
theorem foldl_all (c : UInt8) : ∀ (l : List UInt8) (P : List (List UInt8)) (cur : List UInt8), (∀ x ∈ P, c ∉ x) → c ∉ cur → (∀ x ∈ (l.foldl (stp c) (P, cur)).1, c ∉ x) ∧ c ∉ (l.foldl (stp c) (P, cur)).2
  | [], P, cur, h1, h2 => ⟨h1, h2⟩
  | b :: l, P, cur, h1, h2 => by
    simp only [List.foldl_cons]
    by_cases h : b = c
    · subst h
      rw [stp_end]
      refine foldl_all b l _ _ (fun x hx => ?_) (by simp)
      rcases List.mem_append.1 hx with hx | hx
      · exact h1 x hx
      · simp at hx; subst hx; exact h2
    · rw [stp_on c _ h]
      refine foldl_all c l _ _ h1 (fun hx => ?_)
      rcases List.mem_append.1 hx with hx | hx
      · exact h2 hx
      · simp at hx; exact h hx.symm
theorem foldl_free (c : UInt8) : ∀ (x : List UInt8) (P : List (List UInt8)) (cur : List UInt8), c ∉ x → x.foldl (stp c) (P, cur) = (P, cur ++ x)
  | [], P, cur, _ => by simp
  | b :: x, P, cur, h => by
    simp only [List.mem_cons, not_or] at h
    simp only [List.foldl_cons]
    rw [stp_on c _ (fun e => h.1 e.symm), foldl_free c x P (cur ++ [b]) h.2]
    simp
theorem foldl_flat (c : UInt8) : ∀ (L P : List (List UInt8)) (r : List UInt8), (∀ x ∈ L, c ∉ x) → c ∉ r → (flatC c L ++ r).foldl (stp c) (P, []) = (P ++ L, r)
  | [], P, r, _, hr => by rw [flatC_nil, List.nil_append, foldl_free c r P [] hr]; simp
  | x :: L, P, r, h, hr => by
    rw [flatC_cons, List.append_assoc, List.foldl_append, foldl_free c x P [] (h x (by simp)), List.cons_append, List.foldl_cons, stp_end]
    dsimp only
    rw [foldl_flat c L _ r (fun y hy => h y (by simp [hy])) hr]
    simp
theorem cutL_text (c : UInt8) (l : List UInt8) : flatC c (cutL c l).1 ++ (cutL c l).2 = l := by have h := foldl_text c l [] []; rw [flatC_nil, List.nil_append, List.nil_append] at h; exact h
theorem cutL_all (c : UInt8) (l : List UInt8) : (∀ x ∈ (cutL c l).1, c ∉ x) ∧ c ∉ (cutL c l).2 := foldl_all c l [] [] (by simp) (by simp)
theorem cutL_flat (c : UInt8) (L : List (List UInt8)) (r : List UInt8) (h : ∀ x ∈ L, c ∉ x) (hr : c ∉ r) : cutL c (flatC c L ++ r) = (L, r) := by
  have e := foldl_flat c L [] r h hr; rw [List.nil_append] at e; exact e
theorem cutL_none (c : UInt8) (l : List UInt8) (h : c ∉ l) : cutL c l = ([], l) := by have e := foldl_free c l [] [] h; rw [List.nil_append] at e; exact e
theorem cutL_first (c : UInt8) (a b : List UInt8) (h : c ∉ a) : cutL c (a ++ c :: b) = (a :: (cutL c b).1, (cutL c b).2) := by
  have e : cutL c (a ++ c :: b) = (a ++ c :: b).foldl (stp c) ([], []) := rfl
  rw [e, List.foldl_append, foldl_free c a [] [] h, List.foldl_cons, stp_end, foldl_shift]
  rfl
theorem pcs_first (c : UInt8) (a b : List UInt8) (h : c ∉ a) : pcs c (a ++ c :: b) = a :: pcs c b := by unfold pcs; rw [cutL_first c a b h]; rfl
theorem pcs_none (c : UInt8) (l : List UInt8) (h : c ∉ l) : pcs c l = [l] := by unfold pcs; rw [cutL_none c l h]; rfl

/-- the first c of a text, or that there is none -/
theorem cut_cases (c : UInt8) : ∀ s : List UInt8, (c ∉ s ∧ Lib.index s [c] = -1) ∨ ∃ a b, s = a ++ c :: b ∧ c ∉ a ∧ Lib.index s [c] = (a.length : Int)
  | [] => .inl ⟨by simp, by simp [Lib.index]⟩
  | x :: s => by
    by_cases h : x = c
    · subst h
      exact .inr ⟨[], s, rfl, by simp, by simp [Lib.index]⟩
    · have h0 : ([c] : List UInt8).isPrefixOf (x :: s) = false := by simp [List.isPrefixOf, Ne.symm h]
      rcases cut_cases c s with ⟨h1, h2⟩ | ⟨a, b, h1, h2, h3⟩
      · exact .inl ⟨by simp [h1, Ne.symm h], by rw [Lib.index, h0, h2]; rfl⟩
      · refine .inr ⟨x :: a, b, by rw [h1]; rfl, by simp [h2, Ne.symm h], ?_⟩
        rw [Lib.index, h0, h3]
        have : ((a.length : Int) == -1) = false := by rw [beq_eq_false_iff_ne]; omega
        rw [this]; simp
theorem index_none (c : UInt8) (s : List UInt8) (h : c ∉ s) : Lib.index s [c] = -1 := by
  rcases cut_cases c s with ⟨_, h2⟩ | ⟨a, b, h1, _, _⟩
  · exact h2
  · exact absurd (by rw [h1]; simp) h
theorem index_at (c : UInt8) (a b : List UInt8) (h : c ∉ a) : Lib.index (a ++ c :: b) [c] = (a.length : Int) := by
  rcases cut_cases c (a ++ c :: b) with ⟨h1, _⟩ | ⟨a', b', h1, h2, h3⟩
  · exact absurd (by simp) h1
  · have : a.length = a'.length := by
      rcases Nat.lt_trichotomy a.length a'.length with hl | hl | hl
      · exfalso
        apply h2
        have e := congrArg (fun l => l[a.length]?) h1
        simp only [List.getElem?_append_right (Nat.le_refl _), Nat.sub_self, List.getElem?_cons_zero, List.getElem?_append_left hl] at e
        exact List.mem_of_getElem? e.symm
      · exact hl
      · exfalso
        apply h
        have e := congrArg (fun l => l[a'.length]?) h1
        simp only [List.getElem?_append_right (Nat.le_refl _), Nat.sub_self, List.getElem?_cons_zero, List.getElem?_append_left hl] at e
        exact List.mem_of_getElem? e
    rw [h3, this]
theorem contains_mem (c : UInt8) (s : List UInt8) : Lib.contains s [c] = decide (c ∈ s) := by
  unfold Lib.contains
  rcases cut_cases c s with ⟨h1, h2⟩ | ⟨a, b, h1, _, h3⟩
  · rw [h2, decide_eq_false h1]; rfl
  · rw [h3, decide_eq_true (p := (0 : Int) ≤ (a.length : Int)) (by omega), decide_eq_true (p := c ∈ s) (by rw [h1]; simp)]
theorem cut_none (c : UInt8) (s : List UInt8) (h : c ∉ s) : Lib.cut s [c] = (s, [], false) := by unfold Lib.cut; rw [index_none c s h, if_neg (by omega)]
theorem cut_at (c : UInt8) (a b : List UInt8) (h : c ∉ a) : Lib.cut (a ++ c :: b) [c] = (a, b, true) := by
  unfold Lib.cut
  rw [index_at c a b h, if_pos (by omega)]
  simp [List.drop_append]
theorem splitK_pcs (c : UInt8) : ∀ (n : Nat) (s : List UInt8), s.length ≤ n → Lib.splitK [c] 0 (Lib.count s [c]) s = pcs c s
  | n, s, hn => by
    rcases cut_cases c s with ⟨h1, h2⟩ | ⟨a, b, h1, h2, h3⟩
    · rw [Lib.count_miss h2, pcs_none c s h1]; rfl
    · have hc := Lib.count_hit (s := s) (sub := [c]) (by simp) h3
      have hd : s.drop (a.length + [c].length) = b := by rw [h1]; simp [List.drop_append]
      rw [hd] at hc
      have ht : s.take (a.length + 0) = a := by rw [h1]; simp
      cases n with
      | zero => rw [h1] at hn; simp at hn
      | succ n =>
        have ih := splitK_pcs c n b (by rw [h1] at hn; simp at hn; omega)
        rw [hc, Nat.add_comm, Lib.splitK, h3]
        have e1 : ((a.length : Int) == -1) = false := by rw [beq_eq_false_iff_ne]; omega
        rw [e1]
        simp only [Bool.false_eq_true, if_false, Int.toNat_natCast, hd, ht, ih]
        rw [h1, pcs_first c a b h2]
theorem joinTail_on (sep : List UInt8) (x : List UInt8) (r : List (List UInt8)) : Lib.joinTail sep (x :: r) = sep ++ Lib.join (x :: r) sep := by rw [Lib.join_cons]; simp [Lib.joinTail]
theorem join_flat (c : UInt8) : ∀ (L : List (List UInt8)) (r : List UInt8), Lib.join (L ++ [r]) [c] = flatC c L ++ r
  | [], r => by rw [List.nil_append, Lib.join_one]; rfl
  | x :: L, r => by
    have ih := join_flat c L r
    rw [List.cons_append, Lib.join_cons, flatC_cons]
    cases h : L ++ [r] with
    | nil => simp at h
    | cons y ys => rw [joinTail_on, ← h, ih]; simp
theorem join_pcs (c : UInt8) (l : List UInt8) : Lib.join (pcs c l) [c] = l := by unfold pcs; rw [join_flat, cutL_text]
theorem pcs_snoc (c : UInt8) (L : List (List UInt8)) (r : List UInt8) (h : ∀ x ∈ L, c ∉ x) (hr : c ∉ r) : pcs c (Lib.join (L ++ [r]) [c]) = L ++ [r] := by
  rw [join_flat]; unfold pcs; rw [cutL_flat c L r h hr]
theorem pcs_join (c : UInt8) (L : List (List UInt8)) (h0 : L ≠ []) (h : ∀ x ∈ L, c ∉ x) : pcs c (Lib.join L [c]) = L := by
  obtain ⟨M, r, rfl⟩ : ∃ M r, L = M ++ [r] := ⟨L.dropLast, L.getLast h0, (List.dropLast_concat_getLast h0).symm⟩
  exact pcs_snoc c M r (fun x hx => h x (by simp [hx])) (h r (by simp))

/-- a note is formed so: a blank right ahead, at most 100 bytes behind, no end of a line among them -/
abbrev noteP (a b : List UInt8) : Prop := a.getLast? = some 32 ∧ b.length ≤ 100 ∧ (10 : UInt8) ∉ b
/-- the program's answer over lists: ahead, the note, noted, formed -/
def noteR (s : List UInt8) : List UInt8 × List UInt8 × Bool × Bool :=
  if (Lib.cut s [59]).2.2 then
    if (Lib.cut s [59]).1.getLast? = some 32 ∧ (Lib.cut s [59]).2.1.length ≤ 100 ∧ (10 : UInt8) ∉ (Lib.cut s [59]).2.1 then ((Lib.cut s [59]).1.dropLast, (Lib.cut s [59]).2.1, true, true) else ([], [], false, false)
  else (s, [], false, true)
theorem noteR_none (s : List UInt8) (h : (59 : UInt8) ∉ s) : noteR s = (s, [], false, true) := by unfold noteR; rw [cut_none 59 s h]; rfl
theorem noteR_good (a b : List UInt8) (h : (59 : UInt8) ∉ a) (hp : noteP a b) : noteR (a ++ 59 :: b) = (a.dropLast, b, true, true) := by
  unfold noteR; rw [cut_at 59 a b h]; exact if_pos hp
theorem noteR_bad (a b : List UInt8) (h : (59 : UInt8) ∉ a) (hp : ¬ noteP a b) : noteR (a ++ 59 :: b) = ([], [], false, false) := by
  unfold noteR; rw [cut_at 59 a b h]; exact if_neg hp
end Ln
end Go.Proofs.YtdhlheilgagcpaaGreatDoor
namespace Go.Proofs.YtdhlheilgagcpaaGreatDoor
namespace Ln
open Go.RowKit Go.PlainAid
set_option linter.unusedVariables false

/-- one call behind another -/
theorem below_next {w a b : World} (h : Below w.heap.size w a) (k : Below a.heap.size a b) : Below w.heap.size w b := h.trans (k.mono h.size)
/-- a new block -/
theorem below_more {w a : World} (h : Below w.heap.size w a) (o : Obj) : Below w.heap.size w (a.alloc o) := h.alloc h.size o
theorem ret_b {a b : Bool} (h : a = b) : Ending.returned (.bool a) = .returned (.bool b) := by rw [h]

/-- a text's bytes -/
def bs (l : List UInt8) : ByteArray := ⟨l.toArray⟩
/-- a text as a list -/
abbrev tx (s : ByteArray) : List UInt8 := s.data.toList
theorem bs_tx (s : ByteArray) : bs (tx s) = s := Lib.mk_data s
theorem tx_bs (l : List UInt8) : tx (bs l) = l := rfl
theorem tx_len (s : ByteArray) : (tx s).length = s.size := (Lib.size_eq s).symm
theorem bs_size (l : List UInt8) : (bs l).size = l.length := rfl
theorem bs_toList (l : List UInt8) : (bs l).toList = l := by rw [ByteArray.toList_eq]; rfl
theorem tx_toList (s : ByteArray) : s.toList = tx s := ByteArray.toList_eq s
theorem bs_inj {a b : List UInt8} (h : bs a = bs b) : a = b := congrArg tx h
theorem bs_nil : bs [] = ⟨#[]⟩ := rfl
theorem tx_inj {a b : ByteArray} (h : tx a = tx b) : a = b := by rw [← bs_tx a, ← bs_tx b, h]
theorem extract_tx (s : ByteArray) (a b : Nat) : s.extract a b = bs (((tx s).drop a).take (b - a)) := Lib.extract_eq s a b
theorem bt_tx (s : ByteArray) (k : Nat) (b : UInt8) (h : (tx s)[k]? = some b) : bt s k = (b.toNat : Int) := by
  obtain ⟨hk, e⟩ := List.getElem?_eq_some_iff.1 h
  have hk' : k < s.size := by rw [← tx_len]; exact hk
  unfold bt
  rw [dif_pos hk', ← e]
  rfl
theorem byte_at (s : ByteArray) (k : Nat) (h : k < s.size) : ∃ b, (tx s)[k]? = some b ∧ bt s k = (b.toNat : Int) ∧ (tx s).take (k + 1) = (tx s).take k ++ [b] ∧ (tx s).drop k = b :: (tx s).drop (k + 1) := by
  have h' : k < (tx s).length := by rw [tx_len]; exact h
  refine ⟨(tx s)[k], List.getElem?_eq_getElem h', bt_tx s k _ (List.getElem?_eq_getElem h'), ?_, ?_⟩
  · rw [List.take_add_one, List.getElem?_eq_getElem h']; rfl
  · exact List.drop_eq_getElem_cons h'
theorem byte_eq (b c : UInt8) : ((b.toNat : Int) = (c.toNat : Int)) ↔ b = c :=
  ⟨fun h => UInt8.toNat_inj.1 (by omega), fun h => by rw [h]⟩

/-- the i-th text of a row -/
def nt (xs : List (List UInt8)) (i : Nat) : List UInt8 := xs.getD i []
theorem nt_eq (xs : List (List UInt8)) (i : Nat) (h : i < xs.length) : nt xs i = xs[i] := by unfold nt; rw [List.getD_eq_getElem?_getD, List.getElem?_eq_getElem h]; rfl
theorem nt_some (xs : List (List UInt8)) (i : Nat) (h : i < xs.length) : xs[i]? = some (nt xs i) := by rw [nt_eq xs i h, List.getElem?_eq_getElem h]
/-- a slice that holds these texts -/
def SSl (w : World) (v : Value) (xs : List (List UInt8)) : Prop :=
  ∃ (a : Option Addr) (c : Nat), v = .slice a xs.length c ∧ xs.length ≤ c ∧ c ≤ 9223372036854775807 ∧ ((xs = [] ∧ (a = none → c = 0)) ∨ ∃ b o, a = some ⟨b, o, none⟩ ∧ b < w.heap.size ∧ ∀ i, i < xs.length → w.cell? ⟨b, o + i, none⟩ = some (.string (bs (nt xs i))))
theorem SSl.later {w w' : World} {v : Value} {xs : List (List UInt8)} (h : SSl w v xs) (hb : Below w.heap.size w w') : SSl w' v xs := by
  obtain ⟨a, c, h1, h2, h3, h4⟩ := h
  refine ⟨a, c, h1, h2, h3, h4.imp id ?_⟩
  rintro ⟨b, o, e, hl, hc⟩
  exact ⟨b, o, e, Nat.lt_of_lt_of_le hl hb.size, fun i hi => (hb.cell (p := ⟨b, o + i, none⟩) hl).trans (hc i hi)⟩
theorem SSl.form {w : World} {v : Value} {xs : List (List UInt8)} (h : SSl w v xs) : ∃ a c, v = .slice a xs.length c ∧ xs.length ≤ c ∧ c ≤ 9223372036854775807 ∧ (a = none → xs = [] ∧ c = 0) := by
  obtain ⟨a, c, hv, h1, h2, h3⟩ := h
  refine ⟨a, c, hv, h1, h2, fun ha => ?_⟩
  rcases h3 with ⟨h3, h4⟩ | ⟨b, o, h3, _⟩
  · exact ⟨h3, h4 ha⟩
  · rw [ha] at h3; cases h3
theorem SSl.block {w : World} {a : Option Addr} {n c : Nat} {xs : List (List UInt8)} (h : SSl w (.slice a n c) xs) (hl : 0 < xs.length) : ∃ b o, a = some ⟨b, o, none⟩ ∧ b < w.heap.size := by
  obtain ⟨a', c', hv, _, _, h3⟩ := h
  injection hv with ha _ _
  rcases h3 with ⟨h3, _⟩ | ⟨b, o, h3, hb, _⟩
  · rw [h3] at hl; cases hl
  · exact ⟨b, o, ha.trans h3, hb⟩
theorem SSl.cell {w : World} {b o n c : Nat} {xs : List (List UInt8)} (h : SSl w (.slice (some ⟨b, o, none⟩) n c) xs) {i : Nat} (hl : i < xs.length) : w.cell? ⟨b, o + i, none⟩ = some (.string (bs (nt xs i))) := by
  obtain ⟨a', c', hv, _, _, h3⟩ := h
  injection hv with ha _ _
  rcases h3 with ⟨h3, _⟩ | ⟨b', o', h3, _, hat⟩
  · rw [h3] at hl; cases hl
  · rw [h3] at ha
    injection ha with ha
    injection ha with h1 h2 _
    subst h1 h2
    exact hat i hl

/-- a row's cells -/
def cellsS (xs : List (List UInt8)) : List Value := xs.map (fun l => .string (bs l))
theorem cellsS_len (xs : List (List UInt8)) : (cellsS xs).length = xs.length := by simp [cellsS]
theorem cellsS_app (xs ys : List (List UInt8)) : cellsS (xs ++ ys) = cellsS xs ++ cellsS ys := by simp [cellsS]
theorem cellsS_one (xs : List (List UInt8)) : ∀ u ∈ cellsS xs, u.oneCell' = true := by
  intro u hu
  simp only [cellsS, List.mem_map] at hu
  obtain ⟨l, _, rfl⟩ := hu
  rfl
theorem cellsS_at (xs : List (List UInt8)) (i : Nat) (h : i < xs.length) : (cellsS xs)[i]? = some (.string (bs (nt xs i))) := by
  unfold cellsS; rw [List.getElem?_map, nt_some xs i h]; rfl
/-- a row of texts that the call owns, from block B on -/
def OwnS (w : World) (B : Nat) (v : Value) (xs : List (List UInt8)) : Prop := w.ownsRow B 9 1 v xs.length (cellsS xs)
theorem OwnS.nil (w : World) (B : Nat) : OwnS w B (.slice none 0 0) [] := World.ownsRow_nil _ _ _ _
theorem OwnS.later {w w' : World} {B : Nat} {v : Value} {xs : List (List UInt8)} (h : OwnS w B v xs) (hb : Below w.heap.size w w') : OwnS w' B v xs :=
  World.ownsRow.kept h (row := none) ⟨hb.os, hb.tape, hb.output, hb.size, fun k hk _ => hb.block k hk⟩ (by cases v.ownBlock <;> simp)
theorem OwnS.ssl {w : World} {B : Nat} {v : Value} {xs : List (List UInt8)} (h : OwnS w B v xs) : SSl w v xs := by
  have h' := h
  obtain ⟨h1, h2⟩ := h
  rcases h2 with ⟨rfl, h0⟩ | ⟨g, cap, cur, rfl, hb, hg, hn, hc, hs, ht⟩
  · have e : xs = [] := List.eq_nil_of_length_eq_zero h0
    subst e
    exact ⟨none, 0, rfl, by simp, by simp, .inl ⟨rfl, fun _ => rfl⟩⟩
  · unfold maxLen at hc
    refine ⟨_, cap, rfl, hn, by omega, .inr ⟨g, 0, rfl, (World.ownsRow.lt h' g rfl).2, fun i hi => ?_⟩⟩
    have q := World.ownsRow.cells h' (g := g) rfl _ _ (cellsS_at xs i hi)
    rw [Addr.add_mid] at q
    exact q
theorem OwnS.lt {w : World} {B : Nat} {v : Value} {xs : List (List UInt8)} (h : OwnS w B v xs) : ∀ g, v.ownBlock = some g → B ≤ g ∧ g < w.heap.size := World.ownsRow.lt h
theorem OwnS.form {w : World} {B : Nat} {v : Value} {xs : List (List UInt8)} (h : OwnS w B v xs) : ∃ a c, v = .slice a xs.length c := by
  obtain ⟨a, c, hv, _⟩ := h.ssl.form; exact ⟨a, c, hv⟩
theorem below_own {w w' : World} {B : Nat} {v : Value} {xs : List (List UInt8)} (h : OwnS w B v xs) (hg : w.grownBy w' v.ownBlock) {w0 : World} (h0 : Below B w0 w) (hB : B ≤ w.heap.size) : Below B w0 w' :=
  Below.grown h0 hg hB (fun k hk => (h.lt k hk).1)
theorem infoS : (Tryz.prog.info? 9).map (fun i => (i.zero, i.size, i.bytes)) = some (some (.string ⟨#[]⟩), 1, 16) := by kernel_rfl

/-- append of one text, laid in a new block, to a row that the call owns -/
theorem wpList_appendS {ops : Array Oper} {rest : List Oper} {o : Oper} {a : Act} {w : World} {Q : Exit → Act → World → Prop} (hgd : o.guard = none) (s x : Operand)
    (ho : o.op = .call { callee := .builtin .append, args := #[s, x], argTypes := #[41, 41] }) (B : Nat) (v : Value) (xs : List (List UInt8)) (hs : a.eval s = v) (hown : OwnS w B v xs)
    (ad : Addr) (c : Nat) (y : List UInt8) (hx : a.eval x = .slice (some ad) 1 c) (hu : w.cell? ad = some (.string (bs y))) (hlen : xs.length + 1 ≤ 1000000) (hbase : B ≤ w.heap.size)
    (h : ∀ v' w', OwnS w' B v' (xs ++ [y]) → w.grownBy w' v.ownBlock → wpList Tryz.prog ops Q rest (a.put o.dst v') w') : wpList Tryz.prog ops Q (o :: rest) a w := by
  obtain ⟨i0, hi, hz0, hz1, hz2⟩ := info_parts infoS
  unfold OwnS at hown h
  refine wpList_append_own_at _ hgd s x 41 ho B 9 i0 (.string ⟨#[]⟩) 1 16 Tryz.underlying41 hi hz0 hz1 hz2 rfl (by decide) v xs.length (cellsS xs) hs hown ad 1 c (cellsS [y]) hx rfl ?_ (cellsS_one _) (by unfold maxLen; omega) (by omega) hbase ?_
  · intro j u hj
    cases j with
    | zero =>
      simp only [cellsS, List.map_cons, List.map_nil, List.getElem?_cons_zero, Option.some.injEq] at hj
      rw [← hj]
      have e : ad.add 0 = ad := by obtain ⟨b, o, m⟩ := ad; cases m <;> rfl
      rw [e]; exact hu
    | succ j => simp [cellsS] at hj
  · intro v' w' hown' hgrow _ hat
    refine h v' w' ?_ hgrow
    rw [cellsS_app, List.length_append]; exact hown'
end Ln
end Go.Proofs.YtdhlheilgagcpaaGreatDoor
namespace Go.Proofs.YtdhlheilgagcpaaGreatDoor
namespace Ln
open Go.RowKit Go.PlainAid Go.Sort
set_option linter.unusedVariables false

/-- are two rows one? -/
def sameS (xs ys : List (List UInt8)) : Bool := decide (xs = ys)
theorem sameS_self (xs : List (List UInt8)) : sameS xs xs = true := decide_eq_true rfl
theorem sameS_f {xs ys : List (List UInt8)} (h : ¬ xs = ys) : sameS xs ys = false := decide_eq_false h
theorem sameS_t {xs ys : List (List UInt8)} (h : xs = ys) : sameS xs ys = true := decide_eq_true h
theorem eq_of_nt {xs ys : List (List UInt8)} (hl : xs.length = ys.length) (h : ∀ i, i < xs.length → nt xs i = nt ys i) : xs = ys := by
  apply List.ext_getElem hl
  intro i h1 h2
  rw [← nt_eq xs i h1, ← nt_eq ys i h2, h i h1]

end Ln
end Go.Proofs.YtdhlheilgagcpaaGreatDoor
namespace Go.Proofs.YtdhlheilgagcpaaGreatDoor
namespace Ln
open Go.RowKit Go.PlainAid
set_option linter.unusedVariables false

/-- what the document's Split hands back of a text -/
def RSplit (w : World) (l : List UInt8) (e : Ending) (w' : World) : Prop :=
  ∃ v, Below w.heap.size w w' ∧ (((cutL 10 l).2 = [] ∧ e = .returned (.tuple #[v, .int .i64 0]) ∧ SSl w' v (cutL 10 l).1) ∨
    ((cutL 10 l).2 ≠ [] ∧ e = .returned (.tuple #[.slice none 0 0, .int .i64 (((cutL 10 l).1.length : Int) + 1)])))
theorem cutL_count (c : UInt8) (l : List UInt8) : (cutL c l).1.length ≤ l.length := by
  have h : ∀ L : List (List UInt8), L.length ≤ (flatC c L).length := by
    intro L
    induction L with
    | nil => simp [flatC_nil]
    | cons x L ih => rw [flatC_cons]; simp; omega
  have h2 := congrArg List.length (cutL_text c l)
  rw [List.length_append] at h2
  have := h (cutL c l).1
  omega

end Ln
end Go.Proofs.YtdhlheilgagcpaaGreatDoor
namespace Go.Proofs.YtdhlheilgagcpaaGreatDoor
namespace Ln
open Go.RowKit Go.PlainAid
set_option linter.unusedVariables false

/-- what is told of a line, as a value -/
def notV (r : List UInt8 × List UInt8 × Bool × Bool) : Value := .agg #[.string (bs r.1), .string (bs r.2.1), .bool r.2.2.1, .bool r.2.2.2]
theorem split_at (s : ByteArray) (k : Nat) (b : UInt8) (h : (tx s).drop k = b :: (tx s).drop (k + 1)) : tx s = (tx s).take k ++ b :: (tx s).drop (k + 1) := by
  rw [← h, List.take_append_drop]
theorem last_take (s : ByteArray) (j : Nat) (b : UInt8) (h : (tx s).take (j + 1) = (tx s).take j ++ [b]) : ((tx s).take (j + 1)).getLast? = some b := by rw [h]; simp
theorem init_take (s : ByteArray) (j : Nat) (b : UInt8) (h : (tx s).take (j + 1) = (tx s).take j ++ [b]) : ((tx s).take (j + 1)).dropLast = (tx s).take j := by rw [h]; simp

end Ln
end Go.Proofs.YtdhlheilgagcpaaGreatDoor
