/- Lines, words and notes of lists of bytes: plain mathematics. No conditions. -/
import Derived.Lib.SplitLaws
import Derived.Lib.Join
namespace Go.Proofs.YtgdegbmakbfaaaaDoor
namespace Ln
open Go
set_option linter.unusedVariables false

/-- one more byte: it ends what was begun, or goes on with it -/
def stp (c : UInt8) (p : List (List UInt8) × List UInt8) (b : UInt8) : List (List UInt8) × List UInt8 := if b = c then (p.1 ++ [p.2], []) else (p.1, p.2 ++ [b])
/-- all that ends with c, and what is left -/
def cutL (c : UInt8) (l : List UInt8) : List (List UInt8) × List UInt8 := l.foldl (stp c) ([], [])
/-- put together again -/
def flatC (c : UInt8) (L : List (List UInt8)) : List UInt8 := (L.map (· ++ [c])).flatten
/-- what stands between the c, all of it -/
def pcs (c : UInt8) (l : List UInt8) : List (List UInt8) := (cutL c l).1 ++ [(cutL c l).2]

theorem cutL_nil (c : UInt8) : cutL c [] = ([], []) := rfl
theorem cutL_snoc (c : UInt8) (l : List UInt8) (b : UInt8) : cutL c (l ++ [b]) = stp c (cutL c l) b := by simp [cutL]
theorem stp_end (c : UInt8) (p : List (List UInt8) × List UInt8) : stp c p c = (p.1 ++ [p.2], []) := by unfold stp; rw [if_pos rfl]
theorem stp_on (c : UInt8) (p : List (List UInt8) × List UInt8) {b : UInt8} (h : b ≠ c) : stp c p b = (p.1, p.2 ++ [b]) := by unfold stp; rw [if_neg h]
theorem flatC_nil (c : UInt8) : flatC c [] = [] := rfl
theorem flatC_cons (c : UInt8) (x : List UInt8) (L : List (List UInt8)) : flatC c (x :: L) = x ++ c :: flatC c L := by simp [flatC]
theorem flatC_snoc (c : UInt8) (L : List (List UInt8)) (x : List UInt8) : flatC c (L ++ [x]) = flatC c L ++ (x ++ [c]) := by simp [flatC]

theorem foldl_shift (c : UInt8) : ∀ (l : List UInt8) (P : List (List UInt8)) (cur : List UInt8), l.foldl (stp c) (P, cur) = (P ++ (l.foldl (stp c) ([], cur)).1, (l.foldl (stp c) ([], cur)).2)
  | [], P, cur => by simp
  | b :: l, P, cur => by
    simp only [List.foldl_cons]
    by_cases h : b = c
    · subst h
      rw [stp_end, stp_end]
      dsimp only
      rw [foldl_shift b l (P ++ [cur]) [], foldl_shift b l ([] ++ [cur]) []]
      simp
    · rw [stp_on c _ h, stp_on c _ h]
      exact foldl_shift c l P (cur ++ [b])
theorem foldl_text (c : UInt8) : ∀ (l : List UInt8) (P : List (List UInt8)) (cur : List UInt8), flatC c (l.foldl (stp c) (P, cur)).1 ++ (l.foldl (stp c) (P, cur)).2 = flatC c P ++ cur ++ l
  | [], P, cur => by simp
  | b :: l, P, cur => by
    simp only [List.foldl_cons]
    by_cases h : b = c
    · subst h
      rw [stp_end, foldl_text b l, flatC_snoc]; simp
    · rw [stp_on c _ h, foldl_text c l]; simp
theorem foldl_all (c : UInt8) : ∀ (l : List UInt8) (P : List (List UInt8)) (cur : List UInt8), (∀ x ∈ P, c ∉ x) → c ∉ cur → (∀ x ∈ (l.foldl (stp c) (P, cur)).1, c ∉ x) ∧ c ∉ (l.foldl (stp c) (P, cur)).2
  | [], P, cur, h1, h2 => ⟨h1, h2⟩
  | b :: l, P, cur, h1, h2 => by
    simp only [List.foldl_cons]
    by_cases h : b = c
    · subst h
      rw [stp_end]
      refine foldl_all b l _ _ (fun x hx => ?_) (by simp)
      rcases List.mem_append.1 hx with hx | hx
      · exact h1 x hx
      · simp at hx; subst hx; exact h2
    · rw [stp_on c _ h]
      refine foldl_all c l _ _ h1 (fun hx => ?_)
      rcases List.mem_append.1 hx with hx | hx
      · exact h2 hx
      · simp at hx; exact h hx.symm
theorem foldl_free (c : UInt8) : ∀ (x : List UInt8) (P : List (List UInt8)) (cur : List UInt8), c ∉ x → x.foldl (stp c) (P, cur) = (P, cur ++ x)
  | [], P, cur, _ => by simp
  | b :: x, P, cur, h => by
    simp only [List.mem_cons, not_or] at h
    simp only [List.foldl_cons]
    rw [stp_on c _ (fun e => h.1 e.symm), foldl_free c x P (cur ++ [b]) h.2]
    simp
theorem foldl_flat (c : UInt8) : ∀ (L P : List (List UInt8)) (r : List UInt8), (∀ x ∈ L, c ∉ x) → c ∉ r → (flatC c L ++ r).foldl (stp c) (P, []) = (P ++ L, r)
  | [], P, r, _, hr => by rw [flatC_nil, List.nil_append, foldl_free c r P [] hr]; simp
  | x :: L, P, r, h, hr => by
    rw [flatC_cons, List.append_assoc, List.foldl_append, foldl_free c x P [] (h x (by simp)), List.cons_append, List.foldl_cons, stp_end]
    dsimp only
    rw [foldl_flat c L _ r (fun y hy => h y (by simp [hy])) hr]
    simp
theorem cutL_text (c : UInt8) (l : List UInt8) : flatC c (cutL c l).1 ++ (cutL c l).2 = l := by have h := foldl_text c l [] []; rw [flatC_nil, List.nil_append, List.nil_append] at h; exact h
theorem cutL_all (c : UInt8) (l : List UInt8) : (∀ x ∈ (cutL c l).1, c ∉ x) ∧ c ∉ (cutL c l).2 := foldl_all c l [] [] (by simp) (by simp)
theorem cutL_flat (c : UInt8) (L : List (List UInt8)) (r : List UInt8) (h : ∀ x ∈ L, c ∉ x) (hr : c ∉ r) : cutL c (flatC c L ++ r) = (L, r) := by
  have e := foldl_flat c L [] r h hr; rw [List.nil_append] at e; exact e
theorem cutL_none (c : UInt8) (l : List UInt8) (h : c ∉ l) : cutL c l = ([], l) := by have e := foldl_free c l [] [] h; rw [List.nil_append] at e; exact e
theorem cutL_first (c : UInt8) (a b : List UInt8) (h : c ∉ a) : cutL c (a ++ c :: b) = (a :: (cutL c b).1, (cutL c b).2) := by
  have e : cutL c (a ++ c :: b) = (a ++ c :: b).foldl (stp c) ([], []) := rfl
  rw [e, List.foldl_append, foldl_free c a [] [] h, List.foldl_cons, stp_end, foldl_shift]
  rfl
theorem pcs_first (c : UInt8) (a b : List UInt8) (h : c ∉ a) : pcs c (a ++ c :: b) = a :: pcs c b := by unfold pcs; rw [cutL_first c a b h]; rfl
theorem pcs_none (c : UInt8) (l : List UInt8) (h : c ∉ l) : pcs c l = [l] := by unfold pcs; rw [cutL_none c l h]; rfl

/-- the first c of a text, or that there is none -/
theorem cut_cases (c : UInt8) : ∀ s : List UInt8, (c ∉ s ∧ Lib.index s [c] = -1) ∨ ∃ a b, s = a ++ c :: b ∧ c ∉ a ∧ Lib.index s [c] = (a.length : Int)
  | [] => .inl ⟨by simp, by simp [Lib.index]⟩
  | x :: s => by
    by_cases h : x = c
    · subst h
      exact .inr ⟨[], s, rfl, by simp, by simp [Lib.index]⟩
    · have h0 : ([c] : List UInt8).isPrefixOf (x :: s) = false := by simp [List.isPrefixOf, Ne.symm h]
      rcases cut_cases c s with ⟨h1, h2⟩ | ⟨a, b, h1, h2, h3⟩
      · exact .inl ⟨by simp [h1, Ne.symm h], by rw [Lib.index, h0, h2]; rfl⟩
      · refine .inr ⟨x :: a, b, by rw [h1]; rfl, by simp [h2, Ne.symm h], ?_⟩
        rw [Lib.index, h0, h3]
        have : ((a.length : Int) == -1) = false := by rw [beq_eq_false_iff_ne]; omega
        rw [this]; simp
theorem index_none (c : UInt8) (s : List UInt8) (h : c ∉ s) : Lib.index s [c] = -1 := by
  rcases cut_cases c s with ⟨_, h2⟩ | ⟨a, b, h1, _, _⟩
  · exact h2
  · exact absurd (by rw [h1]; simp) h
theorem index_at (c : UInt8) (a b : List UInt8) (h : c ∉ a) : Lib.index (a ++ c :: b) [c] = (a.length : Int) := by
  rcases cut_cases c (a ++ c :: b) with ⟨h1, _⟩ | ⟨a', b', h1, h2, h3⟩
  · exact absurd (by simp) h1
  · have : a.length = a'.length := by
      rcases Nat.lt_trichotomy a.length a'.length with hl | hl | hl
      · exfalso
        apply h2
        have e := congrArg (fun l => l[a.length]?) h1
        simp only [List.getElem?_append_right (Nat.le_refl _), Nat.sub_self, List.getElem?_cons_zero, List.getElem?_append_left hl] at e
        exact List.mem_of_getElem? e.symm
      · exact hl
      · exfalso
        apply h
        have e := congrArg (fun l => l[a'.length]?) h1
        simp only [List.getElem?_append_right (Nat.le_refl _), Nat.sub_self, List.getElem?_cons_zero, List.getElem?_append_left hl] at e
        exact List.mem_of_getElem? e
    rw [h3, this]
theorem contains_mem (c : UInt8) (s : List UInt8) : Lib.contains s [c] = decide (c ∈ s) := by
  unfold Lib.contains
  rcases cut_cases c s with ⟨h1, h2⟩ | ⟨a, b, h1, _, h3⟩
  · rw [h2, decide_eq_false h1]; rfl
  · rw [h3, decide_eq_true (p := (0 : Int) ≤ (a.length : Int)) (by omega), decide_eq_true (p := c ∈ s) (by rw [h1]; simp)]
theorem cut_none (c : UInt8) (s : List UInt8) (h : c ∉ s) : Lib.cut s [c] = (s, [], false) := by unfold Lib.cut; rw [index_none c s h, if_neg (by omega)]
theorem cut_at (c : UInt8) (a b : List UInt8) (h : c ∉ a) : Lib.cut (a ++ c :: b) [c] = (a, b, true) := by
  unfold Lib.cut
  rw [index_at c a b h, if_pos (by omega)]
  simp [List.drop_append]
theorem splitK_pcs (c : UInt8) : ∀ (n : Nat) (s : List UInt8), s.length ≤ n → Lib.splitK [c] 0 (Lib.count s [c]) s = pcs c s
  | n, s, hn => by
    rcases cut_cases c s with ⟨h1, h2⟩ | ⟨a, b, h1, h2, h3⟩
    · rw [Lib.count_miss h2, pcs_none c s h1]; rfl
    · have hc := Lib.count_hit (s := s) (sub := [c]) (by simp) h3
      have hd : s.drop (a.length + [c].length) = b := by rw [h1]; simp [List.drop_append]
      rw [hd] at hc
      have ht : s.take (a.length + 0) = a := by rw [h1]; simp
      cases n with
      | zero => rw [h1] at hn; simp at hn
      | succ n =>
        have ih := splitK_pcs c n b (by rw [h1] at hn; simp at hn; omega)
        rw [hc, Nat.add_comm, Lib.splitK, h3]
        have e1 : ((a.length : Int) == -1) = false := by rw [beq_eq_false_iff_ne]; omega
        rw [e1]
        simp only [Bool.false_eq_true, if_false, Int.toNat_natCast, hd, ht, ih]
        rw [h1, pcs_first c a b h2]
theorem joinTail_on (sep : List UInt8) (x : List UInt8) (r : List (List UInt8)) : Lib.joinTail sep (x :: r) = sep ++ Lib.join (x :: r) sep := by rw [Lib.join_cons]; simp [Lib.joinTail]
theorem join_flat (c : UInt8) : ∀ (L : List (List UInt8)) (r : List UInt8), Lib.join (L ++ [r]) [c] = flatC c L ++ r
  | [], r => by rw [List.nil_append, Lib.join_one]; rfl
  | x :: L, r => by
    have ih := join_flat c L r
    rw [List.cons_append, Lib.join_cons, flatC_cons]
    cases h : L ++ [r] with
    | nil => simp at h
    | cons y ys => rw [joinTail_on, ← h, ih]; simp
theorem join_pcs (c : UInt8) (l : List UInt8) : Lib.join (pcs c l) [c] = l := by unfold pcs; rw [join_flat, cutL_text]
theorem pcs_snoc (c : UInt8) (L : List (List UInt8)) (r : List UInt8) (h : ∀ x ∈ L, c ∉ x) (hr : c ∉ r) : pcs c (Lib.join (L ++ [r]) [c]) = L ++ [r] := by
  rw [join_flat]; unfold pcs; rw [cutL_flat c L r h hr]
theorem pcs_join (c : UInt8) (L : List (List UInt8)) (h0 : L ≠ []) (h : ∀ x ∈ L, c ∉ x) : pcs c (Lib.join L [c]) = L := by
  obtain ⟨M, r, rfl⟩ : ∃ M r, L = M ++ [r] := ⟨L.dropLast, L.getLast h0, (List.dropLast_concat_getLast h0).symm⟩
  exact pcs_snoc c M r (fun x hx => h x (by simp [hx])) (h r (by simp))

/-- a note is formed so: a blank right ahead, at most 100 bytes behind, no end of a line among them -/
abbrev noteP (a b : List UInt8) : Prop := a.getLast? = some 32 ∧ b.length ≤ 100 ∧ (10 : UInt8) ∉ b
/-- the program's answer over lists: ahead, the note, noted, formed -/
def noteR (s : List UInt8) : List UInt8 × List UInt8 × Bool × Bool :=
  if (Lib.cut s [59]).2.2 then
    if (Lib.cut s [59]).1.getLast? = some 32 ∧ (Lib.cut s [59]).2.1.length ≤ 100 ∧ (10 : UInt8) ∉ (Lib.cut s [59]).2.1 then ((Lib.cut s [59]).1.dropLast, (Lib.cut s [59]).2.1, true, true) else ([], [], false, false)
  else (s, [], false, true)
theorem noteR_none (s : List UInt8) (h : (59 : UInt8) ∉ s) : noteR s = (s, [], false, true) := by unfold noteR; rw [cut_none 59 s h]; rfl
theorem noteR_good (a b : List UInt8) (h : (59 : UInt8) ∉ a) (hp : noteP a b) : noteR (a ++ 59 :: b) = (a.dropLast, b, true, true) := by
  unfold noteR; rw [cut_at 59 a b h]; exact if_pos hp
theorem noteR_bad (a b : List UInt8) (h : (59 : UInt8) ∉ a) (hp : ¬ noteP a b) : noteR (a ++ 59 :: b) = ([], [], false, false) := by
  unfold noteR; rw [cut_at 59 a b h]; exact if_neg hp
end Ln
end Go.Proofs.YtgdegbmakbfaaaaDoor
