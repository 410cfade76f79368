/- Queues and stacks as rows: plain mathematics. No conditions. -/
import Derived.Test.YthgafmhpajikdaaDoorUM
namespace Go.Proofs.YthgafmhpajikdaaDoor
open Go.RowKit Go.PlainAid Ln Go.Sort
set_option linter.unusedVariables false
set_option linter.unusedSimpArgs false

/-- the last of a row -/
def lastV (l : List Val) : Val := nv l (l.length - 1)
/-- what waits behind one deed more -/
def popQ (m : Int) (l : List Val) : List Val := if m = 6 then l.take (l.length - 1) else l.drop 1
def nxQ (m : Int) (l : List Val) (d : Dd) : List Val := if d.o = 9 then l ++ [nv d.a 0] else if d.o = 10 then popQ m l else l
theorem nxQ_9 {m : Int} {l : List Val} {d : Dd} (h : d.o = 9) : nxQ m l d = l ++ [nv d.a 0] := if_pos h
theorem nxQ_10 {m : Int} {l : List Val} {d : Dd} (h : d.o = 10) : nxQ m l d = popQ m l := by unfold nxQ; rw [if_neg (by omega), if_pos h]
/-- .. behind all that was done -/
def keptQ (m : Int) (past : List Dd) : List Val := past.foldl (nxQ m) []
theorem keptQ_nil (m : Int) : keptQ m [] = [] := rfl
theorem keptQ_snoc (m : Int) (past : List Dd) (d : Dd) : keptQ m (past ++ [d]) = nxQ m (keptQ m past) d := by unfold keptQ; rw [List.foldl_append]; rfl
/-- what comes out of a pop; of a deed -/
def topQ (m : Int) (l : List Val) : Val := if l = [] then noV else if m = 6 then lastV l else nv l 0
def outQ (m : Int) (l : List Val) (d : Dd) : List Val := if d.o = 10 then [topQ m l] else []
theorem popQ_len (m : Int) (l : List Val) : (popQ m l).length ≤ l.length := by unfold popQ; split <;> simp
theorem nxQ_len (m : Int) (l : List Val) (d : Dd) : (nxQ m l d).length ≤ l.length + 1 := by
  unfold nxQ
  split
  · simp
  · split
    · have := popQ_len m l; omega
    · omega
theorem snoc_list {α : Type} {p : List α → Prop} (h0 : p []) (h1 : ∀ l a, p l → p (l ++ [a])) : ∀ l, p l := by
  have key : ∀ n, ∀ l : List α, l.length = n → p l := by
    intro n
    induction n with
    | zero => intro l h; rw [List.length_eq_zero_iff] at h; subst h; exact h0
    | succ n ih =>
      intro l h
      have hne : l ≠ [] := fun e => by rw [e] at h; simp at h
      rw [← List.dropLast_concat_getLast hne]
      exact h1 _ _ (ih _ (by rw [List.length_dropLast, h]; rfl))
  exact fun l => key _ l rfl
theorem keptQ_len (m : Int) (past : List Dd) : (keptQ m past).length ≤ past.length := by
  refine snoc_list (p := fun past => (keptQ m past).length ≤ past.length) (Nat.le_refl _) (fun l d ih => ?_) past
  rw [keptQ_snoc, List.length_append]
  have := nxQ_len m (keptQ m l) d
  simp; omega

/-! ### the document's marks: which push each pop takes -/
/-- the i-th deed -/
def dq (past : List Dd) (i : Nat) : Dd := past.getD i ⟨noV, 0, []⟩
theorem dq_eq (past : List Dd) (i : Nat) (h : i < past.length) : dq past i = past[i] := by unfold dq; simp [h]
/-- is the k-th deed a push that no mark is on? -/
def openK (past : List Dd) (g : Nat → Bool) (k : Nat) : Bool := decide ((dq past k).o = 9) && !g k
/-- those below i, in order -/
def idxQ (past : List Dd) (g : Nat → Bool) (i : Nat) : List Nat := (List.range i).filter (openK past g)
/-- the place that the document looks for, behind the first k: none is -1 -/
def atQ (m : Int) (past : List Dd) (g : Nat → Bool) : Nat → Int
  | 0 => -1
  | k + 1 => if openK past g k = true ∧ (m = 6 ∨ atQ m past g k < 0) then (k : Int) else atQ m past g k
/-- the marks behind the first i deeds -/
def marksQ (m : Int) (past : List Dd) : Nat → Nat → Bool
  | 0 => fun _ => false
  | i + 1 => fun k => if (dq past i).o = 10 ∧ atQ m past (marksQ m past i) i = (k : Int) then true else marksQ m past i k
theorem idxQ_succ (past : List Dd) (g : Nat → Bool) (i : Nat) : idxQ past g (i + 1) = if openK past g i = true then idxQ past g i ++ [i] else idxQ past g i := by
  unfold idxQ
  rw [List.range_succ, List.filter_append]
  cases h : openK past g i <;> simp [h]
theorem idxQ_lt {past : List Dd} {g : Nat → Bool} {i k : Nat} (h : k ∈ idxQ past g i) : k < i := by
  unfold idxQ at h
  exact List.mem_range.1 (List.mem_filter.1 h).1
theorem idxQ_nodup (past : List Dd) (g : Nat → Bool) (i : Nat) : (idxQ past g i).Nodup := List.nodup_range.filter _
/-- of a stack it is the last one, of a queue the first one -/
theorem atQ_idx (m : Int) (past : List Dd) (g : Nat → Bool) : ∀ i, (idxQ past g i = [] ∧ atQ m past g i = -1) ∨ ∃ k : Nat, atQ m past g i = (k : Int) ∧ k < i ∧ ∃ a b, idxQ past g i = a ++ [k] ++ b ∧ (if m = 6 then b = [] else a = [])
  | 0 => .inl ⟨rfl, rfl⟩
  | i + 1 => by
    rw [idxQ_succ]
    unfold atQ
    rcases atQ_idx m past g i with ⟨h1, h2⟩ | ⟨k, hk, hki, a, b, e, hab⟩
    · cases ho : openK past g i
      · rw [if_neg (by simp), if_neg (by simp)]; exact .inl ⟨h1, h2⟩
      · rw [if_pos rfl, if_pos ⟨rfl, .inr (by omega)⟩, h1]
        exact .inr ⟨i, rfl, by omega, [], [], rfl, by split <;> rfl⟩
    · cases ho : openK past g i
      · rw [if_neg (by simp), if_neg (by simp)]; exact .inr ⟨k, hk, by omega, a, b, e, hab⟩
      · by_cases hm : m = 6
        · rw [if_pos rfl, if_pos ⟨rfl, .inl hm⟩]
          exact .inr ⟨i, rfl, by omega, idxQ past g i, [], by simp, by rw [if_pos hm]⟩
        · rw [if_pos rfl, if_neg (fun h => h.2.elim hm (fun h => by omega))]
          rw [if_neg hm] at hab
          exact .inr ⟨k, hk, by omega, a, b ++ [i], by rw [e]; simp, by rw [if_neg hm]; exact hab⟩
theorem marksQ_ge (m : Int) (past : List Dd) : ∀ i k, i ≤ k → marksQ m past i k = false
  | 0, _, _ => rfl
  | i + 1, k, h => by
    unfold marksQ
    rw [if_neg, marksQ_ge m past i k (by omega)]
    rintro ⟨_, h2⟩
    rcases atQ_idx m past (marksQ m past i) i with ⟨_, e⟩ | ⟨j, e, hj, _⟩ <;> omega
/-- what is handed in with the pushes at these places -/
def valsQ (past : List Dd) (ks : List Nat) : List Val := ks.map fun k => nv (dq past k).a 0
theorem filter_off {ks a b : List Nat} {k : Nat} (hn : ks.Nodup) (e : ks = a ++ [k] ++ b) : ks.filter (fun j => decide (j ≠ k)) = a ++ b := by
  subst e
  rw [List.append_assoc, List.nodup_append] at hn
  obtain ⟨_, hb, hd⟩ := hn
  have hb' : k ∉ b := (List.nodup_cons.1 hb).1
  rw [List.filter_append, List.filter_append]
  have ea : a.filter (fun y => decide (y ≠ k)) = a := List.filter_eq_self.2 fun x hx => decide_eq_true (hd x hx k (List.mem_append_left _ (List.mem_singleton.2 rfl)))
  have eb : b.filter (fun y => decide (y ≠ k)) = b := List.filter_eq_self.2 fun x hx => decide_eq_true (fun e => hb' (e ▸ hx))
  have ev : [k].filter (fun y => decide (y ≠ k)) = [] := by simp
  rw [ea, eb, ev, List.append_nil]
theorem idxQ_congr {past : List Dd} {g g' : Nat → Bool} {i : Nat} (h : ∀ k, k < i → g k = g' k) : idxQ past g i = idxQ past g' i := by
  unfold idxQ
  refine List.filter_congr fun k hk => ?_
  unfold openK
  rw [h k (List.mem_range.1 hk)]
/-- one mark more -/
theorem idxQ_mark {past : List Dd} {g g' : Nat → Bool} {i k : Nat} (h : ∀ j, g' j = if j = k then true else g j) : idxQ past g' i = (idxQ past g i).filter (fun j => decide (j ≠ k)) := by
  unfold idxQ
  rw [List.filter_filter]
  refine List.filter_congr fun j _ => ?_
  unfold openK
  rw [h j]
  by_cases e : j = k
  · rw [if_pos e]; simp [e]
  · rw [if_neg e]; simp [e]
/-- the pushes that aren't taken are what waits -/
theorem idx_kept (m : Int) (past : List Dd) : ∀ i, i ≤ past.length → valsQ past (idxQ past (marksQ m past i) i) = keptQ m (past.take i)
  | 0, _ => rfl
  | i + 1, hi => by
    have ih := idx_kept m past i (by omega)
    have e1 : past.take (i + 1) = past.take i ++ [dq past i] := by rw [dq_eq past i (by omega), List.take_succ_eq_append_getElem (by omega)]
    rw [e1, keptQ_snoc, ← ih, idxQ_succ]
    have hgi := marksQ_ge m past (i + 1)
    by_cases h10 : (dq past i).o = 10
    · have ho : openK past (marksQ m past (i + 1)) i = false := by unfold openK; rw [decide_eq_false (by omega)]; rfl
      rw [ho, if_neg (by decide), nxQ_10 h10]
      rcases atQ_idx m past (marksQ m past i) i with ⟨h1, h2⟩ | ⟨k, hk, hki, a, b, e, hab⟩
      · have e2 : idxQ past (marksQ m past (i + 1)) i = idxQ past (marksQ m past i) i := idxQ_congr fun k hk => by
          show (if _ then _ else _) = _
          rw [if_neg]
          rintro ⟨_, h3⟩
          omega
        rw [e2, h1]
        unfold valsQ popQ
        split <;> rfl
      · have e2 : idxQ past (marksQ m past (i + 1)) i = (idxQ past (marksQ m past i) i).filter (fun j => decide (j ≠ k)) := idxQ_mark fun j => by
          show (if _ then _ else _) = _
          by_cases hj : j = k
          · rw [if_pos ⟨h10, by omega⟩, if_pos hj]
          · rw [if_neg (fun h => hj (by omega)), if_neg hj]
        rw [e2, filter_off (idxQ_nodup _ _ _) e, e]
        unfold valsQ popQ
        by_cases hm : m = 6
        · rw [if_pos hm] at hab ⊢
          subst hab
          simp
        · rw [if_neg hm] at hab ⊢
          subst hab
          simp
    · have e2 : idxQ past (marksQ m past (i + 1)) i = idxQ past (marksQ m past i) i := idxQ_congr fun k hk => by
        show (if _ then _ else _) = _
        rw [if_neg (fun h => h10 h.1)]
      rw [e2]
      by_cases h9 : (dq past i).o = 9
      · have ho : openK past (marksQ m past (i + 1)) i = true := by
          unfold openK
          have : marksQ m past (i + 1) i = marksQ m past i i := by
            show (if _ then _ else _) = _
            rw [if_neg (fun h => h10 h.1)]
          rw [this, marksQ_ge m past i i (Nat.le_refl _), decide_eq_true h9]; rfl
        rw [ho, if_pos rfl, nxQ_9 h9]
        unfold valsQ
        rw [List.map_append]; rfl
      · have ho : openK past (marksQ m past (i + 1)) i = false := by unfold openK; rw [decide_eq_false h9]; rfl
        rw [ho, if_neg (by decide)]
        unfold nxQ
        rw [if_neg h9, if_neg h10]
/-- what the document's last loop gathers -/
theorem left_kept (m : Int) (past : List Dd) : valsQ past (idxQ past (marksQ m past past.length) past.length) = keptQ m past := by
  rw [idx_kept m past past.length (Nat.le_refl _), List.take_length]
end Go.Proofs.YthgafmhpajikdaaDoor
