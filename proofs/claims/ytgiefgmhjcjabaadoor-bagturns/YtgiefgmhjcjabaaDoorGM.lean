/- Sets as rows in order, each value once: plain mathematics. No conditions. -/
import Derived.Test.YtgiefgmhjcjabaaDoorVW
import Derived.Test.YtgiefgmhjcjabaaDoorUM
namespace Go.Proofs.YtgiefgmhjcjabaaDoor
open Go.RowKit Go.PlainAid Ln Go.Sort
set_option linter.unusedVariables false
set_option linter.unusedSimpArgs false

/-! ### the order -/
theorem lt_cv {x y : Val} : ltV x y = true ↔ cv x y < 0 := by rw [ltV_cv, decide_eq_true_iff]
theorem lt_trans3 {x y z : Val} (h : ltV x y = true) (k : ltV y z = true) : ltV x z = true := by
  rw [lt_cv] at *
  have t := good_cv.2.2.2 x y z (by omega) (by omega)
  rcases Int.lt_or_lt_of_ne (a := cv x z) (b := 0) (fun e => by
    have e2 := (good_cv.2.2.1 x z).1 e
    subst e2
    have := good_cv.2.1 x y
    omega) with h | h
  · exact h
  · omega
theorem lt_asym {x y : Val} (h : ltV x y = true) : ltV y x = false := by
  rw [Bool.eq_false_iff]
  intro k
  rw [lt_cv] at *
  have := good_cv.2.1 x y
  omega
theorem lt_ne {x y : Val} (h : ltV x y = true) : x ≠ y := by
  rintro rfl
  have := lt_asym h
  rw [h] at this; cases this
theorem lt_total {x y : Val} (h : x ≠ y) : ltV x y = true ∨ ltV y x = true := by
  have a := good_cv.2.1 x y
  have b : cv x y ≠ 0 := fun e => h ((good_cv.2.2.1 x y).1 e)
  rcases Int.lt_or_lt_of_ne b with k | k
  · exact .inl (lt_cv.2 k)
  · exact .inr (lt_cv.2 (by omega))
theorem ge_lt {x y : Val} (h : ltV x y = false) (hn : x ≠ y) : ltV y x = true := by
  rcases lt_total hn with k | k
  · rw [h] at k; cases k
  · exact k

/-! ### rows in order, each value once -/
def Srt (l : List Val) : Prop := l.Pairwise fun a b => ltV a b = true
theorem srt_nil : Srt [] := List.Pairwise.nil
theorem Srt.nodup {l : List Val} (h : Srt l) : l.Nodup := h.imp fun h => lt_ne h
/-- what is in it says all -/
theorem srt_one {a b : List Val} (ha : Srt a) (hb : Srt b) (h : ∀ x, x ∈ a ↔ x ∈ b) : a = b :=
  List.Perm.eq_of_pairwise (le := fun a b => ltV a b = true) (fun a b _ _ h k => by rw [lt_asym h] at k; cases k) ha hb ((List.perm_ext_iff_of_nodup ha.nodup hb.nodup).2 h)
theorem insL_mem (x y : Val) (l : List Val) : y ∈ insL x l ↔ y = x ∨ y ∈ l := by
  unfold insL
  generalize posK x l l.length = p
  have h : y ∈ l ↔ y ∈ l.take p ∨ y ∈ l.drop p := by rw [← List.mem_append, List.take_append_drop]
  rw [h, List.mem_append, List.mem_append, List.mem_singleton]
  constructor
  · rintro ((h | h) | h)
    · exact .inr (.inl h)
    · exact .inl h
    · exact .inr (.inr h)
  · rintro (h | h | h)
    · exact .inl (.inr h)
    · exact .inl (.inl h)
    · exact .inr h
theorem posK_split {x : Val} {l : List Val} (hs : Srt l) (hx : x ∉ l) : ∀ k, k ≤ l.length → (∀ i, i < posK x l k → ltV (nv l i) x = true) ∧ (∀ i, posK x l k ≤ i → i < k → ltV x (nv l i) = true)
  | 0, _ => ⟨fun i h => absurd h (Nat.not_lt_zero _), fun i _ h => absurd h (Nat.not_lt_zero _)⟩
  | k + 1, hk => by
    have hkm : nv l k ∈ l := by rw [nv_eq l k (by omega)]; exact List.getElem_mem _
    cases h : ltV x (nv l k)
    · rw [posK_stop h]
      refine ⟨fun i hi => ?_, fun i h1 h2 => by omega⟩
      have hkx := ge_lt h (fun e => hx (e ▸ hkm))
      by_cases e : i = k
      · subst e; exact hkx
      · have hp := List.pairwise_iff_getElem.1 hs i k (by omega) (by omega) (by omega)
        rw [← nv_eq l i (by omega), ← nv_eq l k (by omega)] at hp
        exact lt_trans3 hp hkx
    · rw [posK_less h]
      obtain ⟨ih1, ih2⟩ := posK_split hs hx k (by omega)
      refine ⟨ih1, fun i h1 h2 => ?_⟩
      by_cases e : i = k
      · subst e; exact h
      · exact ih2 i h1 (by omega)
theorem insL_srt {x : Val} {l : List Val} (hs : Srt l) (hx : x ∉ l) : Srt (insL x l) := by
  obtain ⟨h1, h2⟩ := posK_split hs hx l.length (Nat.le_refl _)
  have hle := posK_le x l l.length
  unfold insL Srt
  generalize posK x l l.length = p at *
  have ha : ∀ a ∈ l.take p, ltV a x = true := by
    intro a ha
    obtain ⟨i, hi, rfl⟩ := List.getElem_of_mem ha
    have hi' : i < p := by rw [List.length_take] at hi; omega
    have := h1 i hi'
    rw [nv_eq l i (by omega)] at this
    rw [List.getElem_take]; exact this
  have hb : ∀ b ∈ l.drop p, ltV x b = true := by
    intro b hb
    obtain ⟨i, hi, rfl⟩ := List.getElem_of_mem hb
    rw [List.length_drop] at hi
    have := h2 (p + i) (by omega) (by omega)
    rw [nv_eq l (p + i) (by omega)] at this
    rw [List.getElem_drop]; exact this
  rw [List.append_assoc, List.pairwise_append]
  refine ⟨hs.sublist (List.take_sublist _ _), ?_, ?_⟩
  · show (x :: l.drop p).Pairwise _
    rw [List.pairwise_cons]
    exact ⟨hb, hs.sublist (List.drop_sublist _ _)⟩
  · intro a ha' b hb'
    have hb2 : b ∈ x :: l.drop p := hb'
    rcases List.mem_cons.1 hb2 with rfl | h
    · exact ha a ha'
    · exact lt_trans3 (ha a ha') (hb b h)
/-- a row's values in the document's order, each once where it was so -/
theorem srtN_mem (l : List Val) (x : Val) : ∀ k, k ≤ l.length → (x ∈ srtN l k ↔ x ∈ l.take k)
  | 0, _ => by simp [srtN]
  | k + 1, hk => by
    have e : l.take (k + 1) = l.take k ++ [nv l k] := by rw [nv_eq l k (by omega), List.take_succ_eq_append_getElem (by omega)]
    rw [e]
    show x ∈ insL _ _ ↔ _
    rw [insL_mem, srtN_mem l x k (by omega), List.mem_append, List.mem_singleton]
    exact Or.comm
theorem srtN_srt (l : List Val) (hd : l.Nodup) : ∀ k, k ≤ l.length → Srt (srtN l k)
  | 0, _ => srt_nil
  | k + 1, hk => by
    refine insL_srt (srtN_srt l hd k (by omega)) fun h => ?_
    rw [srtN_mem l _ k (by omega)] at h
    obtain ⟨i, hi, e⟩ := List.getElem_of_mem h
    rw [List.length_take] at hi
    rw [List.getElem_take, nv_eq l k (by omega)] at e
    exact (List.pairwise_iff_getElem.1 hd) i k (by omega) (by omega) (by omega) e

/-! ### sets -/
/-- is it among them? -/
def inB (x : Val) (l : List Val) : Bool := l.any fun y => decide (y = x)
theorem inB_iff {x : Val} {l : List Val} : inB x l = true ↔ x ∈ l := by
  unfold inB
  rw [List.any_eq_true]
  exact ⟨fun ⟨y, h, e⟩ => (of_decide_eq_true e) ▸ h, fun h => ⟨x, h, decide_eq_true rfl⟩⟩
/-- a value put in; taken out -/
def addB (x : Val) (l : List Val) : List Val := if inB x l = true then l else insL x l
def delB (x : Val) (l : List Val) : List Val := l.filter fun y => decide (y ≠ x)
theorem addB_srt {x : Val} {l : List Val} (h : Srt l) : Srt (addB x l) := by
  unfold addB
  split
  · exact h
  · rename_i hx; exact insL_srt h (fun e => hx (inB_iff.2 e))
theorem addB_mem (x y : Val) (l : List Val) : y ∈ addB x l ↔ y = x ∨ y ∈ l := by
  unfold addB
  split
  · rename_i hx
    exact ⟨.inr, fun h => h.elim (fun e => e ▸ inB_iff.1 hx) id⟩
  · exact insL_mem x y l
theorem delB_srt {x : Val} {l : List Val} (h : Srt l) : Srt (delB x l) := h.sublist List.filter_sublist
theorem delB_mem (x y : Val) (l : List Val) : y ∈ delB x l ↔ y ∈ l ∧ y ≠ x := by
  unfold delB; rw [List.mem_filter, decide_eq_true_iff]
/-- what is in a set behind one deed more -/
def nxB (l : List Val) (d : Dd) : List Val := if d.o = 4 then addB (nv d.a 0) l else if d.o = 5 then delB (nv d.a 0) l else l
theorem nxB_4 {l : List Val} {d : Dd} (h : d.o = 4) : nxB l d = addB (nv d.a 0) l := if_pos h
theorem nxB_5 {l : List Val} {d : Dd} (h : d.o = 5) : nxB l d = delB (nv d.a 0) l := by unfold nxB; rw [if_neg (by omega), if_pos h]
theorem nxB_o {l : List Val} {d : Dd} (h4 : d.o ≠ 4) (h5 : d.o ≠ 5) : nxB l d = l := by unfold nxB; rw [if_neg h4, if_neg h5]
theorem nxB_srt {l : List Val} (d : Dd) (h : Srt l) : Srt (nxB l d) := by
  unfold nxB
  split
  · exact addB_srt h
  · split
    · exact delB_srt h
    · exact h
/-- .. behind all that was done -/
def keptB (past : List Dd) : List Val := past.foldl nxB []
theorem keptB_nil : keptB [] = [] := rfl
theorem keptB_snoc (past : List Dd) (d : Dd) : keptB (past ++ [d]) = nxB (keptB past) d := by unfold keptB; rw [List.foldl_append]; rfl
theorem list_snoc {α : Type} {p : List α → Prop} (h0 : p []) (h1 : ∀ l a, p l → p (l ++ [a])) : ∀ l, p l := by
  have key : ∀ n, ∀ l : List α, l.length = n → p l := by
    intro n
    induction n with
    | zero => intro l h; rw [List.length_eq_zero_iff] at h; subst h; exact h0
    | succ n ih =>
      intro l h
      have hne : l ≠ [] := fun e => by rw [e] at h; simp at h
      rw [← List.dropLast_concat_getLast hne]
      exact h1 _ _ (ih _ (by rw [List.length_dropLast, h]; rfl))
  exact fun l => key _ l rfl
theorem keptB_srt (past : List Dd) : Srt (keptB past) := by
  refine list_snoc (p := fun past => Srt (keptB past)) srt_nil (fun l a h => ?_) past
  rw [keptB_snoc]; exact nxB_srt a h
/-- what the document says: what was done last with it -/
def hasS (x : Val) (b : Bool) (d : Dd) : Bool := if d.o ≠ 6 ∧ nv d.a 0 = x then decide (d.o = 4) else b
def hasE (past : List Dd) (x : Val) : Bool := past.foldl (hasS x) false
theorem hasE_snoc (past : List Dd) (d : Dd) (x : Val) : hasE (past ++ [d]) x = hasS x (hasE past x) d := by unfold hasE; rw [List.foldl_append]; rfl
/-- of a set there are three things to do -/
def OkB (d : Dd) : Prop := (d.o = 4 ∨ d.o = 5 ∨ d.o = 6) ∧ d.a.length = 1
theorem kept_has (x : Val) (past : List Dd) : (∀ d ∈ past, OkB d) → (x ∈ keptB past ↔ hasE past x = true) := by
  refine list_snoc (p := fun past => (∀ d ∈ past, OkB d) → (x ∈ keptB past ↔ hasE past x = true)) ?_ (fun l d ih hok => ?_) past
  · intro _; rw [keptB_nil]; simp [hasE]
  · have ih := ih fun d hd => hok d (List.mem_append_left _ hd)
    have hd := (hok d (List.mem_append_right _ (List.mem_singleton.2 rfl))).1
    rw [keptB_snoc, hasE_snoc]
    unfold hasS
    rcases hd with h | h | h
    · rw [nxB_4 h, addB_mem]
      by_cases e : nv d.a 0 = x
      · rw [if_pos ⟨by omega, e⟩, decide_eq_true h]; simp [e]
      · rw [if_neg (fun k => e k.2), ← ih]
        exact ⟨fun k => k.elim (fun k => absurd k.symm e) id, .inr⟩
    · rw [nxB_5 h, delB_mem]
      by_cases e : nv d.a 0 = x
      · rw [if_pos ⟨by omega, e⟩, decide_eq_false (by omega)]; simp [e]
      · rw [if_neg (fun k => e k.2), ← ih]
        exact ⟨fun k => k.1, fun k => ⟨k, fun q => e q.symm⟩⟩
    · rw [nxB_o (by omega) (by omega), if_neg (fun k => k.1 h), ← ih]
/-- the document's list: each value that was there, once, if f says that it is there -/
def lsS (f : Val → Bool) (acc : List Val) (d : Dd) : List Val := if inB (nv d.a 0) acc = true ∨ f (nv d.a 0) = false then acc else acc ++ [nv d.a 0]
def lsF (f : Val → Bool) (past : List Dd) : List Val := past.foldl (lsS f) []
theorem lsF_snoc (f : Val → Bool) (past : List Dd) (d : Dd) : lsF f (past ++ [d]) = lsS f (lsF f past) d := by unfold lsF; rw [List.foldl_append]; rfl
theorem lsF_nodup (f : Val → Bool) (past : List Dd) : (lsF f past).Nodup := by
  refine list_snoc (p := fun past => (lsF f past).Nodup) List.nodup_nil (fun l d ih => ?_) past
  rw [lsF_snoc]
  unfold lsS
  split
  · exact ih
  · rename_i h
    rw [List.nodup_append]
    refine ⟨ih, by simp, fun a ha b hb => ?_⟩
    rw [List.mem_singleton] at hb
    subst hb
    exact fun e => h (.inl (inB_iff.2 (e ▸ ha)))
theorem lsF_mem (f : Val → Bool) (x : Val) (past : List Dd) : x ∈ lsF f past ↔ (∃ d ∈ past, nv d.a 0 = x) ∧ f x = true := by
  refine list_snoc (p := fun past => x ∈ lsF f past ↔ (∃ d ∈ past, nv d.a 0 = x) ∧ f x = true) ?_ (fun l d ih => ?_) past
  · simp [lsF]
  · rw [lsF_snoc]
    have e : (∃ d' ∈ l ++ [d], nv d'.a 0 = x) ↔ (∃ d' ∈ l, nv d'.a 0 = x) ∨ nv d.a 0 = x := by
      constructor
      · rintro ⟨d', h1, h2⟩
        rcases List.mem_append.1 h1 with h | h
        · exact .inl ⟨d', h, h2⟩
        · rw [List.mem_singleton] at h; subst h; exact .inr h2
      · rintro (⟨d', h1, h2⟩ | h)
        · exact ⟨d', List.mem_append_left _ h1, h2⟩
        · exact ⟨d, List.mem_append_right _ (List.mem_singleton.2 rfl), h⟩
    rw [e]
    unfold lsS
    split
    · rename_i h
      rw [ih]
      constructor
      · rintro ⟨h1, h2⟩; exact ⟨.inl h1, h2⟩
      · rintro ⟨h1 | h1, h2⟩
        · exact ⟨h1, h2⟩
        · subst h1
          rcases h with h | h
          · exact ih.1 (inB_iff.1 h)
          · rw [h] at h2; cases h2
    · rename_i h
      rw [List.mem_append, List.mem_singleton, ih]
      constructor
      · rintro (⟨h1, h2⟩ | h1)
        · exact ⟨.inl h1, h2⟩
        · subst h1
          refine ⟨.inr rfl, ?_⟩
          cases hf : f (nv d.a 0)
          · exact absurd (.inr hf) h
          · rfl
      · rintro ⟨h1 | h1, h2⟩
        · exact .inl ⟨h1, h2⟩
        · exact .inr h1.symm
theorem has_some (x : Val) (past : List Dd) : hasE past x = true → ∃ d ∈ past, nv d.a 0 = x := by
  refine list_snoc (p := fun past => hasE past x = true → ∃ d ∈ past, nv d.a 0 = x) (fun h => by cases h) (fun l d ih h => ?_) past
  rw [hasE_snoc] at h
  unfold hasS at h
  split at h
  · rename_i k; exact ⟨d, List.mem_append_right _ (List.mem_singleton.2 rfl), k.2⟩
  · obtain ⟨d', h1, h2⟩ := ih h
    exact ⟨d', List.mem_append_left _ h1, h2⟩
/-- the document's state is what is kept -/
theorem state_kept (past : List Dd) (hok : ∀ d ∈ past, OkB d) : srtN (lsF (hasE past) past) (lsF (hasE past) past).length = keptB past := by
  refine srt_one (srtN_srt _ (lsF_nodup _ _) _ (Nat.le_refl _)) (keptB_srt past) fun x => ?_
  rw [srtN_mem _ x _ (Nat.le_refl _), List.take_length, lsF_mem, kept_has x past hok]
  exact ⟨fun h => h.2, fun h => ⟨has_some x past h, h⟩⟩
/-- what comes out of a deed -/
def outB (l : List Val) (d : Dd) : List Val := if d.o = 6 then [yesV (inB (nv d.a 0) l)] else []

/-! ### values put in, in whatever order -/
def addAll (xs : List Val) : List Val := xs.foldl (fun l x => addB x l) []
theorem addAll_snoc (xs : List Val) (x : Val) : addAll (xs ++ [x]) = addB x (addAll xs) := by unfold addAll; rw [List.foldl_append]; rfl
theorem addAll_srt (xs : List Val) : Srt (addAll xs) := by
  refine list_snoc (p := fun xs => Srt (addAll xs)) srt_nil (fun l a h => ?_) xs
  rw [addAll_snoc]; exact addB_srt h
theorem addAll_mem (x : Val) (xs : List Val) : x ∈ addAll xs ↔ x ∈ xs := by
  refine list_snoc (p := fun xs => x ∈ addAll xs ↔ x ∈ xs) (by simp [addAll]) (fun l a h => ?_) xs
  rw [addAll_snoc, addB_mem, h, List.mem_append, List.mem_singleton]
  exact Or.comm
theorem addAll_one {xs ys : List Val} (h : ∀ x, x ∈ xs ↔ x ∈ ys) : addAll xs = addAll ys :=
  srt_one (addAll_srt xs) (addAll_srt ys) fun x => by rw [addAll_mem, addAll_mem, h]
theorem addAll_again {xs : List Val} {x : Val} (h : x ∈ xs) : addB x (addAll xs) = addAll xs := by
  unfold addB; rw [if_pos (inB_iff.2 ((addAll_mem x xs).2 h))]
theorem addAll_out (xs : List Val) (x : Val) : delB x (addAll xs) = addAll (xs.filter fun y => decide (y ≠ x)) :=
  srt_one (delB_srt (addAll_srt xs)) (addAll_srt _) fun y => by rw [delB_mem, addAll_mem, addAll_mem, List.mem_filter, decide_eq_true_iff]
/-- the values from another one on, round about -/
def turn (xs : List Val) (b : Nat) : List Val := (List.range xs.length).map fun i => nv xs ((i + b) % xs.length)
theorem turn_mem (xs : List Val) (b : Nat) (x : Val) : x ∈ turn xs b ↔ x ∈ xs := by
  unfold turn
  rw [List.mem_map]
  constructor
  · rintro ⟨i, hi, rfl⟩
    rw [List.mem_range] at hi
    have : (i + b) % xs.length < xs.length := Nat.mod_lt _ (by omega)
    rw [nv_eq xs _ this]; exact List.getElem_mem _
  · intro h
    obtain ⟨i, hi, rfl⟩ := List.getElem_of_mem h
    refine ⟨(i + (xs.length - b % xs.length)) % xs.length, List.mem_range.2 (Nat.mod_lt _ (by omega)), ?_⟩
    have hb : b % xs.length < xs.length := Nat.mod_lt _ (by omega)
    have e : ((i + (xs.length - b % xs.length)) % xs.length + b) % xs.length = i := by
      rw [Nat.mod_add_mod, ← Nat.add_mod_mod]
      rw [show i + (xs.length - b % xs.length) + b % xs.length = i + xs.length by omega, Nat.add_mod_right, Nat.mod_eq_of_lt hi]
    rw [e, nv_eq xs i hi]
theorem turn_one (xs : List Val) (b : Nat) : addAll (turn xs b) = addAll xs := addAll_one (turn_mem xs b)
end Go.Proofs.YtgiefgmhjcjabaaDoor
