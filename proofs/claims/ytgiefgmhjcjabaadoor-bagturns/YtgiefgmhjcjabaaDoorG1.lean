/- Where a value stands in a set: plain mathematics. No conditions. -/
import Derived.Test.YtgiefgmhjcjabaaDoorGM
namespace Go.Proofs.YtgiefgmhjcjabaaDoor
open Go.RowKit Go.PlainAid Ln Go.Sort
set_option linter.unusedVariables false
set_option linter.unusedSimpArgs false

/-- k of them are ahead of it, the others aren't -/
def PosB (l : List Val) (v : Val) (k : Nat) : Prop := k ≤ l.length ∧ (∀ i, i < k → cv (nv l i) v < 0) ∧ ∀ i, k ≤ i → i < l.length → ¬ cv (nv l i) v < 0
/-- does it stand there? -/
def hitB (l : List Val) (v : Val) (k : Nat) : Bool := decide (k < l.length) && decide (cv (nv l k) v = 0)
theorem hit_split {l : List Val} {v : Val} {k : Nat} (h : hitB l v k = true) : k < l.length ∧ nv l k = v ∧ l = l.take k ++ [v] ++ l.drop (k + 1) := by
  unfold hitB at h
  rw [Bool.and_eq_true, decide_eq_true_iff, decide_eq_true_iff] at h
  obtain ⟨h1, h2⟩ := h
  have h2 := (good_cv.2.2.1 _ _).1 h2
  refine ⟨h1, h2, ?_⟩
  have e : l.drop k = v :: l.drop (k + 1) := by rw [List.drop_eq_getElem_cons h1, ← nv_eq l k h1, h2]
  rw [List.append_assoc]
  show l = l.take k ++ (v :: l.drop (k + 1))
  rw [← e, List.take_append_drop]
theorem hit_in {l : List Val} {v : Val} {k : Nat} (h : hitB l v k = true) : inB v l = true := by
  obtain ⟨h1, h2, _⟩ := hit_split h
  rw [inB_iff, ← h2, nv_eq l k h1]
  exact List.getElem_mem _
theorem hit_add {l : List Val} {v : Val} {k : Nat} (h : hitB l v k = true) : addB v l = l.take k ++ [v] ++ l.drop (k + 1) := by
  unfold addB
  rw [if_pos (hit_in h)]
  exact (hit_split h).2.2
theorem hit_del {l : List Val} {v : Val} {k : Nat} (hs : Srt l) (h : hitB l v k = true) : delB v l = l.take k ++ l.drop (k + 1) := by
  have e := (hit_split h).2.2
  have hn := hs.nodup
  unfold delB
  generalize l.take k = a at *
  generalize l.drop (k + 1) = b at *
  subst e
  rw [List.append_assoc, List.nodup_append] at hn
  obtain ⟨_, hb, hd⟩ := hn
  have hb' : v ∉ b := (List.nodup_cons.1 hb).1
  rw [List.filter_append, List.filter_append]
  have ea : a.filter (fun y => decide (y ≠ v)) = a := List.filter_eq_self.2 fun x hx => decide_eq_true (hd x hx v (List.mem_append_left _ (List.mem_singleton.2 rfl)))
  have eb : b.filter (fun y => decide (y ≠ v)) = b := List.filter_eq_self.2 fun x hx => decide_eq_true (fun e => hb' (e ▸ hx))
  have ev : [v].filter (fun y => decide (y ≠ v)) = [] := by simp
  rw [ea, eb, ev, List.append_nil]
theorem miss_in {l : List Val} {v : Val} {k : Nat} (hs : Srt l) (hk : PosB l v k) (h : hitB l v k = false) : inB v l = false := by
  rw [Bool.eq_false_iff]
  intro hi
  rw [inB_iff] at hi
  obtain ⟨i, hil, e⟩ := List.getElem_of_mem hi
  rw [← nv_eq l i hil] at e
  have e0 : cv (nv l i) v = 0 := (good_cv.2.2.1 _ _).2 e
  obtain ⟨k0, k1, k2⟩ := hk
  by_cases c : i < k
  · have := k1 i c; omega
  · by_cases c2 : i = k
    · subst c2
      unfold hitB at h
      rw [decide_eq_true hil, decide_eq_true e0] at h
      cases h
    · have hlt : ltV (nv l k) (nv l i) = true := by
        have := List.pairwise_iff_getElem.1 hs k i (by omega) hil (by omega)
        rw [← nv_eq l k (by omega), ← nv_eq l i hil] at this
        exact this
      rw [e, lt_cv] at hlt
      exact k2 k (Nat.le_refl _) (by omega) hlt
theorem miss_pos {l : List Val} {v : Val} {k : Nat} (hs : Srt l) (hk : PosB l v k) (h : inB v l = false) : posK v l l.length = k := by
  have hx : v ∉ l := fun e => by rw [inB_iff.2 e] at h; cases h
  obtain ⟨p1, p2⟩ := posK_split hs hx l.length (Nat.le_refl _)
  have hle := posK_le v l l.length
  obtain ⟨k0, k1, k2⟩ := hk
  generalize posK v l l.length = p at *
  rcases Nat.lt_trichotomy p k with c | c | c
  · have a := lt_cv.2 (k1 p c)
    have b := p2 p (Nat.le_refl _) (by omega)
    rw [lt_asym a] at b; cases b
  · exact c
  · have a := lt_cv.1 (p1 k c)
    exact absurd a (k2 k (Nat.le_refl _) (by omega))
theorem miss_add {l : List Val} {v : Val} {k : Nat} (hs : Srt l) (hk : PosB l v k) (h : hitB l v k = false) : addB v l = l.take k ++ [v] ++ l.drop k := by
  have hi := miss_in hs hk h
  unfold addB
  rw [hi, if_neg (by decide)]
  unfold insL
  rw [miss_pos hs hk hi]
theorem miss_del {l : List Val} {v : Val} {k : Nat} (hs : Srt l) (hk : PosB l v k) (h : hitB l v k = false) : delB v l = l.take k ++ l.drop k := by
  have hi := miss_in hs hk h
  rw [List.take_append_drop]
  unfold delB
  refine List.filter_eq_self.2 fun x hx => decide_eq_true fun e => ?_
  rw [inB_iff.2 (e ▸ hx)] at hi; cases hi
end Go.Proofs.YtgiefgmhjcjabaaDoor
