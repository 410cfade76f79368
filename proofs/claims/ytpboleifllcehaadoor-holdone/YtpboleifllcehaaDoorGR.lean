/- A region that draws its order, by an invariant over what has come up: each operation is walked once, whatever the order. No conditions. -/
import Derived.Test.YtpboleifllcehaaDoorNA
import Derived.OrdersHeld
namespace Go.Proofs.YtpboleifllcehaaDoor
open Go.RowKit Go.PlainAid
set_option linter.unusedVariables false
set_option linter.unusedSimpArgs false

/-- one more has come up -/
def putL (L : Nat → Bool) (i : Nat) : Nat → Bool := fun j => if j = i then true else L j
theorem putL_self (L : Nat → Bool) (i : Nat) : putL L i i = true := if_pos rfl
theorem putL_ne {L : Nat → Bool} {i j : Nat} (h : j ≠ i) : putL L i j = L j := if_neg h
theorem putL_mono {L : Nat → Bool} {i j : Nat} (h : L j = true) : putL L i j = true := by unfold putL; split <;> simp_all
/-- those that must have come up ahead of each one: by an edge, or ahead of one that an edge leads to; all edges lead back -/
def ancB (ops : Array Oper) (anc : List (List Nat)) : Bool :=
  (List.range ops.size).all fun i => ((ops[i]?).map fun o =>
    ((anc.getD i []).all fun j => o.after.any fun e => Region.binds .any e && (e.on == j || (anc.getD e.on []).contains j)) &&
    o.after.all fun e => !Region.binds .any e || decide (e.on < i)).getD false
theorem anc_spec {ops : Array Oper} {anc : List (List Nat)} (h : ancB ops anc = true) {i : Nat} {o : Oper} (hi : ops[i]? = some o) :
    (∀ j ∈ anc.getD i [], ∃ e ∈ o.after, Region.binds .any e = true ∧ (e.on = j ∨ j ∈ anc.getD e.on [])) ∧ ∀ e ∈ o.after, Region.binds .any e = true → e.on < i := by
  have hlt : i < ops.size := (Array.getElem?_eq_some_iff.1 hi).1
  have h1 := List.all_eq_true.1 h i (List.mem_range.2 hlt)
  simp only [hi, Option.map_some, Option.getD_some, Bool.and_eq_true] at h1
  obtain ⟨h1, h2⟩ := h1
  refine ⟨fun j hj => ?_, fun e he hb => ?_⟩
  · have h3 := List.all_eq_true.1 h1 j hj
    rw [Array.any_eq_true'] at h3
    obtain ⟨e, he, h3⟩ := h3
    simp only [Bool.and_eq_true, Bool.or_eq_true, beq_iff_eq, List.contains_iff_mem] at h3
    exact ⟨e, he, h3.1, h3.2⟩
  · have h3 := (Array.all_eq_true_iff_forall_mem.1 h2) e he
    rw [hb] at h3
    simpa using h3
def unlB (n : Nat) (L : Nat → Bool) : Nat := ((List.range n).filter fun k => !L k).length
theorem unl_put {n i : Nat} {L : Nat → Bool} (hi : i < n) (h : L i = false) : unlB n (putL L i) < unlB n L := by
  unfold unlB
  have e : (List.range n).filter (fun k => !putL L i k) = ((List.range n).filter fun k => !L k).filter (fun k => !putL L i k) := by
    rw [List.filter_filter]
    refine List.filter_congr fun k _ => ?_
    unfold putL
    by_cases c : k = i
    · simp [c]
    · simp [c]
  rw [e]
  refine List.length_filter_lt_length_iff_exists.2 ⟨i, ?_, ?_⟩
  · rw [List.mem_filter, List.mem_range, h]; exact ⟨hi, rfl⟩
  · rw [putL_self]; simp
theorem unl_zero {n : Nat} {L : Nat → Bool} (h : unlB n L = 0) : ∀ i, i < n → L i = true := by
  intro i hi
  unfold unlB at h
  rw [List.length_eq_zero_iff, List.filter_eq_nil_iff] at h
  have := h i (List.mem_range.2 hi)
  simpa using this
def lstOf (listed : Array Bool) : Nat → Bool := fun i => listed.getD i false
theorem lst_set {listed : Array Bool} {i : Nat} (hi : i < listed.size) : lstOf (listed.setIfInBounds i true) = putL (lstOf listed) i := by
  funext j
  unfold lstOf putL
  by_cases c : j = i
  · subst c; rw [if_pos rfl]; simp [hi]
  · rw [if_neg c, getD_set_ne false (fun e => c e.symm)]
section
variable {P : Program} {ops : Array Oper} {Q : Exit → Act → World → Prop}
theorem ready_all {anc : List (List Nat)} (hd : ancB ops anc = true) {listed : Array Bool} (hs : listed.size = ops.size) (h : Region.ready .any ops listed = []) : ∀ i, i < ops.size → lstOf listed i = true := by
  intro i
  induction i using Nat.strongRecOn with
  | ind i ih =>
    intro hi
    cases hc : lstOf listed i
    · exfalso
      have hm : i ∈ Region.ready .any ops listed := by
        refine mem_ready.2 ⟨?_, ops[i], Array.getElem?_eq_getElem hi, fun e he hb => ?_⟩
        · unfold lstOf at hc
          have h1 : i < listed.size := by omega
          simp [h1] at hc ⊢
          exact hc
        · have hlt := (anc_spec hd (Array.getElem?_eq_getElem hi)).2 e he hb
          exact ih e.on hlt (by omega)
      rw [h] at hm
      cases hm
    · rfl
theorem wpAny_inv {anc : List (List Nat)} (hd : ancB ops anc = true) (I : (Nat → Bool) → Act → World → Prop)
    (hstep : ∀ i, i < ops.size → ∀ L a w, I L a w → L i = false → (∀ k, L k = true → ∀ j ∈ anc.getD k [], L j = true) → (∀ j ∈ anc.getD i [], L j = true) → wpOp P ops Q i (fun a' w' => I (putL L i) a' w') a w)
    (hend : ∀ L a w, (∀ i, i < ops.size → L i = true) → I L a w → Q .normal a w) :
    ∀ (fuel : Nat) (listed : Array Bool) (a : Act) (w : World), listed.size = ops.size → unlB ops.size (lstOf listed) ≤ fuel → (∀ k, lstOf listed k = true → ∀ j ∈ anc.getD k [], lstOf listed j = true) → I (lstOf listed) a w → wpAny P .any ops Q fuel listed a w := by
  intro fuel
  induction fuel with
  | zero =>
    intro listed a w hs hu _ hI
    have hall := unl_zero (Nat.le_zero.1 hu)
    refine ⟨?_, hend _ a w hall hI⟩
    refine List.eq_nil_iff_forall_not_mem.2 fun i hi => ?_
    obtain ⟨h1, o, ho, _⟩ := mem_ready.1 hi
    have hlt : i < ops.size := (Array.getElem?_eq_some_iff.1 ho).1
    have h2 := hall i hlt
    unfold lstOf at h2
    have h3 : i < listed.size := by omega
    simp [h3] at h1 h2
    rw [h1] at h2; cases h2
  | succ fuel ih =>
    intro listed a w hs hu hcl hI
    refine ⟨fun h0 => hend _ a w (ready_all hd hs h0) hI, fun i hi => ?_⟩
    obtain ⟨h1, o, ho, hall⟩ := mem_ready.1 hi
    have hlt : i < ops.size := (Array.getElem?_eq_some_iff.1 ho).1
    have hLi : lstOf listed i = false := by
      unfold lstOf
      have h3 : i < listed.size := by omega
      simp [h3] at h1 ⊢
      exact h1
    have hanc : ∀ j ∈ anc.getD i [], lstOf listed j = true := fun j hj => by
      obtain ⟨e, he, hb, h⟩ := (anc_spec hd ho).1 j hj
      have hon : lstOf listed e.on = true := hall e he hb
      rcases h with h | h
      · rw [← h]; exact hon
      · exact hcl _ hon j h
    refine wpOp_mono (fun a' w' hI' => ih _ a' w' (by simpa using hs) ?_ ?_ ?_) (hstep i hlt _ a w hI hLi hcl hanc)
    · rw [lst_set (by omega)]
      have := unl_put hlt hLi
      omega
    · rw [lst_set (by omega)]
      intro k hk j hj
      unfold putL at hk
      by_cases c : k = i
      · subst c; exact putL_mono (hanc j hj)
      · rw [if_neg c] at hk; exact putL_mono (hcl k hk j hj)
    · rw [lst_set (by omega)]; exact hI'
/-- A REGION THAT DRAWS ITS ORDER: what holds of whatever has come up -/
theorem wp_region_inv {id : Nat} {a : Act} {w : World} (hm : P.follows .mixedOrders = true) (anc : List (List Nat)) (hd : ancB ops anc = true) (I : (Nat → Bool) → Act → World → Prop)
    (h0 : I (fun _ => false) a { w with drawn := w.drawn + 1 })
    (hstep : ∀ i, i < ops.size → ∀ L a w, I L a w → L i = false → (∀ k, L k = true → ∀ j ∈ anc.getD k [], L j = true) → (∀ j ∈ anc.getD i [], L j = true) → wpOp P ops Q i (fun a' w' => I (putL L i) a' w') a w)
    (hend : ∀ L a w, (∀ i, i < ops.size → L i = true) → I L a w → Q .normal a w) : (Code.region id ops true).wp P Q a w := by
  refine wp_region_any hm (wpAny_inv hd I hstep hend _ _ _ _ (by simp) ?_ ?_ ?_)
  · unfold unlB
    have := List.length_filter_le (fun k => !lstOf (Array.replicate ops.size false) k) (List.range ops.size)
    rw [List.length_range] at this
    exact this
  · intro k hk
    exfalso
    unfold lstOf at hk
    by_cases c : k < ops.size <;> simp [c] at hk
  · have e : lstOf (Array.replicate ops.size false) = fun _ => false := by
      funext k
      unfold lstOf
      by_cases c : k < ops.size <;> simp [c]
    rw [e]; exact h0
end
end Go.Proofs.YtpboleifllcehaaDoor
