/- Slices of slices of bytes; rows of parts that a call owns, and an append to one. No conditions but sizes. -/
import Derived.Test.YtilfmemfnheppaaDoorTJ
namespace Go.Proofs.YtilfmemfnheppaaDoor
open Go.RowKit Hx
set_option linter.unusedVariables false

/-- nil has no bytes -/
def Nf (v : Value) : Prop := ∀ n c, v = .slice none n c → n = 0 ∧ c = 0

/-- what is cut out of a slice: from lo to hi -/
theorem slice_cut {w : World} {a : Option Addr} {n c : Nat} {xs : List Int} (h : Sl w (.slice a n c) xs) (hn : Nf (.slice a n c)) (lo hi : Nat) (h1 : lo ≤ hi) (h2 : hi ≤ xs.length) :
    Sl w (sliced a lo hi c 1) ((xs.drop lo).take (hi - lo)) ∧ Nf (sliced a lo hi c 1) ∧ (sliced a lo hi c 1).ownBlock = (Value.slice a n c).ownBlock := by
  obtain ⟨a', c', hv, hx, hl, hc, hr⟩ := h
  injection hv with ha hnn hcc
  subst ha hcc hnn
  have hlen : ((xs.drop lo).take (hi - lo)).length = hi - lo := by rw [List.length_take, List.length_drop]; omega
  refine ⟨?_, ?_, ?_⟩
  · refine ⟨if c = lo then a else a.map (·.add (lo * 1)), c - lo, by rw [hlen]; rfl, fun x hx' => hx x (List.mem_of_mem_drop (List.mem_of_mem_take hx')), by omega, by omega, fun h0 => ?_⟩
    rw [hlen] at h0
    obtain ⟨b, off, rfl, hb, hcell⟩ := hr (by omega)
    rw [if_neg (by omega)]
    refine ⟨b, off + lo, ?_, hb, fun i hi' => ?_⟩
    · show some ((⟨b, off, none⟩ : Addr).add (lo * 1)) = _
      rw [Nat.mul_one, Addr.add_mid]
    · rw [hlen] at hi'
      rw [Nat.add_assoc, hcell (lo + i) (by omega)]
      unfold nth
      simp [List.getD, List.getElem?_drop, hi']
  · intro n' c' h
    unfold sliced at h
    injection h with h3 h4 h5
    have ha : a = none := by
      by_cases hcl : c = lo
      · rw [if_pos hcl] at h3; exact h3
      · rw [if_neg hcl] at h3; simpa using h3
    subst ha
    obtain ⟨q1, q2⟩ := hn _ _ rfl
    clear hr hx hn h3
    omega
  · unfold sliced
    cases a with
    | none => simp [Value.ownBlock]
    | some ad =>
      have : ∀ k, (ad.add k).block = ad.block := fun k => by unfold Addr.add; split <;> rfl
      by_cases hcl : c = lo
      · rw [if_pos hcl]; rfl
      · rw [if_neg hcl]; simp [Value.ownBlock, this]

theorem elem25 : Tryd.prog.elem 25 = 5 := by kernel_rfl
theorem und25 : Tryd.prog.underlying 25 = some (.slice (Tryd.prog.elem 25)) := by kernel_rfl
theorem run_cut_h (k : IntKind) (a : Option Addr) (n c m : Nat) (hm : m ≤ c) (w : World) : (Instr.sliceAt 25 (.slice a n c) none (some (.int k (m : Int))) none).run Tryd.prog w = .ok (sliced a 0 m c 1) w := by
  rw [run_sliceAt_slice w 25 _ _ _ _ und25, run_slice_h w 25 _ _ _ und25 k _ (by omega) (by omega), elem25, Tryd.sizeOf5, Int.toNat_natCast]; rfl
theorem run_cut_l (k : IntKind) (a : Option Addr) (n c m : Nat) (hm : m ≤ n) (w : World) : (Instr.sliceAt 25 (.slice a n c) (some (.int k (m : Int))) none none).run Tryd.prog w = .ok (sliced a m n c 1) w := by
  rw [run_sliceAt_slice w 25 _ _ _ _ und25, run_slice_l w 25 _ _ _ und25 k _ (by omega) (by omega), elem25, Tryd.sizeOf5, Int.toNat_natCast]; rfl
theorem run_cut_lh (k : IntKind) (a : Option Addr) (n c l m : Nat) (hl : l ≤ m) (hm : m ≤ c) (w : World) : (Instr.sliceAt 25 (.slice a n c) (some (.int k (l : Int))) (some (.int k (m : Int))) none).run Tryd.prog w = .ok (sliced a l m c 1) w := by
  rw [run_sliceAt_slice w 25 _ _ _ _ und25, run_slice_lh w 25 _ _ _ und25 k k _ _ (by omega) (by omega) (by omega), elem25, Tryd.sizeOf5, Int.toNat_natCast, Int.toNat_natCast]; rfl

/-- a slice of bytes is kept by the growth of a row that lies elsewhere -/
theorem sl_grown {w w' : World} {u : Value} {xs : List Int} {row : Option Nat} (h : Sl w u xs) (hg : w.grownBy w' row) (hd : 0 < xs.length → ∀ g, row = some g → u.ownBlock ≠ some g) : Sl w' u xs := by
  obtain ⟨a, c, rfl, hx, hl, hc, hr⟩ := h
  refine ⟨a, c, rfl, hx, hl, hc, fun h0 => ?_⟩
  obtain ⟨b, off, rfl, hb, hcell⟩ := hr h0
  refine ⟨b, off, rfl, Nat.lt_of_lt_of_le hb hg.size, fun i hi => ?_⟩
  refine hg.cell (hcell i hi) ?_
  intro e
  exact hd h0 b e.symm rfl
theorem sl_lt {w : World} {u : Value} {xs : List Int} (h : Sl w u xs) (h0 : 0 < xs.length) : ∀ g, u.ownBlock = some g → g < w.heap.size := by
  obtain ⟨a, c, rfl, hx, hl, hc, hr⟩ := h
  obtain ⟨b, off, rfl, hb, _⟩ := hr h0
  intro g hg
  simp [Value.ownBlock] at hg
  omega

theorem Tryd.info25 : (Tryd.prog.info? 25).map (fun i => (i.zero, i.size, i.bytes)) = some (some (.slice none 0 0), 1, 24) := by kernel_rfl

/-- in the world w the row v, which lies from block B on, has the parts ps, none of which lies in its block -/
def PO (w : World) (B : Nat) (v : Value) (ps : List (List Int)) : Prop :=
  ∃ us : List Value, us.length = ps.length ∧ w.ownsRow B 25 1 v ps.length us ∧
    ∀ i u, us[i]? = some u → Sl w u (part ps i) ∧ Nf u ∧ (0 < (part ps i).length → ∀ g, v.ownBlock = some g → u.ownBlock ≠ some g)
theorem PO.nil (w : World) (B : Nat) : PO w B (.slice none 0 0) [] := ⟨[], rfl, World.ownsRow_nil _ _ _ _, fun i u h => by simp at h⟩
theorem PO.later {w w' : World} {B : Nat} {v : Value} {ps : List (List Int)} (h : PO w B v ps) (hb : Below w.heap.size w w') : PO w' B v ps := by
  obtain ⟨us, h1, h2, h3⟩ := h
  exact ⟨us, h1, own_later h2 hb, fun i u hu => ⟨(h3 i u hu).1.later hb, (h3 i u hu).2⟩⟩
theorem PO.lt {w : World} {B : Nat} {v : Value} {ps : List (List Int)} (h : PO w B v ps) : ∀ g, v.ownBlock = some g → B ≤ g ∧ g < w.heap.size := by
  obtain ⟨us, h1, h2, h3⟩ := h
  exact World.ownsRow.lt h2
theorem PO.psn {w : World} {B : Nat} {v : Value} {ps : List (List Int)} (h : PO w B v ps) : PSn w v ps := by
  obtain ⟨us, h1, h2, h3⟩ := h
  rcases h2.2 with ⟨rfl, h0⟩ | ⟨g, cap, cur, rfl, hb, hh, hnc, hcm, hcs, ht⟩
  · exact ⟨none, 0, by rw [h0], by omega, by omega, fun h => by omega⟩
  · refine ⟨_, cap, rfl, Nat.le_trans hnc hcm, hnc, fun h0 => ⟨g, 0, rfl, (World.ownsRow.lt h2 g rfl).2, fun i hi => ?_⟩⟩
    obtain ⟨u, hu⟩ : ∃ u, us[i]? = some u := ⟨us[i]'(by omega), List.getElem?_eq_getElem (by omega)⟩
    refine ⟨u, ?_, (h3 i u hu).1, (h3 i u hu).2.1⟩
    rw [Nat.zero_add, World.ownsRow.cellAt h2 i (by omega), hu]

theorem part_app_left (ps : List (List Int)) (p : List Int) (i : Nat) (h : i < ps.length) : part (ps ++ [p]) i = part ps i := by
  unfold part; simp [List.getD, List.getElem?_append_left h]
theorem part_app_last (ps : List (List Int)) (p : List Int) : part (ps ++ [p]) ps.length = p := by
  unfold part; simp [List.getD]

/-- append of one part to such a row -/
theorem wpList_appendP {ops : Array Oper} {rest : List Oper} {o : Oper} {a : Act} {w : World} {Q : Exit → Act → World → Prop} (hgd : o.guard = none) (s x : Operand)
    (ho : o.op = .call { callee := .builtin .append, args := #[s, x], argTypes := #[22, 22] }) (B : Nat) (v : Value) (ps : List (List Int)) (hs : a.eval s = v) (hpo : PO w B v ps)
    (h : Nat) (u : Value) (p : List Int) (hx : a.eval x = .slice (some ⟨h, 0, none⟩) 1 1) (hc : w.cell? ⟨h, 0, none⟩ = some u) (hu : Sl w u p) (hnu : Nf u)
    (hdj : 0 < p.length → ∀ g, v.ownBlock = some g → u.ownBlock ≠ some g) (hlen : ps.length + 1 ≤ 1000000) (hbase : B ≤ w.heap.size)
    (k : ∀ v' w', PO w' B v' (ps ++ [p]) → w.grownBy w' v.ownBlock → wpList Tryd.prog ops Q rest (a.put o.dst v') w') : wpList Tryd.prog ops Q (o :: rest) a w := by
  obtain ⟨i0, hi, hz0, hz1, hz2⟩ := info_parts Tryd.info25
  obtain ⟨us, h1, h2, h3⟩ := hpo
  obtain ⟨au, cu, hv⟩ : ∃ a c, u = .slice a p.length c := by obtain ⟨a, c, h, _⟩ := hu; exact ⟨a, c, h⟩
  refine wpList_append_lies _ hgd s x 22 ho B 25 i0 (.slice none 0 0) 1 24 Tryd.underlying22 hi hz0 hz1 hz2 rfl (by decide) v ps.length us hs h2 ⟨h, 0, none⟩ 1 1 [u] hx rfl ?_ (by rw [hv]; simp [Value.oneCell']) (by decide) (by unfold maxLen; omega) (by omega) hbase _ rfl ?_
  · intro j y hj
    match j, hj with
    | 0, hj => simp at hj; subst hj; simpa [Addr.add] using hc
    | j + 1, hj => simp at hj
  · intro g cap w' hown hgrow hat hlt
    refine k _ _ ⟨us ++ [u], by simp [h1], by rw [List.length_append]; exact hown, fun i y hy => ?_⟩ hgrow
    by_cases hi' : i < us.length
    · rw [List.getElem?_append_left hi'] at hy
      obtain ⟨q1, q2, q3⟩ := h3 i y hy
      rw [part_app_left ps p i (by omega)]
      refine ⟨sl_grown q1 hgrow q3, q2, fun h0 g' hg' => ?_⟩
      simp [Value.ownBlock] at hg'
      subst hg'
      rcases hat with hat | rfl
      · exact q3 h0 _ hat
      · intro e; have := sl_lt q1 h0 _ e; omega
    · have hi2 : i = us.length := by
        have := (List.getElem?_eq_some_iff.1 hy).1
        simp at this; omega
      subst hi2
      rw [h1, part_app_last]
      simp at hy
      subst hy
      refine ⟨sl_grown hu hgrow hdj, hnu, fun h0 g' hg' => ?_⟩
      simp [Value.ownBlock] at hg'
      subst hg'
      rcases hat with hat | rfl
      · exact hdj h0 _ hat
      · intro e; have := sl_lt hu h0 _ e; omega
end Go.Proofs.YtilfmemfnheppaaDoor
