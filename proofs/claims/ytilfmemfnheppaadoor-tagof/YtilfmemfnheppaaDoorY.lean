/- The walk of ShaWrites. Conditions: the table holds the rounds' numbers. -/
import Derived.Test.YtilfmemfnheppaaDoorW
import Derived.Test.YtilfmemfnheppaaDoorS
import Derived.OrdersHeld
namespace Go.Proofs.YtilfmemfnheppaaDoor
open Go.RowKit Hx
set_option linter.unusedVariables false

theorem sl_one (w : World) (x : Int) (hx : 0 ≤ x ∧ x ≤ 255) (T : TypeId) : Sl (w.alloc (.cells #[.int .u8 x] T)) (.slice (some ⟨w.heap.size, 0, none⟩) 1 1) [x] := by
  refine ⟨_, _, rfl, by simpa using hx, by simp, by simp, fun _ => ⟨w.heap.size, 0, rfl, by simp, fun i hi => ?_⟩⟩
  have hi0 : i = 0 := by simpa using hi
  subst hi0
  have := one_new8 w x T 0 (.int .u8 x) rfl
  rw [Addr.add_mid] at this
  rw [this]
  rfl

theorem Has.later {w w' : World} {g : Nat} {l : List Int} (h : Has w g l) (hb : Below w.heap.size w w') : Has w' g l := by
  obtain ⟨blk, h1, h2⟩ := h; exact ⟨blk, h1.later hb, h2⟩
theorem Has.only {w w' : World} {g g' : Nat} {l : List Int} (h : Has w g l) (hb : Only g' w w') (hg : g ≠ g') : Has w' g l := by
  obtain ⟨blk, h1, h2⟩ := h; exact ⟨blk, h1.only hb hg, h2⟩
theorem Has.lt {w : World} {g : Nat} {l : List Int} (h : Has w g l) : g < w.heap.size := by
  obtain ⟨blk, h1, _⟩ := h; exact h1.lt
theorem sl_apart {w : World} {v : Value} {xs : List Int} {B g : Nat} (h : Sl w v xs) (hB : w.heap.size ≤ g) : ∀ b off n cap, v = .slice (some ⟨b, off, none⟩) n cap → 0 < xs.length → b ≠ g := by
  intro b off n cap hv h0
  have := sl_block h b off n cap hv h0
  omega

/-- what stays as it is while the answers are asked for -/
def Wr (p g : Nat) (X L A Bl : List Int) (va vb : Value) (w0 w : World) : Prop :=
  Row w p .u8 X ∧ Kt w ∧ Has w g L ∧ Sl w va A ∧ Sl w vb Bl ∧ Below w0.heap.size w0 w
section
variable {p g : Nat} {X L A Bl : List Int} {va vb : Value} {w0 w w' : World}
theorem Wr.later (h : Wr p g X L A Bl va vb w0 w) (hb : Below w.heap.size w w') : Wr p g X L A Bl va vb w0 w' :=
  ⟨h.1.later hb, h.2.1.below hb h.2.1.pos, h.2.2.1.later hb, h.2.2.2.1.later hb, h.2.2.2.2.1.later hb, below_next h.2.2.2.2.2 hb⟩
end
theorem PSl.later {w w' : World} {v : Value} {ps : List (List Int)} (h : PSl w v ps) (hb : Below w.heap.size w w') : PSl w' v ps := by
  obtain ⟨a, cap, hv, h1, h2, h3⟩ := h
  refine ⟨a, cap, hv, h1, h2, fun h0 => ?_⟩
  obtain ⟨b, off, ha, hbs, hc⟩ := h3 h0
  refine ⟨b, off, ha, Nat.lt_of_lt_of_le hbs hb.size, fun i hi => ?_⟩
  obtain ⟨u, h4, h5⟩ := hc i hi
  exact ⟨u, (hb.cell (p := ⟨b, off + i, none⟩) hbs).trans h4, h5.later hb⟩
theorem psl_two {w : World} {u v : Value} {xs ys : List Int} (h : Sl w u xs) (k : Sl w v ys) (T : TypeId) : PSl (w.alloc (.cells #[u, v] T)) (.slice (some ⟨w.heap.size, 0, none⟩) 2 2) [xs, ys] := by
  refine ⟨some ⟨w.heap.size, 0, none⟩, 2, rfl, by simp, by simp, fun _ => ⟨w.heap.size, 0, rfl, by simp, fun i hi => ?_⟩⟩
  have hb := (Below.refl w.heap.size w).alloc (Nat.le_refl _) (.cells #[u, v] T)
  have hi2 : i < 2 := by simpa using hi
  match i, hi2 with
  | 0, _ => exact ⟨u, by simp, h.later hb⟩
  | 1, _ => exact ⟨v, by simp, k.later hb⟩
theorem takeH {P : Program} {ops : Array Oper} {Q : Exit → Act → World → Prop} {md : Region.Mode} {S : World → Prop} (i d : Nat) (v : Value) {oi : Oper} {fuel : Nat} {listed : Array Bool} {tm : Array Value} {df : List Deferred} {w : World} (hi : ops[i]? = some oi) (hd : oi.dst = some d)
    (hs : Region.noSelect ops = true) (hf : Region.free md ops listed i = true) (hr : (Region.ready md ops listed).contains i = true)
    (hQ : ∀ c a w, Q (.panic c) (a.put (some d) v) w → Q (.panic c) a w) (hy : YieldsIf P ops S oi v ⟨tm, df⟩) (hS : S w)
    (h : wpAnyH P md ops Q S fuel (listed.setIfInBounds i true) ⟨tm.setIfInBounds d v, df⟩ w) : wpAnyH P md ops Q S (fuel + 1) listed ⟨tm, df⟩ w := by
  refine wpAnyH_take hi hs hf hr (by rw [hd]; exact hQ) hy hS ?_
  rw [hd]
  exact h
theorem wpOp_doG {P : Program} {ops : Array Oper} {Q : Exit → Act → World → Prop} {K : Act → World → Prop} {a : Act} {w : World} {o : Oper} (i : Nat) (ho : ops[i]? = some o) (hg : Region.wanted o (yielded ops a.tmps) = true) (h : o.wp P a w K Q) : wpOp P ops Q i K a w := by
  unfold wpOp
  rw [ho]
  show if Region.wanted o (yielded ops a.tmps) then _ else _
  rw [if_pos hg]
  exact .inl h
end Go.Proofs.YtilfmemfnheppaaDoor
