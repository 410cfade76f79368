/- States of registers; contracts of New, and of each way of doing a step. No conditions. -/
import Derived.Test.YtocdgddahbpkpaaDoorUB
import Derived.Test.YtocdgddahbpkpaaDoorSL
import Derived.Lib.QuietBelow
namespace Go.Proofs.YtocdgddahbpkpaaDoor
open Go.RowKit Go.PlainAid Ln Go.Sort
set_option linter.unusedVariables false
set_option linter.unusedSimpArgs false

/-- is it a model of this layer? -/
def ownM (m : Int) : Bool := (m == 1 || m == 2) || m == 9
/-- a state's cells: the model, what is kept, no number, no list -/
def stC (m : Int) (v : Val) (l : Value) : List Value := [.int .i64 m, .int .i64 v.1, .int .i64 v.2.1, .string v.2.2, .int .i64 0, l]
theorem stC_one (m : Int) (v : Val) {l : Value} (h : l.oneCell' = true) : ∀ u ∈ stC m v l, u.oneCell' = true := by
  intro u hu
  simp only [stC, List.mem_cons, List.not_mem_nil, or_false] at hu
  rcases hu with rfl | rfl | rfl | rfl | rfl | rfl <;> first | rfl | exact h
theorem infoSt : (Tryd.prog.info? 28).map (·.size) = some 6 := by kernel_rfl
theorem infoVv : (Tryd.prog.info? 25).map (·.size) = some 3 := by kernel_rfl
theorem infoCl : (Tryd.prog.info? 54).map (·.size) = some 3 := by kernel_rfl
/-- one value in new memory is a row that the call owns -/
theorem own_one (w : World) (B : Nat) (hB : B ≤ w.heap.size) (x : Val) : OwnV (w.alloc (.cells (encV x).toArray 25)) B (.slice (some ⟨w.heap.size, 0, none⟩) 1 1) [x] :=
  ⟨rfl, .inr ⟨w.heap.size, 1, (encV x).toArray, rfl, hB, World.alloc_heap_new w _, Nat.le_refl _, by decide, rfl, rfl⟩⟩
/-- two results, the first one in a block of its own -/
theorem ret_blk2 {P : Program} {fn : Func} {R : Ending → World → Prop} {a : Act} {w : World} {p u : Tmp} {ty : TypeId} (h : fn.results = #[.cell p ty, .tmp u]) (g : Nat) (c : List Value) (t : TypeId) (d : TypeDesc) (v : Value)
    (hu : P.underlying ty = some d) (hd : d.isRow = true) (hi : (P.info? ty).map (·.size) = some c.length)
    (hp : a.tmps.getD p undef = .pointer (some ⟨g, 0, none⟩)) (hr : Blk w g c t) (hv : a.tmps.getD u undef = v) (hdef : a.defers = []) (hR : R (.returned (.tuple #[.agg c.toArray, v])) w) : bodyPost P fn R .ret a w := by
  refine bodyPost_ret (v := .tuple #[.agg c.toArray, v]) ?_ hdef hR
  have hp' : a.tmps[p]?.getD undef = .pointer (some ⟨g, 0, none⟩) := by simpa using hp
  have hv' : a.tmps[u]?.getD undef = v := by simpa using hv
  have hl : (loadVar ty ⟨g, 0, none⟩).run P w = .ok (.agg c.toArray) w := by
    refine run_loadVar_row w g t ty c.toArray (0, 0) d hr hu ?_ (by simpa using hi)
    cases d <;> simp_all [TypeDesc.isRow]
  simp [results, h, hp', hv', asAddr, hl]
/-- three results, the first one in a block of its own -/
theorem ret_blk3 {P : Program} {fn : Func} {R : Ending → World → Prop} {a : Act} {w : World} {p u u' : Tmp} {ty : TypeId} (h : fn.results = #[.cell p ty, .tmp u, .tmp u']) (g : Nat) (c : List Value) (t : TypeId) (d : TypeDesc) (v v' : Value)
    (hu : P.underlying ty = some d) (hd : d.isRow = true) (hi : (P.info? ty).map (·.size) = some c.length)
    (hp : a.tmps.getD p undef = .pointer (some ⟨g, 0, none⟩)) (hr : Blk w g c t) (hv : a.tmps.getD u undef = v) (hv1 : a.tmps.getD u' undef = v') (hdef : a.defers = []) (hR : R (.returned (.tuple #[.agg c.toArray, v, v'])) w) : bodyPost P fn R .ret a w := by
  refine bodyPost_ret (v := .tuple #[.agg c.toArray, v, v']) ?_ hdef hR
  have hp' : a.tmps[p]?.getD undef = .pointer (some ⟨g, 0, none⟩) := by simpa using hp
  have hv' : a.tmps[u]?.getD undef = v := by simpa using hv
  have hv1' : a.tmps[u']?.getD undef = v' := by simpa using hv1
  have hl : (loadVar ty ⟨g, 0, none⟩).run P w = .ok (.agg c.toArray) w := by
    refine run_loadVar_row w g t ty c.toArray (0, 0) d hr hu ?_ (by simpa using hi)
    cases d <;> simp_all [TypeDesc.isRow]
  simp [results, h, hp', hv', hv1', asAddr, hl]
theorem dNoR : TypeDesc.isRow (.struct (Tryd.prog.fieldsOf 28)) = true := rfl

theorem new_is (m : Int) (h : m = 1 ∨ m = 2 ∨ m = 9) (w : World) : Calls Tryd.prog 7 #[.int .i64 m] w fun e w' => e = .returned (.tuple #[.agg (stC m noV nilS).toArray, .bool true]) ∧ Below w.heap.size w w' := by
  rcases h with rfl | rfl | rfl
  all_goals
    go_enter Tryd.func7, Tryd.ntmps7
    go_wp2
    refine bodyPost_ret (v := .tuple #[.agg (stC _ noV nilS).toArray, .bool true]) (by simp [results, Tryd.f7, go_sem]; rfl) rfl ?_
    exact ⟨rfl, by first | exact below_more (Below.refl _ _) _ | skip⟩
theorem new_not (m : Int) (h1 : m ≠ 1) (h2 : m ≠ 2) (h9 : m ≠ 9) (w : World) : Calls Tryd.prog 7 #[.int .i64 m] w fun e w' => e = .returned (.tuple #[.agg (stC 0 noV nilS).toArray, .bool false]) ∧ Below w.heap.size w w' := by
  go_enter Tryd.func7, Tryd.ntmps7
  go_wp2
  refine bodyPost_ret (v := .tuple #[.agg (stC 0 noV nilS).toArray, .bool false]) (by simp [results, Tryd.f7, go_sem]; rfl) rfl ?_
  exact ⟨rfl, by first | exact below_more (Below.refl _ _) _ | skip⟩
theorem ownM_iff (m : Int) : ownM m = true ↔ m = 1 ∨ m = 2 ∨ m = 9 := by unfold ownM; simp [or_assoc]
theorem new_any (m : Int) (w : World) : Calls Tryd.prog 7 #[.int .i64 m] w fun e w' => e = .returned (.tuple #[.agg (stC (if ownM m = true then m else 0) noV nilS).toArray, .bool (ownM m)]) ∧ Below w.heap.size w w' := by
  by_cases h : ownM m = true
  · rw [if_pos h, h]; exact new_is m ((ownM_iff m).1 h) w
  · rw [if_neg h, Bool.eq_false_iff.2 h]
    have h' := fun k => h ((ownM_iff m).2 k)
    exact new_not m (fun e => h' (.inl e)) (fun e => h' (.inr (.inl e))) (fun e => h' (.inr (.inr e))) w

/-! ### the ways of doing a step -/
theorem flag_any (n : Int) (w : World) : Calls Tryd.prog 40 #[.int .i64 n] w fun e w' => e = .returned (.agg #[.int .i64 3, .int .i64 n, .string noB]) ∧ Below w.heap.size w w' := by
  go_enter Tryd.func40, Tryd.ntmps40
  go_wp2
  refine bodyPost_ret (v := .agg #[.int .i64 3, .int .i64 n, .string noB]) (by simp [results, Tryd.f40, go_sem]; rfl) rfl ?_
  exact ⟨rfl, by first | exact below_more (Below.refl _ _) _ | skip⟩
/-- which way a model has of doing it -/
def wayM (m o : Int) : Nat := if o = 2 then 32 else if o = 3 then 33 else if m = 9 then 34 else 35
theorem choose_any (p : Value) (m o : Int) (w : World) : Calls Tryd.prog 23 #[p, .int .i64 m, .int .i64 o] w fun e w' => e = .returned (.func (.func (wayM m o)) #[p] #[]) ∧ Below w.heap.size w w' := by
  have hmf : ∀ (fn : Fn) (first cap : Array Value) (w : World), (Instr.makeFunc fn first cap).run Tryd.prog w = .ok (.func fn first cap) w := fun _ _ _ _ => rfl
  unfold wayM
  by_cases h2 : o = 2
  · rw [if_pos h2]; subst h2
    go_enter Tryd.func23, Tryd.ntmps23
    go_wp2
    go_ret
    exact ⟨rfl, Below.refl _ _⟩
  rw [if_neg h2]
  by_cases h3 : o = 3
  · rw [if_pos h3]; subst h3
    go_enter Tryd.func23, Tryd.ntmps23
    go_wp2
    go_ret
    exact ⟨rfl, Below.refl _ _⟩
  rw [if_neg h3]
  by_cases h9 : m = 9
  · rw [if_pos h9]; subst h9
    go_enter Tryd.func23, Tryd.ntmps23
    go_wp2
    go_ret
    exact ⟨rfl, Below.refl _ _⟩
  rw [if_neg h9]
  go_enter Tryd.func23, Tryd.ntmps23
  go_wp2
  go_ret
  exact ⟨rfl, Below.refl _ _⟩
/-- the cell holds this value -/
def Cl (w : World) (p : Nat) (x : Val) : Prop := Blk w p (encV x) 54
theorem Cl.cells {w : World} {p : Nat} {x : Val} (h : Cl w p x) : w.cell? ⟨p, 0, none⟩ = some (.int .i64 x.1) ∧ w.cell? ⟨p, 1, none⟩ = some (.int .i64 x.2.1) ∧ w.cell? ⟨p, 2, none⟩ = some (.string x.2.2) := ⟨Blk.cell h 0 _ rfl, Blk.cell h 1 _ rfl, Blk.cell h 2 _ rfl⟩
theorem Cl.froz {w : World} {p : Nat} {x : Val} (h : Cl w p x) : w.frozen? ⟨p, 0, none⟩ = false ∧ w.frozen? ⟨p, 1, none⟩ = false ∧ w.frozen? ⟨p, 2, none⟩ = false := ⟨Blk.froz h 0, Blk.froz h 1, Blk.froz h 2⟩
theorem Cl.set {w : World} {p : Nat} {x : Val} (h : Cl w p x) (y : Val) : Cl (((w.setCell ⟨p, 0, none⟩ (.int .i64 y.1)).setCell ⟨p, 1, none⟩ (.int .i64 y.2.1)).setCell ⟨p, 2, none⟩ (.string y.2.2)) p y :=
  ((Blk.set h 0 (.int .i64 y.1)).set 1 (.int .i64 y.2.1)).set 2 (.string y.2.2)
theorem oth_set3 (w : World) (p : Nat) (a b c : Value) : Oth p p w (((w.setCell ⟨p, 0, none⟩ a).setCell ⟨p, 1, none⟩ b).setCell ⟨p, 2, none⟩ c) := ((oth_set p w 0 a).trans (oth_set p _ 1 b)).trans (oth_set p _ 2 c)
theorem read_any (p : Nat) (x : Val) (va : Value) (w : World) (hb : Cl w p x) :
    Calls Tryd.prog 32 #[.pointer (some ⟨p, 0, none⟩), va] w fun e w' => ∃ vo, e = .returned vo ∧ OwnV w' w.heap.size vo [x] ∧ Cl w' p x ∧ Oth p p w w' := by
  have HB : Hid (Cl w p x) := hb
  obtain ⟨c0, c1, c2⟩ := hb.cells
  clear hb
  go_enter Tryd.func32, Tryd.ntmps32
  go_wp2
  go_ret
  exact ⟨_, rfl, own_one w _ (Nat.le_refl _) x, Blk.alloc HB.out _, Oth.of_below (below_box _ _)⟩
/-- the first of a row lies here -/
theorem vsl_first {w : World} {va : Value} {xs : List Val} (h : VSl w va xs) (hl : 0 < xs.length) : ∃ b o c, va = .slice (some ⟨b, o, none⟩) xs.length c ∧ b < w.heap.size ∧ xs.length ≤ c ∧ ∀ i, i < xs.length → At w b (o + i * 3) (nv xs i) := by
  obtain ⟨a, c, rfl, h1, h2, h3⟩ := h
  rcases h3 with ⟨h3, _⟩ | ⟨b, o, rfl, hb, hat⟩
  · rw [h3] at hl; cases hl
  · exact ⟨b, o, c, rfl, hb, h1, hat⟩
theorem write_any (p : Nat) (x : Val) (va : Value) (xs : List Val) (w : World) (hb : Cl w p x) (hv : VSl w va xs) (hl : 0 < xs.length) :
    Calls Tryd.prog 35 #[.pointer (some ⟨p, 0, none⟩), va] w fun e w' => e = .returned (.slice none 0 0) ∧ Cl w' p (nv xs 0) ∧ Oth p p w w' := by
  have HB : Hid (Cl w p x) := hb
  obtain ⟨c0, c1, c2⟩ := hb.cells
  obtain ⟨f0, f1, f2⟩ := hb.froz
  clear hb
  obtain ⟨b, o, c, rfl, hbl, hc, hat⟩ := vsl_first hv hl
  obtain ⟨a0, a1, a2⟩ := hat 0 hl
  rw [Nat.zero_mul, Nat.add_zero] at a0 a1 a2
  clear hat hv
  obtain ⟨y, hy⟩ : ∃ y, nv xs 0 = y := ⟨_, rfl⟩
  rw [hy] at a0 a1 a2 ⊢
  clear hy
  obtain ⟨n, hn⟩ : ∃ n, xs.length = n := ⟨_, rfl⟩
  rw [hn] at hl hc ⊢
  clear hn
  go_enter Tryd.func35, Tryd.ntmps35
  go_wp2
  go_ret
  exact ⟨rfl, HB.out.set y, oth_set3 _ _ _ _ _⟩
theorem below_pushed {w w' : World} (h : ∃ q os, w' = grow (w.drewN q) os) : Below w.heap.size w w' := by
  obtain ⟨q, os, k⟩ := h
  rw [k]
  exact ⟨rfl, rfl, rfl, by show w.heap.size ≤ (w.heap ++ os).size; rw [Array.size_append]; omega, fun i hi => by show (w.heap ++ os)[i]? = w.heap[i]?; rw [Array.getElem?_append_left hi]⟩
theorem cmp_bl (x y : Val) (w : World) : Calls Tryd.prog 41 #[.agg #[.int .i64 x.1, .int .i64 x.2.1, .string x.2.2], .agg #[.int .i64 y.1, .int .i64 y.2.1, .string y.2.2]] w fun e w' => e = .returned (.int .i64 (cv x y)) ∧ Below w.heap.size w w' :=
  (compare_any x.1 x.2.1 y.1 y.2.1 x.2.2 y.2.2 w).mono fun e w' ⟨h, k⟩ => ⟨h, below_pushed k⟩
theorem less_bl (x y : Val) (w : World) : Calls Tryd.prog 20 #[.agg #[.int .i64 x.1, .int .i64 x.2.1, .string x.2.2], .agg #[.int .i64 y.1, .int .i64 y.2.1, .string y.2.2]] w fun e w' => e = .returned (.bool (ltV x y)) ∧ Below w.heap.size w w' :=
  (less_any x.1 x.2.1 y.1 y.2.1 x.2.2 y.2.2 w).mono fun e w' ⟨h, k⟩ => ⟨h, below_pushed k⟩
theorem raise_any (p : Nat) (x : Val) (va : Value) (xs : List Val) (w : World) (hb : Cl w p x) (hv : VSl w va xs) (hl : 0 < xs.length) :
    Calls Tryd.prog 34 #[.pointer (some ⟨p, 0, none⟩), va] w fun e w' => e = .returned (.slice none 0 0) ∧ Cl w' p (if ltV x (nv xs 0) = true then nv xs 0 else x) ∧ Oth p p w w' := by
  have HB : Hid (Cl w p x) := hb
  obtain ⟨c0, c1, c2⟩ := hb.cells
  have mixed : Tryd.prog.follows .mixedOrders = true := by kernel_rfl
  clear hb
  obtain ⟨b, o, c, rfl, hbl, hc, hat⟩ := vsl_first hv hl
  have hat0 := hat 0 hl
  rw [Nat.zero_mul, Nat.add_zero] at hat0
  have HA : Hid (At w b o (nv xs 0)) := hat0
  obtain ⟨a0, a1, a2⟩ := hat0
  clear hat hv
  obtain ⟨y, hy⟩ : ∃ y, nv xs 0 = y := ⟨_, rfl⟩
  rw [hy] at a0 a1 a2 HA ⊢
  clear hy
  obtain ⟨n, hn⟩ : ∃ n, xs.length = n := ⟨_, rfl⟩
  rw [hn] at hl hc ⊢
  clear hn
  have hC := cmp_bl x y
  obtain ⟨s, hs⟩ : ∃ s, cv x y = s := ⟨_, rfl⟩
  obtain ⟨r, hr⟩ : ∃ r, (if ltV x y = true then y else x) = r := ⟨_, rfl⟩
  rw [hr]
  have HR : Hid (r = if s < 0 then y else x) := by
    show _ = _
    rw [← hr, ltV_cv, hs]
    by_cases h : s < 0 <;> simp [h]
  clear hr
  rw [hs] at hC
  clear hs
  have c0' := fun d os => cell_regrown c0 d os
  have c1' := fun d os => cell_regrown c1 d os
  have c2' := fun d os => cell_regrown c2 d os
  have a0' := fun d os => cell_regrown a0 d os
  have a1' := fun d os => cell_regrown a1 d os
  have a2' := fun d os => cell_regrown a2 d os
  have HBL : Hid (b < w.heap.size) := hbl
  clear c0 c1 c2 a0 a1 a2 hbl
  by_cases h0 : s < 0
  · have h0' : decide (s < 0) = true := decide_eq_true h0
    have HE : Hid (r = y) := by have := HR.out; rw [if_pos h0] at this; exact this
    clear HR
    go_enter Tryd.func34, Tryd.ntmps34
    go_wp2_with fail
    refine wp_region_quiet_below (by assumption) (by kernel_rfl) ?_
    repeat (quiet_step (first | (go_at_call 41; with_reducible exact Calls.regrown_of (hC _))))
    refine wpQuiet_nil ?_
    intro _ hw'
    obtain ⟨⟨dq, osq⟩, hw''⟩ := hw'
    subst hw''
    have hbq := below_regrown w dq osq
    have B1 : Cl _ p x := Blk.later HB.out hbq
    obtain ⟨a0, a1, a2⟩ := HA.out.later HBL.out hbq
    have HQ : Hid (Below w.heap.size w (grow (redrawn w dq) osq)) := hbq
    clear c0' c1' c2' a0' a1' a2' hbq HB hC HBL HA
    generalize grow (redrawn w dq) osq = u at *
    have HB : Hid (Cl u p x) := B1
    obtain ⟨f0, f1, f2⟩ := B1.froz
    obtain ⟨g0, g1, g2⟩ := B1.cells
    clear B1
    go_wp2
    go_ret
    rw [HE.out]
    exact ⟨rfl, HB.out.set y, (Oth.of_below HQ.out).trans (oth_set3 _ _ _ _ _)⟩
  · have h0' : decide (s < 0) = false := decide_eq_false h0
    have HE : Hid (r = x) := by have := HR.out; rw [if_neg h0] at this; exact this
    clear HR
    go_enter Tryd.func34, Tryd.ntmps34
    go_wp2_with fail
    refine wp_region_quiet_below (by assumption) (by kernel_rfl) ?_
    repeat (quiet_step (first | (go_at_call 41; with_reducible exact Calls.regrown_of (hC _))))
    refine wpQuiet_nil ?_
    intro _ hw'
    obtain ⟨⟨dq, osq⟩, hw''⟩ := hw'
    subst hw''
    have hbq := below_regrown w dq osq
    have B1 : Cl _ p x := Blk.later HB.out hbq
    have HQ : Hid (Below w.heap.size w (grow (redrawn w dq) osq)) := hbq
    clear c0' c1' c2' a0' a1' a2' hbq HB hC HBL HA
    generalize grow (redrawn w dq) osq = u at *
    go_wp2
    go_ret
    rw [HE.out]
    exact ⟨rfl, B1, Oth.of_below HQ.out⟩
theorem swap_any (p : Nat) (x : Val) (va : Value) (xs : List Val) (w : World) (hb : Cl w p x) (hv : VSl w va xs) (hl : 1 < xs.length) :
    Calls Tryd.prog 33 #[.pointer (some ⟨p, 0, none⟩), va] w fun e w' => ∃ vo, e = .returned vo ∧ OwnV w' w.heap.size vo [yesV (decide (x = nv xs 0))] ∧ Cl w' p (if x = nv xs 0 then nv xs 1 else x) ∧ Oth p p w w' := by
  have HB : Hid (Cl w p x) := hb
  obtain ⟨c0, c1, c2⟩ := hb.cells
  obtain ⟨f0, f1, f2⟩ := hb.froz
  have mixed : Tryd.prog.follows .mixedOrders = true := by kernel_rfl
  clear hb
  obtain ⟨b, o, c, rfl, hbl, hc, hat⟩ := vsl_first hv (by omega)
  have hat0 := hat 0 (by omega)
  have hat1 := hat 1 hl
  rw [Nat.zero_mul, Nat.add_zero] at hat0
  rw [Nat.one_mul] at hat1
  obtain ⟨a0, a1, a2⟩ := hat0
  obtain ⟨b0, b1, b2⟩ := hat1
  rw [show o + 3 + 1 = o + 4 from rfl] at b1
  rw [show o + 3 + 2 = o + 5 from rfl] at b2
  clear hat hv
  obtain ⟨y, hy⟩ : ∃ y, nv xs 0 = y := ⟨_, rfl⟩
  obtain ⟨z, hz⟩ : ∃ z, nv xs 1 = z := ⟨_, rfl⟩
  rw [hy] at a0 a1 a2 ⊢
  rw [hz] at b0 b1 b2 ⊢
  clear hy hz
  obtain ⟨n, hn⟩ : ∃ n, xs.length = n := ⟨_, rfl⟩
  rw [hn] at hl hc ⊢
  clear hn
  have hq := fun w => neV x.1 x.2.1 y.1 y.2.1 x.2.2 y.2.2 w
  have hg := eqgV
  have H0 := fun w => flag_any 0 w
  have H1 := fun w => flag_any 1 w
  have h0l : 0 < n := by omega
  have HA : Hid (At w b (o + 3) z) := ⟨b0, b1, b2⟩
  have HBL : Hid (b < w.heap.size) := hbl
  have c0' := fun d os => cell_regrown c0 d os
  have c1' := fun d os => cell_regrown c1 d os
  have c2' := fun d os => cell_regrown c2 d os
  have a0' := fun d os => cell_regrown a0 d os
  have a1' := fun d os => cell_regrown a1 d os
  have a2' := fun d os => cell_regrown a2 d os
  clear c0 c1 c2 a0 a1 a2 b0 b1 b2 hbl f0 f1 f2
  by_cases h : x = y
  · have e : eqvB x.1 x.2.1 x.2.2 y.1 y.2.1 y.2.2 = true := (eqvB_iff _ _ _ _ _ _).2 h
    rw [e, Bool.not_true] at hq
    rw [if_pos h, decide_eq_true h]
    clear h e H0
    go_enter Tryd.func33, Tryd.ntmps33
    go_wp2_with fail
    refine wp_region_quiet_below (by assumption) (by kernel_rfl) ?_
    repeat (quiet_step (fail))
    refine wpQuiet_nil ?_
    intro _ hw'
    obtain ⟨⟨dq, osq⟩, hw''⟩ := hw'
    subst hw''
    have hbq := below_regrown w dq osq
    have B1 : Cl _ p x := Blk.later HB.out hbq
    obtain ⟨b0, b1, b2⟩ := HA.out.later HBL.out hbq
    rw [show o + 3 + 1 = o + 4 from rfl] at b1
    rw [show o + 3 + 2 = o + 5 from rfl] at b2
    have HQ : Hid (Below w.heap.size w (grow (redrawn w dq) osq)) := hbq
    clear c0' c1' c2' a0' a1' a2' hbq HB HBL HA
    generalize grow (redrawn w dq) osq = u at *
    have HB : Hid (Cl u p x) := B1
    obtain ⟨f0, f1, f2⟩ := B1.froz
    obtain ⟨g0, g1, g2⟩ := B1.cells
    clear B1
    go_wp2_with (go_at_call 40; refine (H1 _).mono ?_; rintro e w1 ⟨rfl, hb1⟩; have HC : Hid (Cl w1 p z) := Blk.later (HB.out.set z) hb1; have HO : Hid (Oth p p w w1) := ((Oth.of_below HQ.out).trans (oth_set3 _ _ _ _ _)).trans (.of_below hb1); clear hb1)
    go_ret
    exact ⟨_, rfl, own_one _ _ HO.out.size _, Blk.alloc HC.out _, HO.out.alloc _⟩
  · have e : eqvB x.1 x.2.1 x.2.2 y.1 y.2.1 y.2.2 = false := Bool.eq_false_iff.2 fun k => h ((eqvB_iff _ _ _ _ _ _).1 k)
    rw [e, Bool.not_false] at hq
    rw [if_neg h, decide_eq_false h]
    clear h e H1
    go_enter Tryd.func33, Tryd.ntmps33
    go_wp2_with fail
    refine wp_region_quiet_below (by assumption) (by kernel_rfl) ?_
    repeat (quiet_step (fail))
    refine wpQuiet_nil ?_
    intro _ hw'
    obtain ⟨⟨dq, osq⟩, hw''⟩ := hw'
    subst hw''
    have hbq := below_regrown w dq osq
    have B1 : Cl _ p x := Blk.later HB.out hbq
    have HQ : Hid (Below w.heap.size w (grow (redrawn w dq) osq)) := hbq
    clear c0' c1' c2' a0' a1' a2' hbq HB HBL HA
    generalize grow (redrawn w dq) osq = u at *
    have HB : Hid (Cl u p x) := B1
    clear B1
    go_wp2_with (go_at_call 40; refine (H0 _).mono ?_; rintro e w1 ⟨rfl, hb1⟩; have HC : Hid (Cl w1 p x) := Blk.later HB.out hb1; have HO : Hid (Oth p p w w1) := (Oth.of_below HQ.out).trans (.of_below hb1); clear hb1)
    go_ret
    exact ⟨_, rfl, own_one _ _ HO.out.size _, Blk.alloc HC.out _, HO.out.alloc _⟩
end Go.Proofs.YtocdgddahbpkpaaDoor
