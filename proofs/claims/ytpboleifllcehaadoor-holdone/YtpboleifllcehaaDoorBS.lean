/- The table of signs as a list; rows of numbers in memory; that the program's table holds it. No conditions. A row cut out of the table; the contract of find. Conditions: the table lies in memory. -/
import Derived.Test.YtpboleifllcehaaDoorBV
import Derived.Deep.MidRow
namespace Go.Proofs.YtpboleifllcehaaDoor
open Go.RowKit Go.PlainAid
set_option linter.unusedVariables false

/-- the i-th number of a row -/
def nth (xs : List Int) (i : Nat) : Int := xs.getD i 0
theorem nth_eq (xs : List Int) (i : Nat) (h : i < xs.length) : nth xs i = xs[i] := by unfold nth; rw [List.getD_eq_getElem?_getD, List.getElem?_eq_getElem h]; rfl
/-- a slice that holds these numbers -/
def ISl (w : World) (v : Value) (xs : List Int) : Prop :=
  ∃ (a : Option Addr) (c : Nat), v = .slice a xs.length c ∧ xs.length ≤ c ∧ c ≤ 9223372036854775807 ∧ ((xs = [] ∧ (a = none → c = 0)) ∨ ∃ b o, a = some ⟨b, o, none⟩ ∧ b < w.heap.size ∧ ∀ i, i < xs.length → w.cell? ⟨b, o + i, none⟩ = some (.int .i64 (nth xs i)))
theorem ISl.later {w w' : World} {v : Value} {xs : List Int} (h : ISl w v xs) (hb : Below w.heap.size w w') : ISl w' v xs := by
  obtain ⟨a, c, h1, h2, h3, h4⟩ := h
  refine ⟨a, c, h1, h2, h3, h4.imp id ?_⟩
  rintro ⟨b, o, e, hl, hc⟩
  exact ⟨b, o, e, Nat.lt_of_lt_of_le hl hb.size, fun i hi => (hb.cell (p := ⟨b, o + i, none⟩) hl).trans (hc i hi)⟩
theorem ISl.nil (w : World) : ISl w (.slice none 0 0) [] := ⟨none, 0, rfl, by simp, by simp, .inl ⟨rfl, fun _ => rfl⟩⟩
theorem ISl.form {w : World} {v : Value} {xs : List Int} (h : ISl w v xs) : ∃ a c, v = .slice a xs.length c := by
  obtain ⟨a, c, h, _⟩ := h; exact ⟨a, c, h⟩

/-- a sign: the model, what is done, the domains of what is handed in and of what comes out, and how that comes -/
structure Rw where
  m : Int
  o : Int
  inn : List Int
  out : List Int
  c : Int
def noRw : Rw := ⟨0, 0, [], [], 0⟩
/-- the document's table -/
def tab : List Rw := [⟨1, 1, [2], [], 0⟩, ⟨1, 2, [], [2], 1⟩, ⟨2, 1, [2], [], 0⟩, ⟨2, 2, [], [2], 1⟩, ⟨2, 3, [2, 2], [6], 0⟩, ⟨3, 4, [2], [], 0⟩, ⟨3, 5, [2], [], 0⟩, ⟨3, 6, [2], [6], 0⟩,
  ⟨4, 7, [3, 2], [], 0⟩, ⟨4, 8, [3], [2], 1⟩, ⟨4, 5, [3], [], 0⟩, ⟨5, 9, [2], [], 0⟩, ⟨5, 10, [], [2], 1⟩, ⟨6, 9, [2], [], 0⟩, ⟨6, 10, [], [2], 1⟩, ⟨7, 11, [], [6], 0⟩, ⟨7, 12, [], [6], 0⟩,
  ⟨8, 4, [5], [], 0⟩, ⟨8, 2, [], [5], 0⟩, ⟨9, 1, [4], [], 0⟩, ⟨9, 2, [], [4], 1⟩, ⟨10, 7, [4, 2], [], 0⟩, ⟨10, 5, [4], [], 0⟩, ⟨10, 13, [4, 4], [4, 2], 2⟩]
/-- its i-th row -/
def rwA (i : Nat) : Rw := tab.getD i noRw
/-- the sign of what the model is to do (noRw: it can't), and whether there is one -/
def fr (m o : Int) : Rw := (tab.find? fun r => (r.m == m) && (r.o == o)).getD noRw
def fi (m o : Int) : Bool := (tab.find? fun r => (r.m == m) && (r.o == o)).isSome

theorem tab_len : tab.length = 24 := rfl
theorem rwA_get (k : Nat) (h : k < 24) : tab[k]'(by rw [tab_len]; exact h) = rwA k := by
  unfold rwA; rw [List.getD_eq_getElem?_getD, List.getElem?_eq_getElem (by rw [tab_len]; exact h)]; rfl
/-- found at k -/
theorem find_at {m o : Int} {k : Nat} (hk : k < 24) (hno : ∀ i, i < k → ¬ ((rwA i).m = m ∧ (rwA i).o = o)) (hy : (rwA k).m = m ∧ (rwA k).o = o) : (tab.find? fun r => (r.m == m) && (r.o == o)) = some (rwA k) := by
  rw [List.find?_eq_some_iff_getElem]
  refine ⟨by simp [hy.1, hy.2], k, by rw [tab_len]; exact hk, rwA_get k hk, fun j hj => ?_⟩
  have := hno j hj
  rw [rwA_get j (by omega)]
  simp only [Bool.not_eq_true', Bool.and_eq_false_iff, beq_eq_false_iff_ne, ne_eq]
  by_cases e : (rwA j).m = m
  · exact .inr fun h => this ⟨e, h⟩
  · exact .inl e
theorem find_no {m o : Int} (hno : ∀ i, i < 24 → ¬ ((rwA i).m = m ∧ (rwA i).o = o)) : (tab.find? fun r => (r.m == m) && (r.o == o)) = none := by
  rw [List.find?_eq_none]
  intro r hr
  obtain ⟨k, hk, rfl⟩ := List.getElem_of_mem hr
  rw [tab_len] at hk
  rw [rwA_get k hk]
  have := hno k hk
  simp only [Bool.and_eq_true, beq_iff_eq]
  exact this
theorem fr_at {m o : Int} {k : Nat} (hk : k < 24) (hno : ∀ i, i < k → ¬ ((rwA i).m = m ∧ (rwA i).o = o)) (hy : (rwA k).m = m ∧ (rwA k).o = o) : fr m o = rwA k ∧ fi m o = true := by
  unfold fr fi; rw [find_at hk hno hy]; exact ⟨rfl, rfl⟩
theorem fr_no {m o : Int} (hno : ∀ i, i < 24 → ¬ ((rwA i).m = m ∧ (rwA i).o = o)) : fr m o = noRw ∧ fi m o = false := by
  unfold fr fi; rw [find_no hno]; exact ⟨rfl, rfl⟩
/-- each sign is one of the table's, or none is -/
theorem fr_cases (m o : Int) : (∃ k, k < 24 ∧ (rwA k).m = m ∧ (rwA k).o = o ∧ fr m o = rwA k ∧ fi m o = true) ∨ ((∀ i, i < 24 → ¬ ((rwA i).m = m ∧ (rwA i).o = o)) ∧ fr m o = noRw ∧ fi m o = false) := by
  by_cases h : ∀ i, i < 24 → ¬ ((rwA i).m = m ∧ (rwA i).o = o)
  · exact .inr ⟨h, fr_no h⟩
  · left
    have key : ∀ n, n ≤ 24 → (∀ i, i < n → ¬ ((rwA i).m = m ∧ (rwA i).o = o)) ∨ ∃ k, k < 24 ∧ (∀ i, i < k → ¬ ((rwA i).m = m ∧ (rwA i).o = o)) ∧ ((rwA k).m = m ∧ (rwA k).o = o) := by
      intro n
      induction n with
      | zero => intro _; exact .inl fun i hi => by omega
      | succ n ih =>
        intro hn
        rcases ih (by omega) with h1 | h1
        · by_cases e : (rwA n).m = m ∧ (rwA n).o = o
          · exact .inr ⟨n, by omega, h1, e⟩
          · refine .inl fun i hi => ?_
            by_cases e2 : i = n
            · subst e2; exact e
            · exact h1 i (by omega)
        · exact .inr h1
    rcases key 24 (by omega) with h1 | ⟨k, hk, hno, hy⟩
    · exact absurd h1 h
    · obtain ⟨a, b⟩ := fr_at hk hno hy
      exact ⟨k, hk, hy.1, hy.2, a, b⟩
/-- what holds of each row of the table, and of none, holds of every sign -/
theorem fr_all {p : Rw → Bool} (h : (tab.all p && p noRw) = true) (m o : Int) : p (fr m o) = true := by
  rw [Bool.and_eq_true] at h
  rcases fr_cases m o with ⟨k, hk, _, _, e, _⟩ | ⟨_, e, _⟩
  · rw [e, ← rwA_get k hk]
    exact List.all_eq_true.1 h.1 _ (List.getElem_mem _)
  · rw [e]; exact h.2

/-- the five cells of a row of the table -/
def rcs (r : Rw) (vi vo : Value) : List Value := [.int .i64 r.m, .int .i64 r.o, vi, vo, .int .i64 r.c]
/-- all cells of the table -/
def cellsT (V U : Nat → Value) : List Value := (List.range 24).flatMap fun i => rcs (rwA i) (V i) (U i)
/-- the table of signs lies in memory -/
def Tb (w : World) : Prop := ∃ V U : Nat → Value, w.rangeAt 0 0 (cellsT V U) ∧ 0 < w.heap.size ∧ ∀ i, i < 24 → ISl w (V i) (rwA i).inn ∧ ISl w (U i) (rwA i).out
theorem Tb.later {w w' : World} (h : Tb w) (hb : Below w.heap.size w w') : Tb w' := by
  obtain ⟨V, U, h1, h2, h3⟩ := h
  exact ⟨V, U, fun j v hv => (hb.cell (p := ⟨0, 0 + j, none⟩) h2).trans (h1 j v hv), Nat.lt_of_lt_of_le h2 hb.size, fun i hi => ⟨(h3 i hi).1.later hb, (h3 i hi).2.later hb⟩⟩
theorem cellsT_len (V U : Nat → Value) : (cellsT V U).length = 120 := by simp [cellsT, rcs]; rfl
/-- a row cut out of the table -/
theorem cellsT_cut (V U : Nat → Value) : ∀ k, k < 24 → ((cellsT V U).drop (k * 5)).take 5 = rcs (rwA k) (V k) (U k) := by
  have key : ∀ (f : Nat → List Value) (n a : Nat), (∀ i, (f i).length = 5) → ∀ k, k < n → ((((List.range' a n).flatMap f).drop (k * 5)).take 5) = f (a + k) := by
    intro f n
    induction n with
    | zero => intro a _ k hk; omega
    | succ n ih =>
      intro a hf k hk
      rw [List.range'_succ, List.flatMap_cons]
      cases k with
      | zero => rw [Nat.zero_mul, List.drop_zero, List.take_left' (hf a), Nat.add_zero]
      | succ k =>
        rw [Nat.succ_mul, Nat.add_comm, ← List.drop_drop, List.drop_left' (hf a), ih (a + 1) hf k (by omega)]
        congr 1; omega
  intro k hk
  unfold cellsT
  rw [List.range_eq_range', key _ 24 0 (fun i => rfl) k hk, Nat.zero_add]
end Go.Proofs.YtpboleifllcehaaDoor
namespace Go.Proofs.YtpboleifllcehaaDoor
open Go.RowKit Go.PlainAid
set_option linter.unusedVariables false
set_option linter.unusedSimpArgs false

theorem run_idxT (V U : Nat → Value) (k : Nat) (hk : k < 24) (w : World) : (Instr.index 69 (.agg (cellsT V U).toArray) (.int .i64 (k : Int))).run Tryd.prog w = .ok (.agg #[.int .i64 (rwA k).m, .int .i64 (rwA k).o, V k, U k, .int .i64 (rwA k).c]) w := by
  have hc := cellsT_cut V U k hk
  have hl := cellsT_len V U
  have hE : (0 : Int) ≤ (k : Int) ∧ (k : Int) < 24 := by omega
  have u := Tryd.underlying69
  have a5 := Tryd.isAgg60
  have z5 := Tryd.sizeOf60
  simp [Instr.index, run_underlying u, asIntOf, hE, go_sem, a5, z5, hk, hc, rcs]

/-- a struct of five cells laid in memory -/
def RBox (w : World) (p : Nat) (a b c d e : Value) : Prop :=
  p < w.heap.size ∧ w.cell? ⟨p, 0, none⟩ = some a ∧ w.cell? ⟨p, 1, none⟩ = some b ∧ w.cell? ⟨p, 2, none⟩ = some c ∧ w.cell? ⟨p, 3, none⟩ = some d ∧ w.cell? ⟨p, 4, none⟩ = some e ∧
    w.frozen? ⟨p, 0, none⟩ = false ∧ w.frozen? ⟨p, 1, none⟩ = false ∧ w.frozen? ⟨p, 2, none⟩ = false ∧ w.frozen? ⟨p, 3, none⟩ = false ∧ w.frozen? ⟨p, 4, none⟩ = false
theorem RBox.later {w w' : World} {p : Nat} {a b c d e : Value} (h : RBox w p a b c d e) (hb : Below w.heap.size w w') : RBox w' p a b c d e := by
  obtain ⟨h0, h1, h2, h3, h4, h5, f0, f1, f2, f3, f4⟩ := h
  exact ⟨Nat.lt_of_lt_of_le h0 hb.size, (hb.cell (p := ⟨p, 0, none⟩) h0).trans h1, (hb.cell (p := ⟨p, 1, none⟩) h0).trans h2, (hb.cell (p := ⟨p, 2, none⟩) h0).trans h3, (hb.cell (p := ⟨p, 3, none⟩) h0).trans h4, (hb.cell (p := ⟨p, 4, none⟩) h0).trans h5,
    (hb.frozen (p := ⟨p, 0, none⟩) h0).trans f0, (hb.frozen (p := ⟨p, 1, none⟩) h0).trans f1, (hb.frozen (p := ⟨p, 2, none⟩) h0).trans f2, (hb.frozen (p := ⟨p, 3, none⟩) h0).trans f3, (hb.frozen (p := ⟨p, 4, none⟩) h0).trans f4⟩
theorem RBox.new (w : World) (a b c d e : Value) (T : TypeId) : RBox (w.alloc (.cells #[a, b, c, d, e] T)) w.heap.size a b c d e :=
  ⟨by simp, by simp, by simp, by simp, by simp, by simp, by simp, by simp, by simp, by simp, by simp⟩
/-- five cells stored in memory of the call's own -/
theorem below_store5 {w a : World} (h : Below w.heap.size w a) {p : Nat} (hp : w.heap.size ≤ p) (x y z u v : Value) :
    Below w.heap.size w (((((a.setCell ⟨p, 0, none⟩ x).setCell ⟨p, 1, none⟩ y).setCell ⟨p, 2, none⟩ z).setCell ⟨p, 3, none⟩ u).setCell ⟨p, 4, none⟩ v) :=
  ((((h.setCell hp x).setCell hp y).setCell hp z).setCell hp u).setCell hp v

/-- how find ends -/
def RFind (w : World) (m o : Int) (e : Ending) (w' : World) : Prop :=
  ∃ vi vo, e = .returned (.tuple #[.agg #[.int .i64 (fr m o).m, .int .i64 (fr m o).o, vi, vo, .int .i64 (fr m o).c], .bool (fi m o)]) ∧ ISl w' vi (fr m o).inn ∧ ISl w' vo (fr m o).out ∧ Below w.heap.size w w'

set_option maxHeartbeats 4000000 in
theorem find_any (m o : Int) (w : World) (ht : Tb w) : Calls Tryd.prog 27 #[.int .i64 m, .int .i64 o] w fun e w' => RFind w m o e w' := by
  obtain ⟨V, U, hr, h2, hs⟩ := ht
  have HS : Hid (∀ i, i < 24 → ISl w (V i) (rwA i).inn ∧ ISl w (U i) (rwA i).out) := hs
  have HR : Hid (w.rangeAt 0 0 (cellsT V U)) := hr
  clear hs hr
  go_enter Tryd.func27, Tryd.ntmps27
  go_wp2_with ((with_reducible refine wpList_load_mid ?_ 69 (.global 0) ?_ 0 0 ?_ (cellsT V U) _ (World.rangeAt_alloc HR.out _) Tryd.underlying69 rfl (by rw [cellsT_len]; kernel_rfl) ?_); (exact rfl); (exact rfl); (exact rfl))
  have HI : Hid (∀ k, k < 24 → ∀ w, (Instr.index 69 (.agg (cellsT V U).toArray) (.int .i64 ((k : Nat) : Int))).run Tryd.prog w = .ok (.agg #[.int .i64 (rwA k).m, .int .i64 (rwA k).o, V k, U k, .int .i64 (rwA k).c]) w) := fun k hk w => run_idxT V U k hk w
  generalize (Value.agg (cellsT V U).toArray) = A at *
  have hb0 : Below w.heap.size w (w.alloc (.cells #[.int .i64 0, .int .i64 0, .slice none 0 0, .slice none 0 0, .int .i64 0] 60)) := below_more (Below.refl _ _) _
  have B0 := RBox.new w (.int .i64 0) (.int .i64 0) (.slice none 0 0) (.slice none 0 0) (.int .i64 0) 60
  generalize w.alloc (.cells #[.int .i64 0, .int .i64 0, .slice none 0 0, .slice none 0 0, .int .i64 0] 60) = w0 at *
  have HB : Hid (RBox w0 w.heap.size (.int .i64 0) (.int .i64 0) (.slice none 0 0) (.slice none 0 0) (.int .i64 0)) := B0
  clear B0
  go_loopw [9] (fun i wr => ∃ k : Nat, k ≤ 24 ∧ i = .int .i64 (k : Int) ∧ Below w0.heap.size w0 wr ∧ ∀ i, i < k → ¬ ((rwA i).m = m ∧ (rwA i).o = o)) (fun i wr => 24 - (intOf i).toNat)
  case atStart => exact ⟨0, by omega, rfl, Below.refl _ _, fun i h => by omega⟩
  case round =>
    obtain ⟨k, hk, rfl, hb, hall⟩ := hrel
    have HA : Hid (∀ i, i < k → ¬ ((rwA i).m = m ∧ (rwA i).o = o)) := hall
    clear hall
    obtain ⟨hp, c0, c1, c2, c3, c4, f0, f1, f2, f3, f4⟩ := HB.out.later hb
    have hne : ¬ w.heap.size = wr.heap.size := by omega
    have hne2 : ¬ wr.heap.size = w.heap.size := by omega
    by_cases hlt : k < 24
    · have hlt' : (k : Int) < 24 := by omega
      have hx := HI.out k hlt
      obtain ⟨si, so⟩ := HS.out k hlt
      have SI : Hid (ISl w (V k) (rwA k).inn) := si
      have SO : Hid (ISl w (U k) (rwA k).out) := so
      obtain ⟨ai, ci, ei⟩ := si.form
      obtain ⟨ao, co, eo⟩ := so.form
      rw [ei] at SI hx
      rw [eo] at SO hx
      clear si so ei eo
      obtain ⟨rm, hrm⟩ : ∃ x, (rwA k).m = x := ⟨_, rfl⟩
      obtain ⟨ro, hro⟩ : ∃ x, (rwA k).o = x := ⟨_, rfl⟩
      obtain ⟨rc, hrc⟩ : ∃ x, (rwA k).c = x := ⟨_, rfl⟩
      obtain ⟨li, hli⟩ : ∃ x, (rwA k).inn.length = x := ⟨_, rfl⟩
      obtain ⟨lo, hlo⟩ : ∃ x, (rwA k).out.length = x := ⟨_, rfl⟩
      rw [hrm, hro, hrc, hli, hlo] at hx
      rw [hli] at SI
      rw [hlo] at SO
      have HE : Hid ((rwA k).m = rm ∧ (rwA k).o = ro ∧ (rwA k).c = rc) := ⟨hrm, hro, hrc⟩
      clear hrm hro hrc hli hlo
      by_cases hm : rm = m
      · subst hm
        by_cases ho : ro = o
        · subst ho
          obtain ⟨hF, hI⟩ := fr_at hlt HA.out ⟨HE.out.1, HE.out.2.1⟩
          have HF : Hid (fr rm ro = rwA k ∧ fi rm ro = true) := ⟨hF, hI⟩
          clear hF hI
          go_wp2
          refine bodyPost_ret (v := .tuple #[.agg #[.int .i64 rm, .int .i64 ro, .slice ai li ci, .slice ao lo co, .int .i64 rc], .bool true]) (by simp [results, Tryd.f27, go_sem, hne, hne2, c0, c1, c2, c3, c4, f0, f1, f2, f3, f4, hp]) rfl ?_
          have hbe : Below w.heap.size w wr := below_next hb0 hb
          unfold RFind
          rw [HF.out.1, HF.out.2, HE.out.1, HE.out.2.1, HE.out.2.2]
          refine ⟨_, _, rfl, SI.out.later ?_, SO.out.later ?_, ?_⟩
          all_goals exact below_more (below_store5 hbe (Nat.le_refl _) _ _ _ _ _) _
        · have ho' : (ro == o) = false := by simp [ho]
          have HO : Hid (¬ ro = o) := ho
          clear ho
          go_wp2
          go_roundw
          case rel =>
            refine ⟨k + 1, by omega, by go_num, below_more hb _, fun i hi => ?_⟩
            by_cases e : i = k
            · subst e; exact fun h => HO.out (HE.out.2.1.symm.trans h.2)
            · exact HA.out i (by omega)
          case measure => simp [intOf]; omega
      · have hm' : (rm == m) = false := by simp [hm]
        have HO : Hid (¬ rm = m) := hm
        clear hm
        go_wp2
        go_roundw
        case rel =>
          refine ⟨k + 1, by omega, by go_num, below_more hb _, fun i hi => ?_⟩
          by_cases e : i = k
          · subst e; exact fun h => HO.out (HE.out.1.symm.trans h.1)
          · exact HA.out i (by omega)
        case measure => simp [intOf]; omega
    · have e : k = 24 := by omega
      subst e
      obtain ⟨hF, hI⟩ := fr_no HA.out
      have HF : Hid (fr m o = noRw ∧ fi m o = false) := ⟨hF, hI⟩
      clear hF hI
      go_wp2
      refine bodyPost_ret (v := .tuple #[.agg #[.int .i64 0, .int .i64 0, .slice none 0 0, .slice none 0 0, .int .i64 0], .bool false]) (by simp [results, Tryd.f27, go_sem, hne, hne2, c0, c1, c2, c3, c4, f0, f1, f2, f3, f4, hp]) rfl ?_
      have hbe : Below w.heap.size w wr := below_next hb0 hb
      unfold RFind
      rw [HF.out.1, HF.out.2]
      exact ⟨_, _, rfl, ISl.nil _, ISl.nil _, below_store5 hbe (Nat.le_refl _) _ _ _ _ _⟩
end Go.Proofs.YtpboleifllcehaaDoor
