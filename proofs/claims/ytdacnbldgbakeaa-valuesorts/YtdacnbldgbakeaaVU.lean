/- The contract of Sort, by the library's contract of slices.SortFunc. Conditions: at most a million values. -/
import Derived.Test.YtdacnbldgbakeaaVT
import Derived.Test.YtdacnbldgbakeaaVJ
import Derived.Test.YtdacnbldgbakeaaVS
import Derived.Lib.OwnBridge
import Derived.Laws.CopyOwn
namespace Go.Proofs.Ytdacnbldgbakeaa
open Go.RowKit Go.PlainAid Go.Sort Go.Lib Go.Shelf
set_option linter.unusedVariables false

/-- copy of a row of values over a row of as many that lies at the beginning of a block -/
theorem wpList_copyV {ops : Array Oper} {rest : List Oper} {o : Oper} {a : Act} {w : World} {Q : Exit → Act → World → Prop} (hgd : o.guard = none) (d s : Operand)
    (ho : o.op = .call { callee := .builtin .copy, args := #[d, s], argTypes := #[30, 30] }) (g n dc : Nat) (hd : a.eval d = .slice (some ⟨g, 0, none⟩) n dc)
    (u : Value) (ys : List Val) (hs : a.eval s = u) (hu : VSl w u ys) (hn : ys.length = n) (cur : Array Value) (t : TypeId) (hg : w.heap[g]? = some (.cells cur t (0, 0))) (hcur : cur.size = n * 3)
    (h : wpList Try.prog ops Q rest (a.put o.dst (goInt n)) (w.setRow g (cellsV ys).toArray)) : wpList Try.prog ops Q (o :: rest) a w := by
  refine wpList_plain hgd fun K hK => ?_
  obtain ⟨au, cu, hv, _, _, hnn⟩ := hu.form
  subst hv
  have hrun : (Builtin.copy_ #[30, 30] o.type #[.slice (some ⟨g, 0, none⟩) n dc, .slice au ys.length cu]).run Try.prog w = .ok (goInt n) (w.setRow g (cellsV ys).toArray) := by
    cases au with
    | none =>
      obtain ⟨hy, hc⟩ := hnn rfl
      subst hy hc
      subst hn
      have e := run_copy_nil (P := Try.prog) w 30 30 o.type 25 ⟨g, 0, none⟩ 0 dc Try.underlying30 (by kernel_rfl)
      have hc0 : cur = #[] := Array.eq_empty_of_size_eq_zero (by rw [hcur]; rfl)
      subst hc0
      have e2 : w.setRow g (cellsV []).toArray = w := setRow_self w g #[] t (0, 0) hg
      rw [e2]
      exact e
    | some ad =>
      rw [hn]
      exact run_copyV w o.type g n dc ad cu cur t ys hg hn hcur (vsl_cells hu)
  unfold Oper.wp
  simp [execOp, ho, resolve, invoke, builtin, hd, hs, hrun, Result.andThen]
  exact hK _ _ h

theorem made_row {w w1 : World} {n : Nat} {xs : List Value} (h : w1.ownsRow w.heap.size 25 3 (.slice (some ⟨w.heap.size, 0, none⟩) n n) n xs) : ∃ cur : Array Value, w1.heap[w.heap.size]? = some (.cells cur 25 (0, 0)) ∧ cur.size = n * 3 := by
  rcases h.2 with ⟨h1, _⟩ | ⟨g, cap, cur, hv, _, hg, _, _, hs, _⟩
  · cases h1
  · injection hv with h1 h2 h3
    injection h1 with h1
    injection h1 with h1 _ _
    subst h1 h3
    exact ⟨cur, hg, hs⟩

/-- x is not behind y -/
def leV (x y : Val) : Bool := !(ltOf cv) y x
theorem ltOf_cv (x y : Val) : ltOf cv x y = decide (cv x y < 0) := rfl
theorem leV_iff (x y : Val) : leV x y = true ↔ cv x y ≤ 0 := by
  unfold leV
  rw [ltOf_cv, good_cv.2.1 x y]
  simp
theorem swoV : SWO (ltOf cv) := by
  refine ⟨fun x => ?_, fun x y z h1 h2 => ?_, fun x y z h1 h2 => ?_⟩
  · rw [ltOf_cv, (good_cv.2.2.1 x x).2 rfl]; rfl
  · rw [ltOf_cv, decide_eq_true_iff] at *
    have t := good_cv.2.2.2 x y z (by omega) (by omega)
    rcases Int.lt_or_lt_of_ne (a := cv x z) (b := 0) (fun e => by
      have e2 := (good_cv.2.2.1 x z).1 e
      subst e2
      have := good_cv.2.1 x y
      omega) with h | h
    · exact h
    · omega
  · rw [ltOf_cv, decide_eq_false_iff_not] at *
    have a := good_cv.2.1 x y
    have b := good_cv.2.1 y z
    have c := good_cv.2.1 x z
    have t := good_cv.2.2.2 z y x (by omega) (by omega)
    omega
theorem oneV (x y : Val) (h1 : ltOf cv x y = false) (h2 : ltOf cv y x = false) : x = y := by
  rw [ltOf_cv, decide_eq_false_iff_not] at *
  have a := good_cv.2.1 x y
  exact (good_cv.2.2.1 x y).1 (by omega)
/-- the values in order -/
def sortL (xs : List Val) : List Val := xs.mergeSort leV
theorem sortL_len (xs : List Val) : (sortL xs).length = xs.length := List.length_mergeSort _

theorem cmpLaysV (blk off size : Nat) (w : World) : CmpLays Try.prog 10 #[] encV 3 cv blk off size w :=
  fun _ _ _ _ x y => compare_any x.1 x.2.1 y.1 y.2.1 x.2.2 y.2.2 _

theorem holdsV {w : World} {g : Nat} {t : TypeId} {xs : List Val} (hg : w.heap[g]? = some (.cells (cellsV xs).toArray t (0, 0))) : HoldsK encV 3 w g 0 xs.toArray := by
  intro i hi
  rw [size_flatK] at hi
  rw [get_flatK _ _ _ _ hi]
  have hi' : i < xs.length * 3 := by simpa using hi
  obtain ⟨r0, r1, r2⟩ := cellsV_at xs (i / 3) (by omega)
  have hx : xs.toArray[i / 3]! = nv xs (i / 3) := by
    rw [nv_eq xs (i / 3) (by omega), getElem!_pos _ _ (by simp; omega)]; simp
  rw [hx]
  have hc : ∀ v, (cellsV xs)[i]? = some v → w.cell? ⟨g, 0 + i, none⟩ = some v ∧ w.frozen? ⟨g, 0 + i, none⟩ = false := by
    intro v hv
    rw [Nat.zero_add]
    refine ⟨?_, ?_⟩
    · rw [cell_of_row w g i _ t (0, 0) hg]; simpa using hv
    · simp [World.frozen?, hg]
  rcases (by omega : i % 3 = 0 ∨ i % 3 = 1 ∨ i % 3 = 2) with r | r | r
  · rw [r]; rw [show i / 3 * 3 = i from by omega] at r0; exact hc _ r0
  · rw [r]; rw [show i / 3 * 3 + 1 = i from by omega] at r1; exact hc _ r1
  · rw [r]; rw [show i / 3 * 3 + 2 = i from by omega] at r2; exact hc _ r2
theorem vsl_of_holds {w : World} {g n : Nat} {ys : List Val} (h : HoldsK encV 3 w g 0 ys.toArray) (hl : g < w.heap.size) (hn : ys.length = n) (hm : n ≤ 9223372036854775807) : VSl w (.slice (some ⟨g, 0, none⟩) n n) ys := by
  subst hn
  refine ⟨_, ys.length, rfl, Nat.le_refl _, hm, .inr ⟨g, 0, rfl, hl, fun i hi => ?_⟩⟩
  have hx : ys.toArray[i]! = nv ys i := by
    rw [nv_eq ys i hi, getElem!_pos _ _ (by simpa using hi)]; simp
  have c0 := (HoldsK.cell h (i := i) (c := 0) (by simpa using hi) (by decide)).1
  have c1 := (HoldsK.cell h (i := i) (c := 1) (by simpa using hi) (by decide)).1
  have c2 := (HoldsK.cell h (i := i) (c := 2) (by simpa using hi) (by decide)).1
  rw [hx] at c0 c1 c2
  exact ⟨c0, c1, c2⟩

/-- what Sort answers -/
def RSort (w : World) (ys : List Val) (e : Ending) (w' : World) : Prop := ∃ v, e = .returned v ∧ VSl w' v ys ∧ Below w.heap.size w w'

theorem below_grow2 {B : Nat} {w0 w : World} (h : Below B w0 w) (hB : B ≤ w.heap.size) (os : Array Obj) : Below B w0 (grow w os) := by
  refine ⟨h.os, h.tape, h.output, ?_, fun k hk => ?_⟩
  · show w0.heap.size ≤ (w.heap ++ os).size
    rw [Array.size_append]; have := h.size; omega
  · show (w.heap ++ os)[k]? = w0.heap[k]?
    rw [Array.getElem?_append_left (by omega)]; exact h.block k hk

theorem grown_none {w w' : World} (h : w.grownBy w' none) : Below w.heap.size w w' := ⟨h.os, h.tape, h.output, h.size, fun k hk => h.block k hk (fun e => by cases e)⟩

set_option maxHeartbeats 2000000 in
theorem sort_any (v : Value) (xs : List Val) (w : World) (hv : VSl w v xs) (hn : xs.length ≤ 1000000) : Calls Try.prog 12 #[v] w fun e w' => RSort w (sortL xs) e w' := by
  obtain ⟨i0, hi, hz0, hz1, hz2⟩ := info_parts infoV
  have HV : Hid (VSl w v xs) := hv
  obtain ⟨a, c, rfl, _, _, _⟩ := hv.form
  clear hv
  have eg : ∀ args w, (callFunc 10 args).run Try.prog w = .ok (.enter 10 args) w := enters_of Try.func10 (by kernel_rfl) rfl
  obtain ⟨n, hN⟩ : ∃ n, xs.length = n := ⟨_, rfl⟩
  rw [hN] at HV hn ⊢
  have HN : Hid (xs.length = n) := hN
  clear hN
  go_enter Try.func12, Try.ntmps12
  go_wp2_with (first
    | (at_make; refine wpList_make_full _ rfl (.tmp 5) (.tmp 5) 30 rfl w.heap.size 25 i0 (.agg #[.int .i64 0, .int .i64 0, .string ⟨#[]⟩]) 3 Try.underlying30 hi hz0 hz1 .i64 .i64 _ _ n rfl rfl rfl rfl (by rw [hz2]; omega) (by unfold maxLen; omega) (Nat.le_refl _) ?_; intro w1 hown hgrow; have HB1 : Hid (Below w.heap.size w w1) := grown_none hgrow; obtain ⟨cur, hg, hcur⟩ := made_row hown; have HG : Hid (w1.heap[w.heap.size]? = some (.cells cur 25 (0, 0))) := hg; have HC : Hid (cur.size = n * 3) := hcur; clear hown hgrow hg hcur)
    | ((with_reducible refine wpList_copyV ?_ (.tmp 7) (.tmp 8) ?_ w.heap.size n n ?_ (.slice a n c) xs ?_ (HV.out.later HB1.out) HN.out cur 25 HG.out HC.out ?_); (exact rfl); (exact rfl); (exact rfl); (exact rfl)))
  have hg2 : (w1.setRow w.heap.size (cellsV xs).toArray).heap[w.heap.size]? = some (.cells (cellsV xs).toArray 25 (0, 0)) := setRow_heap w1 w.heap.size _ _ 25 _ HG.out
  have hb2 : Below w.heap.size w (w1.setRow w.heap.size (cellsV xs).toArray) := below_setRow HB1.out (Nat.le_refl _) _
  generalize w1.setRow w.heap.size (cellsV xs).toArray = w2 at hg2 hb2 ⊢
  have hblk : w.heap.size < w2.heap.size := (Array.getElem?_eq_some_iff.1 hg2).1
  have hsz : xs.toArray.size = n := by simpa using HN.out
  have hcon := AnyQ.slices_SortFunc_total sortLays 3 Try.isAgg25 Try.sizeOf25 encV (fun _ => rfl) (fun x v hv => by simp [encV] at hv; rcases hv with rfl | rfl | rfl <;> rfl) cv swoV 10 #[] w.heap.size 0 n xs.toArray w2 eg (cmpLaysV _ _ _ _) (holdsV hg2) hblk (by omega) oneV
  change Calls Try.prog 23 _ _ _ at hcon
  rw [hsz] at hcon
  refine hcon.mono ?_
  rintro e w3 ⟨rfl, q, os, hw3⟩
  have hl : (sortL xs).length = n := by rw [sortL_len]; exact HN.out
  have hw3' : w3 = sortWorldK encV 3 w2 w.heap.size 0 q (sortL xs).toArray os := hw3
  clear hw3 hcon
  have hH3 : HoldsK encV 3 w3 w.heap.size 0 (sortL xs).toArray := by
    rw [hw3']
    exact holdsK_sortWorldK_c encV 3 w2 w.heap.size 0 xs.toArray (sortL xs).toArray q os (holdsV hg2) hblk (by rw [hsz]; simpa using hl)
  have hb3 : Below w.heap.size w w3 := by
    rw [hw3']
    exact below_grow2 (below_putRow hb2 (Nat.le_refl _)) (by show w.heap.size ≤ (putRow id (Sort.ahead w2 q) w.heap.size 0 _).heap.size; exact (below_putRow (enc := id) (q := q) (d := flatK encV 3 (sortL xs).toArray) hb2 (Nat.le_refl _)).size) os
  have hlt : w.heap.size < w3.heap.size := by
    rw [hw3']
    show w.heap.size < ((putRow id (Sort.ahead w2 q) w.heap.size 0 (flatK encV 3 (sortL xs).toArray)).heap ++ os).size
    rw [Array.size_append, size_putRow]
    show w.heap.size < w2.heap.size + os.size
    omega
  have hv3 := vsl_of_holds hH3 hlt hl (by omega)
  clear hw3' hH3 hg2
  go_wp2
  go_ret
  exact ⟨_, rfl, hv3, hb3⟩
end Go.Proofs.Ytdacnbldgbakeaa
