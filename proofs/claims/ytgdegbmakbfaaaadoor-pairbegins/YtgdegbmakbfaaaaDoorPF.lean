/- What a walk through a history has in memory; the contract of what may come out. Conditions: the table of signs and the lists lie in memory; sizes as the contracts take. -/
import Derived.Test.YtgdegbmakbfaaaaDoorPE
import Derived.Test.YtgdegbmakbfaaaaDoorSM
import Derived.Test.YtgdegbmakbfaaaaDoorBR
import Derived.Test.YtgdegbmakbfaaaaDoorBH
import Derived.BigQuiet
namespace Go.Proofs.YtgdegbmakbfaaaaDoor
open Go.RowKit Go.PlainAid Ln
set_option linter.unusedVariables false
set_option linter.unusedSimpArgs false

set_option maxRecDepth 100000 in
set_option maxHeartbeats 4000000 in
theorem comes_any (x : Ev) (va vr u : Value) (r : List Val) (w : World) (ht : Tb w) (h1 : va.oneCell' = true) (h2 : vr.oneCell' = true) (hu : VSl w u r) (hs : ∀ i, i < r.length → (nv r i).2.2.size ≤ 4611686018427387904) (hn : r.length ≤ 1000000) :
    Calls Tryd.prog 43 #[.agg (evC x va vr).toArray, u] w fun e w' => e = .returned (.bool (outE x r)) ∧ Below w.heap.size w w' := by
  obtain ⟨w1, hw1⟩ : ∃ w1, w.alloc (.cells (evC x va vr).toArray 47) = w1 := ⟨_, rfl⟩
  have B1 := Blk.new w (evC x va vr) 47
  rw [hw1] at B1
  have b1 : Below w.heap.size w w1 := by rw [← hw1]; exact below_more (Below.refl _ _) _
  have ea := hw1
  simp only [evC] at ea
  obtain ⟨p, hpp⟩ : ∃ p, w.heap.size = p := ⟨_, rfl⟩
  rw [hpp] at B1
  have HBel : Hid (Below w.heap.size w w1) := b1
  obtain ⟨a0, a1, a2, a3, a4, a5, a6, a7, a8, a9, a10, a11, a12, a13⟩ := ev_cells B1
  have hO : Hid (Calls Tryd.prog 52 #[.int .i64 x.m, .int .i64 x.o, u] w1 fun e w' => ROuts w1 x.m x.o r e w') := outs_any x.m x.o u r w1 (ht.later b1) (hu.later b1) hs hn
  clear hw1 B1 b1 ht hu hs hn
  simp only [evC]
  go_enter Tryd.func43, Tryd.ntmps43
  go_wp2_with fail
  refine hO.out.mono ?_
  rintro e w2 ⟨vo, rfl, _, b2⟩
  obtain ⟨ok, hok⟩ : ∃ ok, (fi x.m x.o && outsOK (fr x.m x.o) r) = ok := ⟨_, rfl⟩
  rw [hok]
  have HOk : Hid (outE x r = ok) := hok
  have HB2 : Hid (Below w.heap.size w w2) := below_next HBel.out b2
  clear b2 hok
  go_wp2
  go_ret
  exact ⟨by rw [HOk.out]; rfl, HB2.out⟩

/-! ### the walk's state -/
/-- the four cells of a walk -/
abbrev wkC (vh : Value) (mb ml : Nat) (ve : Value) : List Value := [vh, .map (some mb), .map (some ml), ve]
/-- a walk that has gone through n events: who is busy, who is lost, where each call ended -/
structure St (w : World) (B p mb ml : Nat) (vh ve : Value) (xs : List Ev) (n : Nat) : Prop where
  blk : Blk w p (wkC vh mb ml ve) 61
  lp : B ≤ p
  lb : B ≤ mb
  ll : B ≤ ml
  ne : mb ≠ ml
  busy : IMap 3 w mb n (openG xs n)
  lost : UMap w ml n (lostG xs n)
  ends : OwnI w B ve (endsB xs n)
theorem St.later {w w' : World} {B p mb ml n : Nat} {vh ve : Value} {xs : List Ev} (h : St w B p mb ml vh ve xs n) (hb : Below w.heap.size w w') : St w' B p mb ml vh ve xs n :=
  ⟨h.blk.later hb, h.lp, h.lb, h.ll, h.ne, h.busy.later hb, h.lost.later hb, h.ends.later hb⟩

set_option maxRecDepth 100000 in
set_option maxHeartbeats 4000000 in
theorem time_any (p mb ml n b o q c : Nat) (ve : Value) (ys : List YE) (w : World) (hk : Blk w p (wkC (.slice (some ⟨b, o, none⟩) q c) mb ml ve) 61) (hv : ∀ k, k < q → w.rangeAt b (o + k * 14) (encE (ye ys k))) (hn : n < q) (hq : q ≤ 1000000000) (hc : q ≤ c) (hc2 : c ≤ 9223372036854775807) :
    Calls Tryd.prog 33 #[.pointer (some ⟨p, 0, none⟩), .int .i64 (n : Int)] w fun e w' => e = .returned (.bool (timeB (ys.map (·.1)) n)) ∧ Below w.heap.size w w' := by
  have mixed : Tryd.prog.follows .mixedOrders = true := by kernel_rfl
  have k0 := fun d os => cell_regrown (hk.cell 0 _ rfl) d os
  have hnq : (n : Int) < (q : Int) := by omega
  have hn0 : (0 : Int) ≤ (n : Int) := by omega
  by_cases h0 : n = 0
  · subst h0
    go_enter Tryd.func33, Tryd.ntmps33
    go_wp2_with fail
    refine wp_region_quiet_below mixed (by kernel_rfl) ?_
    repeat (go_big_quiet_step (fail))
    refine wpQuiet_nil ?_
    intro _ hw'
    obtain ⟨⟨dq, osq⟩, hw''⟩ := hw'
    have HN : Hid (Below w.heap.size w _) := hw'' ▸ below_regrown w dq osq
    clear hw'' k0
    go_wp2
    go_ret
    exact ⟨rfl, HN.out⟩
  · obtain ⟨r, hr⟩ : ∃ r : Nat, (n : Int) - 1 = (r : Int) := ⟨n - 1, by omega⟩
    have hrn : n - 1 = r := by omega
    have hrq : r < q := by omega
    have hrq' : (r : Int) < (q : Int) := by omega
    have hr0 : (0 : Int) ≤ (r : Int) := by omega
    have hne : ((n : Int) == 0) = false := by simp [h0]
    have hne2 : (n == 0) = false := by simp [h0]
    have HX : Hid (timeB (ys.map (·.1)) n = decide ((ye ys r).1.t ≤ (ye ys n).1.t)) := by
      show _ = _
      unfold timeB
      rw [hrn, decide_eq_false h0, ev_ye, ev_ye]; rfl
    have c0 := fun d os => cell_regrown (hv r hrq 0 (.int .i64 (ye ys r).1.t) rfl) d os
    have c1 := fun d os => cell_regrown (hv n hn 0 (.int .i64 (ye ys n).1.t) rfl) d os
    simp only [Nat.add_zero] at c0 c1
    generalize (ye ys r).1.t = t0 at *
    generalize (ye ys n).1.t = t1 at *
    clear hv hrn h0
    go_enter Tryd.func33, Tryd.ntmps33
    go_wp2_with fail
    refine wp_region_quiet_below mixed (by kernel_rfl) ?_
    repeat (go_big_quiet_step (fail))
    refine wpQuiet_nil ?_
    intro _ hw'
    obtain ⟨⟨dq, osq⟩, hw''⟩ := hw'
    have HN : Hid (Below w.heap.size w _) := hw'' ▸ below_regrown w dq osq
    clear hw'' k0 c0 c1
    go_wp2
    go_ret
    exact ⟨by rw [HX.out]; rfl, HN.out⟩
end Go.Proofs.YtgdegbmakbfaaaaDoor
