/- The contract of the iterator of primes, and of the program's Nth: the i-th prime. No conditions. -/
import Derived.Test.YtilfmemfnheppaaDoorPC
import Derived.RangeFuncNested
import Derived.RangeFuncBound
import Derived.RangeFuncCalls
import Derived.RangeFuncLeaves
import Derived.Shelf.Abstract
import Derived.Shelf.RegionOpen
import Derived.OwnWalkIn
import Derived.TacticsInMore
import Derived.LoopNIn
import Derived.LoopIn
namespace Go.Proofs.YtilfmemfnheppaaDoor.Pr
open Go.RowKit Go.Shelf
attribute [local go_sem] Oper.semAt_some
set_option linter.unusedVariables false

set_option maxHeartbeats 1000000 in
theorem primes_in (n : Nat) (hn : 1 ≤ n) (l n₀ : Nat) (J Jx : List Int → World → Prop)
    (hY : ∀ pre x W, J pre W → pre.length < 1048577 → YieldAt Fence.wide (n - 1) Tryd.prog l #[.int .i64 x] W fun e W' =>
      (e = .returned (.bool true) ∧ J (pre ++ [x]) W' ∧ Below n₀ W W') ∨ (e = .returned (.bool false) ∧ Jx (pre ++ [x]) W'))
    (W : World) (h0 : J [] W) :
    CallsIn Fence.wide n Tryd.prog 53 #[.func (.yield l) #[] #[]] W fun e W' => (∃ v, e = .returned v) ∧
      ((∃ ys, ys = upTo 1048577 ∧ J ys W') ∨ (∃ pre, (∃ m, pre = upTo m) ∧ Jx pre W')) := by
  refine callsIn_of_wp Tryd.func53 rfl trivial ?_ rfl
  simp only [Tryd.ntmps53, List.size_toArray, List.length_cons, List.length_nil, Nat.reduceAdd, Nat.reduceSub, Array.replicate_succ, Array.replicate_zero, List.push_toArray, List.append_toArray, List.nil_append, List.cons_append]
  gi_wp2
  gi_loopw [2] (fun p wr => ∃ m : Nat, 2 ≤ m ∧ m ≤ 1048577 ∧ p = .int .i64 m ∧ Hid (J (upTo m) wr)) (fun p _ => (1048577 - intOf p).toNat)
  case atStart =>
    exact ⟨2, by omega, by omega, rfl, (show J (upTo 2) _ from by rw [upTo_small 2 (by omega)]; exact h0)⟩
  case round =>
    obtain ⟨m, hm2, hm, rfl, HJ⟩ := hrel
    by_cases hlt : m ≤ 1048576
    · cases hp : isB m
      · have HP : Hid (isB m = false) := hp
        gi_wp2_with (refine ⟨trivial, ?_⟩; gi_at_call 56; refine (callsIn_wide.2 (is_any _ _ (by omega) (by omega))).mono ?_; rintro e w1 ⟨rfl, rfl⟩; rw [hp])
        refine ⟨fun _ h => (by cases h), ?_⟩
        gi_wp2
        go_roundw
        case rel => exact ⟨m + 1, by omega, by omega, by go_num, (show J (upTo (m + 1)) _ from by rw [upTo_no m HP.out]; exact HJ.out)⟩
        case measure => simp [intOf]; omega
      · have HP : Hid (isB m = true) := hp
        have hlen := upTo_len m
        obtain ⟨fn, tmps, assign, body, hy, hR⟩ := hY (upTo m) m wr HJ.out (by omega)
        gi_wp2_with (refine ⟨trivial, ?_⟩; gi_at_call 56; refine (callsIn_wide.2 (is_any _ _ (by omega) (by omega))).mono ?_; rintro e w1 ⟨rfl, rfl⟩; rw [hp])
        refine hR.mono ?_
        rintro e W3 (⟨rfl, hJ3, hk3⟩ | ⟨rfl, hJx3⟩)
        · have HJ3 : Hid (J (upTo m ++ [(m : Int)]) W3) := hJ3
          clear hJ3
          gi_wp2
          go_roundw
          case rel => exact ⟨m + 1, by omega, by omega, by go_num, (show J (upTo (m + 1)) _ from by rw [upTo_yes m HP.out]; exact HJ3.out)⟩
          case measure => simp [intOf]; omega
        · have HJ3 : Hid (Jx (upTo m ++ [(m : Int)]) W3) := hJx3
          clear hJx3
          gi_wp2
          refine bodyPost_ret (results_none rfl _ _ _) rfl ?_
          exact ⟨⟨_, rfl⟩, .inr ⟨_, ⟨m + 1, (upTo_yes m HP.out).symm⟩, HJ3.out⟩⟩
    · gi_wp2
      go_end0
      have e : m = 1048577 := by omega
      refine ⟨⟨_, rfl⟩, .inl ⟨_, rfl, ?_⟩⟩
      rw [← e]; exact HJ.out
theorem primes_stops (n : Nat) (hn : 1 ≤ n) (n₀ : Nat) (w : World) :
    SeqStopsK Fence.wide n Tryd.prog 53 #[] (fun x : Int => #[.int .i64 x]) (Below n₀) (fun xs => xs = upTo 1048577) (fun pre => ∃ m, pre = upTo m) 1048577 w :=
  fun l J Jx W _ _ _ hY h0 => primes_in n hn l n₀ J Jx hY W h0

theorem len_ge (n : Nat) (h : 542 ≤ n) : 100 ≤ (upTo n).length := by
  obtain ⟨d, rfl⟩ : ∃ d, n = 542 + d := ⟨n - 542, by omega⟩
  have := (upTo_pre 542 d).length_le
  rw [upTo_hundred] at this
  exact this

set_option maxRecDepth 100000 in
set_option maxHeartbeats 2000000 in
theorem nth_in (n : Nat) (hn : 3 ≤ n) (m : Nat) (hm : m < 100) (w : World) :
    CallsIn Fence.wide n Tryd.prog 50 #[.int .i64 m] w fun e W' => e = .returned (.int .i64 (pr m)) ∧ Below w.heap.size w W' := by
  have h1 : 1 ≤ n := by omega
  refine callsIn_of_wp_marks Tryd.func50 rfl trivial ?_ rfl
  simp only [Tryd.ntmps50, List.size_toArray, List.length_cons, List.length_nil, Nat.reduceAdd, Nat.reduceSub, Array.replicate_succ, Array.replicate_zero, List.push_toArray, List.append_toArray, List.nil_append, List.cons_append]
  gi_wp2
  have c0 := (Boxed.new w 3 (.int .i64 m)).alloc (.cells #[.int .i64 0] 3)
  have c1 := Boxed.new (w.alloc (.cells #[.int .i64 m] 3)) 3 (.int .i64 0)
  rw [World.size_alloc] at c1
  have hB0 : Below w.heap.size w ((w.alloc (.cells #[.int .i64 m] 3)).alloc (.cells #[.int .i64 0] 3)) := ((Below.refl _ w).alloc (Nat.le_refl _) _).alloc (by simp) _
  refine wpIn_rangeFunc_ownF rfl h1 (gf := 53) (lb := #[]) rfl trivial (enters_of Tryd.func53 (by kernel_rfl) rfl)
    (primes_stops (n - 1) (by omega) w.heap.size _) belowK_t (belowK_b (by simp; omega)) (Below.refl _ _) (fun _ => rfl)
    (fun pre W => (pre.length ≤ m ∧ W.cell? ⟨w.heap.size, 0, none⟩ = some (.int .i64 ((m : Int) - (pre.length : Int))) ∧ W.frozen? ⟨w.heap.size, 0, none⟩ = false ∧ W.cell? ⟨w.heap.size + 1, 0, none⟩ = some (.int .i64 0) ∧ W.frozen? ⟨w.heap.size + 1, 0, none⟩ = false) ∧ Below w.heap.size w W)
    (fun c pre W => (c = .ret ∧ (∃ q x, pre = q ++ [x] ∧ q.length = m ∧ W.cell? ⟨w.heap.size + 1, 0, none⟩ = some (.int .i64 x))) ∧ Below w.heap.size w W)
    (OwnFrom.and (Own.from (fun s A B row hs hg hr => ⟨hs.1, cell_kept hs.2.1 hg hr, (frozen_kept hs.2.1 hg hr).trans hs.2.2.1, cell_kept hs.2.2.2.1 hg hr, (frozen_kept hs.2.2.2.1 hg hr).trans hs.2.2.2.2⟩) _) (ownFrom_below (Nat.le_refl _) (by simp; omega)))
    (fun c => OwnFrom.and (Own.from (fun s A B row hs hg hr => by obtain ⟨hc, q, x, h1, h2, h3⟩ := hs; exact ⟨hc, q, x, h1, h2, cell_kept h3 hg hr⟩) _) (ownFrom_below (Nat.le_refl _) (by simp; omega)))
    ⟨⟨by simp, by simp [c0.cell], c0.frozen, c1.cell, c1.frozen⟩, hB0⟩
    (fun x => { tmps := #[.int .i64 m, .pointer (some ⟨w.heap.size, 0, none⟩), .pointer (some ⟨w.heap.size + 1, 0, none⟩), .int .i64 x, .int .i64 m, .bool (decide ((m : Int) < 0)), .bool (decide ((m : Int) < 0)), .int .i64 m, .bool (decide ((100 : Int) ≤ m)), .bool (decide ((m : Int) < 0) || decide ((100 : Int) ≤ m)), .int .i64 x, undef, undef, undef, undef, undef], defers := [] }) ?assign ?body ?done ?stop
  case assign =>
    intro l x W K hK
    gi_wp2
    exact hK
  case body =>
    rintro l pre x W ⟨⟨hp, hci, hfi, hcr, hfr⟩, hB⟩ _
    by_cases he : pre.length = m
    · have he' : (((m : Int) - (pre.length : Int)) == 0) = true := by simp; omega
      have HE : Hid (pre.length = m) := he
      clear he
      gi_wp2
      exact ⟨KeepsOthers.setCell _ _ _, ⟨rfl, pre, x, rfl, HE.out, World.cell?_setCell_same' _ _ _ (by rw [hcr]; rfl)⟩, hB.setCell (p := ⟨w.heap.size + 1, 0, none⟩) (by simp) _⟩
    · have he' : (((m : Int) - (pre.length : Int)) == 0) = false := by simp; omega
      have HE : Hid (¬ pre.length = m) := he
      clear he
      gi_wp2
      have hne := HE.out
      refine ⟨KeepsOthers.setCell _ _ _, (Below.refl w.heap.size W).setCell (p := ⟨w.heap.size, 0, none⟩) (Nat.le_refl _) _, ⟨by simp; omega, ?_, by rw [World.frozen?_setCell]; exact hfi, ?_, by rw [World.frozen?_setCell]; exact hfr⟩, hB.setCell (p := ⟨w.heap.size, 0, none⟩) (Nat.le_refl _) _⟩
      · rw [World.cell?_setCell_same' _ _ _ (by rw [hci]; rfl)]
        congr 2
        simp; omega
      · rw [World.cell?_setCell_other _ _ _ _ (by simp)]; exact hcr
  case done =>
    rintro D ys W hD hys ⟨⟨hlen, _⟩, hB⟩ hK
    rw [hys] at hlen
    have := len_ge 1048577 (by omega)
    omega
  case stop =>
    rintro D c pre W hD ⟨mm, hmm⟩ ⟨⟨rfl, q, x, hq, hqm, hcr⟩, hB⟩ hK
    have hx : pr m = x := by
      have hl : (upTo mm).length = m + 1 := by rw [← hmm, hq, List.length_append, hqm]; rfl
      rw [pr_at mm m hm (by omega), nth_eq _ m (by omega)]
      simp only [← hmm, hq]
      rw [List.getElem_append_right (by omega)]
      simp
    gi_wp2
    refine ⟨by simp, .inl ⟨_, _, rfl, run_takeDeferred hK, ?_⟩⟩
    have hc5 := cell_kept hcr (grownBy_putObj' _ D (.deferred none)) (fun r e => by cases e; exact ⟨_, hK, rfl⟩)
    refine ⟨.int .i64 x, ?_, by rw [hx], hB.trans (belowK_b (w := w) (Nat.le_refl _) W D _ _ (by simp at hD; omega) hK rfl rfl)⟩
    simp [results, Tryd.f50, go_sem, hc5]
theorem pr_out (i : Int) (h : i < 0 ∨ 99 < i) : pr i = 0 := by unfold pr; rw [if_neg (by omega)]

set_option maxHeartbeats 1000000 in
theorem nth_no (i : Int) (w : World) (h : i < 0 ∨ 99 < i) :
    Calls Tryd.prog 50 #[.int .i64 i] w fun e w' => e = .returned (.int .i64 (pr i)) ∧ Below w.heap.size w w' := by
  by_cases ha : i < 0
  · go_enter Tryd.func50, Tryd.ntmps50
    go_wp2
    refine bodyPost_ret (v := .int .i64 0) ?_ rfl ?_
    · simp [results, Tryd.f50, go_sem]
    · exact ⟨ret_int (pr_out i h).symm, ((Below.refl _ w).alloc (Nat.le_refl _) _).alloc (by simp) _⟩
  · have hb : 99 < i := by omega
    go_enter Tryd.func50, Tryd.ntmps50
    go_wp2
    refine bodyPost_ret (v := .int .i64 0) ?_ rfl ?_
    · simp [results, Tryd.f50, go_sem]
    · exact ⟨ret_int (pr_out i h).symm, ((Below.refl _ w).alloc (Nat.le_refl _) _).alloc (by simp) _⟩

theorem nth_any (i : Int) (w : World) :
    Calls Tryd.prog 50 #[.int .i64 i] w fun e w' => e = .returned (.int .i64 (pr i)) ∧ Below w.heap.size w w' := by
  by_cases h : i < 0 ∨ 99 < i
  · exact nth_no i w h
  · obtain ⟨m, rfl⟩ : ∃ m : Nat, i = m := ⟨i.toNat, by omega⟩
    exact callsIn_wide.1 (nth_in 3 (by omega) m (by omega) w)
end Go.Proofs.YtilfmemfnheppaaDoor.Pr
