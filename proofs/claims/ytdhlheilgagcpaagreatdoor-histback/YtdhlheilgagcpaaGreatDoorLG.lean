/- The contract of the program's iterator of lines. Conditions: at most 2^62 bytes. -/
import Derived.Test.YtdhlheilgagcpaaGreatDoorBM
import Derived.RangeFuncNested
import Derived.RangeFuncBound
import Derived.RangeFuncCalls
import Derived.RangeFuncLeaves
import Derived.RangeFuncBox
import Derived.Maps.AppendAt
import Derived.Shelf.Abstract
import Derived.Shelf.RegionOpen
import Derived.OwnWalkIn
import Derived.TacticsInMore
import Derived.LoopNIn
import Derived.LoopIn
namespace Go.Proofs.YtdhlheilgagcpaaGreatDoor
namespace Ln
open Go.RowKit Go.Shelf Go.PlainAid
attribute [local go_sem] Oper.semAt_some
set_option linter.unusedVariables false

/-- the lines of a text with their ends told: what the iterator yields -/
def itr (l : List UInt8) : List (List UInt8 × Bool) := (cutL 10 l).1.map (fun x => (x, true)) ++ (if (cutL 10 l).2 = [] then [] else [((cutL 10 l).2, false)])
theorem itr_nil : itr [] = [] := rfl
theorem itr_first (a b : List UInt8) (h : (10 : UInt8) ∉ a) : itr (a ++ 10 :: b) = (a, true) :: itr b := by unfold itr; rw [cutL_first 10 a b h]; rfl
theorem itr_last (l : List UInt8) (h : (10 : UInt8) ∉ l) (h0 : l ≠ []) : itr l = [(l, false)] := by unfold itr; rw [cutL_none 10 l h]; simp [h0]
/-- a pair as the iterator hands it on -/
abbrev encL (x : List UInt8 × Bool) : Array Value := #[.string (bs x.1), .bool x.2]
def sizeV : Value → Nat
  | .string s => s.size
  | _ => 0
theorem abides_below {β : Type} {B : Nat} {J : β → World → Prop} (h : AbidesFrom B J) {s : β} {W W' : World} (hs : J s W) (hb : Below W.heap.size W W') : J s W' :=
  h s W W' none hs ⟨hb.os, hb.tape, hb.output, hb.size, fun k hk _ => hb.block k hk⟩ (fun r e => by cases e)

set_option maxRecDepth 100000 in
set_option maxHeartbeats 2000000 in
theorem lines1_in (n : Nat) (hn : 1 ≤ n) (l Bn n₀ N : Nat) (s : ByteArray) (hz : s.size ≤ 4611686018427387904) (hN : (itr (tx s)).length ≤ N) (J Jx : List (List UInt8 × Bool) → World → Prop)
    (hY : ∀ pre x W, J pre W → pre.length < N → YieldAt Fence.wide (n - 1) Tryz.prog l (encL x) W fun e W' =>
      (e = .returned (.bool true) ∧ J (pre ++ [x]) W' ∧ Below n₀ W W') ∨ (e = .returned (.bool false) ∧ Jx (pre ++ [x]) W'))
    (W : World) (hJ : AbidesFrom W.heap.size J) (hBn : W.cell? ⟨Bn, 0, none⟩ = some (.string s)) (h0 : J [] W) :
    CallsIn Fence.wide n Tryz.prog 43 #[.func (.yield l) #[] #[], .pointer (some ⟨Bn, 0, none⟩)] W fun e W' => (∃ v, e = .returned v) ∧
      ((∃ ys, ys = itr (tx s) ∧ J ys W') ∨ (∃ pre, pre <+: itr (tx s) ∧ Jx pre W')) := by
  refine callsIn_of_wp Tryz.func43 rfl trivial ?_ rfl
  simp only [Tryz.ntmps43, List.size_toArray, List.length_cons, List.length_nil, Nat.reduceAdd, Nat.reduceSub, Array.replicate_succ, Array.replicate_zero, List.push_toArray, List.append_toArray, List.nil_append, List.cons_append]
  gi_wp2
  gi_loopw [3] (fun p wr => ∃ (pre : List (List UInt8 × Bool)) (r : List UInt8), p = .string (bs r) ∧ r.length ≤ s.size ∧ Hid (itr (tx s) = pre ++ itr r) ∧ Hid (J pre wr)) (fun p _ => sizeV p)
  case atStart => exact ⟨[], tx s, by rw [bs_tx], by rw [tx_len]; omega, rfl, h0⟩
  case round =>
    obtain ⟨pre, r, rfl, hrl, HI, HJ⟩ := hrel
    have hne := bs_toList r
    cases r with
    | nil =>
      gi_wp2
      go_end0
      exact ⟨⟨_, rfl⟩, .inl ⟨pre, by rw [HI.out, itr_nil, List.append_nil], HJ.out⟩⟩
    | cons b0 r0 =>
      have hz1 : (bs (b0 :: r0)).size ≤ 4611686018427387904 := by rw [bs_size]; omega
      have hc := cut_any (bs (b0 :: r0)) 10
      rw [tx_bs] at hc
      rcases cut_cases 10 (b0 :: r0) with ⟨h1, h2⟩ | ⟨a, b, h1, h2, h3⟩
      · rw [cutV_none 10 _ h1] at hc
        have HL : Hid (itr (b0 :: r0) = [(b0 :: r0, false)]) := itr_last _ h1 (by simp)
        have hlen : pre.length < N := by have := congrArg List.length HI.out; rw [HL.out] at this; simp at this; omega
        clear h1 h2
        gi_wp2_with (refine ⟨trivial, ?_⟩; gi_at_call 44; refine (callsIn_wide.2 (hc _ hz1)).mono ?_; rintro e w1 ⟨rfl, hb1⟩; obtain ⟨fn, tmps, assign, body, hy, hR⟩ := hY pre (b0 :: r0, false) w1 (abides_below hJ HJ.out hb1) hlen; dsimp only [encL] at hy; clear hb1)
        refine hR.mono ?_
        rintro e W3 (⟨rfl, hJ3, hk3⟩ | ⟨rfl, hJx3⟩)
        · have HJ3 : Hid (J (pre ++ [(b0 :: r0, false)]) W3) := hJ3
          clear hJ3
          gi_wp2
          go_roundw
          case rel => exact ⟨_, [], rfl, by simp, (show itr (tx s) = _ from by rw [HI.out, HL.out, itr_nil, List.append_nil]), HJ3⟩
          case measure => simp [sizeV, bs_size]; exact Nat.succ_pos _
        · have HJ3 : Hid (Jx (pre ++ [(b0 :: r0, false)]) W3) := hJx3
          clear hJx3
          gi_wp2
          refine bodyPost_ret (results_none rfl _ _ _) rfl ?_
          exact ⟨⟨_, rfl⟩, .inr ⟨_, ⟨[], by rw [HI.out, HL.out, List.append_nil]⟩, HJ3.out⟩⟩
      · have hv := cutV_at 10 a b h2
        rw [h1, hv] at hc
        have HL : Hid (itr (b0 :: r0) = (a, true) :: itr b) := by show itr (b0 :: r0) = _; rw [h1]; exact itr_first a b h2
        have hlen : pre.length < N := by have := congrArg List.length HI.out; rw [HL.out] at this; simp at this; omega
        have HB : Hid (b.length < (b0 :: r0).length) := by show b.length < (b0 :: r0).length; rw [h1]; simp; omega
        rw [← h1] at hc
        clear h1 h2 h3 hv
        gi_wp2_with (refine ⟨trivial, ?_⟩; gi_at_call 44; refine (callsIn_wide.2 (hc _ hz1)).mono ?_; rintro e w1 ⟨rfl, hb1⟩; obtain ⟨fn, tmps, assign, body, hy, hR⟩ := hY pre (a, true) w1 (abides_below hJ HJ.out hb1) hlen; dsimp only [encL] at hy; clear hb1)
        refine hR.mono ?_
        rintro e W3 (⟨rfl, hJ3, hk3⟩ | ⟨rfl, hJx3⟩)
        · have HJ3 : Hid (J (pre ++ [(a, true)]) W3) := hJ3
          clear hJ3
          gi_wp2
          go_roundw
          case rel => exact ⟨_, b, rfl, by have := HB.out; omega, (show itr (tx s) = _ from by rw [HI.out, HL.out]; simp), HJ3⟩
          case measure => exact HB.out
        · have HJ3 : Hid (Jx (pre ++ [(a, true)]) W3) := hJx3
          clear hJx3
          gi_wp2
          refine bodyPost_ret (results_none rfl _ _ _) rfl ?_
          exact ⟨⟨_, rfl⟩, .inr ⟨_, ⟨itr b, by rw [HI.out, HL.out]; simp⟩, HJ3.out⟩⟩

set_option maxHeartbeats 1000000 in
theorem lines_in (n : Nat) (s : ByteArray) (w : World) :
    CallsIn Fence.wide n Tryz.prog 23 #[.string s] w fun e w' => e = .returned (.func (.func 43) #[] #[.pointer (some ⟨w.heap.size, 0, none⟩)]) ∧ w' = w.alloc (.cells #[.string s] 9) := by
  refine callsIn_of_wp Tryz.func23 rfl trivial ?_ rfl
  simp only [Tryz.ntmps23, List.size_toArray, List.length_cons, List.length_nil, Nat.reduceAdd, Nat.reduceSub, Array.replicate_succ, Array.replicate_zero, List.push_toArray, List.append_toArray, List.nil_append, List.cons_append]
  gi_wp2
  go_ret
  exact ⟨rfl, rfl⟩
theorem lines_stops (n : Nat) (hn : 1 ≤ n) (Bn n₀ N : Nat) (s : ByteArray) (hz : s.size ≤ 4611686018427387904) (hN : (itr (tx s)).length ≤ N) (w : World) (hBn : Bn < w.heap.size) (hc : w.cell? ⟨Bn, 0, none⟩ = some (.string s)) :
    SeqStopsK Fence.wide n Tryz.prog 43 #[.pointer (some ⟨Bn, 0, none⟩)] encL (Below n₀) (fun ys => ys = itr (tx s)) (fun pre => pre <+: itr (tx s)) N w :=
  fun l J Jx W hW hJ _ hY h0 => lines1_in n hn l Bn n₀ N s hz hN J Jx hY W hJ ((hW.cell (p := ⟨Bn, 0, none⟩) hBn).trans hc) h0
end Ln
end Go.Proofs.YtdhlheilgagcpaaGreatDoor
