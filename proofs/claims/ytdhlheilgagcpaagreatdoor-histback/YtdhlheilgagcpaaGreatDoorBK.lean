/- The contract of the program's iterator of lines. Conditions: at most 2^62 bytes. The contract of the program's Split: the lines of a text, or that the last one has no end. Conditions: at most 900,000 bytes. When two failures are one; the contract of what wakes a statement: the examples. No conditions. -/
import Derived.Test.YtdhlheilgagcpaaGreatDoorBM
import Derived.RangeFuncNested
import Derived.RangeFuncBound
import Derived.RangeFuncCalls
import Derived.RangeFuncLeaves
import Derived.RangeFuncBox
import Derived.Maps.AppendAt
import Derived.Shelf.Abstract
import Derived.Shelf.RegionOpen
import Derived.OwnWalkIn
import Derived.TacticsInMore
import Derived.LoopNIn
import Derived.LoopIn
import Derived.Test.YtdhlheilgagcpaaGreatDoorBL
import Derived.RegionIn
import Derived.Laws.StructEq
namespace Go.Proofs.YtdhlheilgagcpaaGreatDoor
namespace Ln
open Go.RowKit Go.Shelf Go.PlainAid
attribute [local go_sem] Oper.semAt_some
set_option linter.unusedVariables false

/-- the lines of a text with their ends told: what the iterator yields -/
def itr (l : List UInt8) : List (List UInt8 × Bool) := (cutL 10 l).1.map (fun x => (x, true)) ++ (if (cutL 10 l).2 = [] then [] else [((cutL 10 l).2, false)])
theorem itr_nil : itr [] = [] := rfl
theorem itr_first (a b : List UInt8) (h : (10 : UInt8) ∉ a) : itr (a ++ 10 :: b) = (a, true) :: itr b := by unfold itr; rw [cutL_first 10 a b h]; rfl
theorem itr_last (l : List UInt8) (h : (10 : UInt8) ∉ l) (h0 : l ≠ []) : itr l = [(l, false)] := by unfold itr; rw [cutL_none 10 l h]; simp [h0]
/-- a pair as the iterator hands it on -/
abbrev encL (x : List UInt8 × Bool) : Array Value := #[.string (bs x.1), .bool x.2]
def sizeV : Value → Nat
  | .string s => s.size
  | _ => 0
theorem abides_below {β : Type} {B : Nat} {J : β → World → Prop} (h : AbidesFrom B J) {s : β} {W W' : World} (hs : J s W) (hb : Below W.heap.size W W') : J s W' :=
  h s W W' none hs ⟨hb.os, hb.tape, hb.output, hb.size, fun k hk _ => hb.block k hk⟩ (fun r e => by cases e)

set_option maxRecDepth 100000 in
set_option maxHeartbeats 2000000 in
theorem lines1_in (n : Nat) (hn : 1 ≤ n) (l Bn n₀ N : Nat) (s : ByteArray) (hz : s.size ≤ 4611686018427387904) (hN : (itr (tx s)).length ≤ N) (J Jx : List (List UInt8 × Bool) → World → Prop)
    (hY : ∀ pre x W, J pre W → pre.length < N → YieldAt Fence.wide (n - 1) Tryz.prog l (encL x) W fun e W' =>
      (e = .returned (.bool true) ∧ J (pre ++ [x]) W' ∧ Below n₀ W W') ∨ (e = .returned (.bool false) ∧ Jx (pre ++ [x]) W'))
    (W : World) (hJ : AbidesFrom W.heap.size J) (hBn : W.cell? ⟨Bn, 0, none⟩ = some (.string s)) (h0 : J [] W) :
    CallsIn Fence.wide n Tryz.prog 43 #[.func (.yield l) #[] #[], .pointer (some ⟨Bn, 0, none⟩)] W fun e W' => (∃ v, e = .returned v) ∧
      ((∃ ys, ys = itr (tx s) ∧ J ys W') ∨ (∃ pre, pre <+: itr (tx s) ∧ Jx pre W')) := by
  refine callsIn_of_wp Tryz.func43 rfl trivial ?_ rfl
  simp only [Tryz.ntmps43, List.size_toArray, List.length_cons, List.length_nil, Nat.reduceAdd, Nat.reduceSub, Array.replicate_succ, Array.replicate_zero, List.push_toArray, List.append_toArray, List.nil_append, List.cons_append]
  gi_wp2
  gi_loopw [3] (fun p wr => ∃ (pre : List (List UInt8 × Bool)) (r : List UInt8), p = .string (bs r) ∧ r.length ≤ s.size ∧ Hid (itr (tx s) = pre ++ itr r) ∧ Hid (J pre wr)) (fun p _ => sizeV p)
  case atStart => exact ⟨[], tx s, by rw [bs_tx], by rw [tx_len]; omega, rfl, h0⟩
  case round =>
    obtain ⟨pre, r, rfl, hrl, HI, HJ⟩ := hrel
    have hne := bs_toList r
    cases r with
    | nil =>
      gi_wp2
      go_end0
      exact ⟨⟨_, rfl⟩, .inl ⟨pre, by rw [HI.out, itr_nil, List.append_nil], HJ.out⟩⟩
    | cons b0 r0 =>
      have hz1 : (bs (b0 :: r0)).size ≤ 4611686018427387904 := by rw [bs_size]; omega
      have hc := cut_any (bs (b0 :: r0)) 10
      rw [tx_bs] at hc
      rcases cut_cases 10 (b0 :: r0) with ⟨h1, h2⟩ | ⟨a, b, h1, h2, h3⟩
      · rw [cutV_none 10 _ h1] at hc
        have HL : Hid (itr (b0 :: r0) = [(b0 :: r0, false)]) := itr_last _ h1 (by simp)
        have hlen : pre.length < N := by have := congrArg List.length HI.out; rw [HL.out] at this; simp at this; omega
        clear h1 h2
        gi_wp2_with (refine ⟨trivial, ?_⟩; gi_at_call 44; refine (callsIn_wide.2 (hc _ hz1)).mono ?_; rintro e w1 ⟨rfl, hb1⟩; obtain ⟨fn, tmps, assign, body, hy, hR⟩ := hY pre (b0 :: r0, false) w1 (abides_below hJ HJ.out hb1) hlen; dsimp only [encL] at hy; clear hb1)
        refine hR.mono ?_
        rintro e W3 (⟨rfl, hJ3, hk3⟩ | ⟨rfl, hJx3⟩)
        · have HJ3 : Hid (J (pre ++ [(b0 :: r0, false)]) W3) := hJ3
          clear hJ3
          gi_wp2
          go_roundw
          case rel => exact ⟨_, [], rfl, by simp, (show itr (tx s) = _ from by rw [HI.out, HL.out, itr_nil, List.append_nil]), HJ3⟩
          case measure => simp [sizeV, bs_size]; exact Nat.succ_pos _
        · have HJ3 : Hid (Jx (pre ++ [(b0 :: r0, false)]) W3) := hJx3
          clear hJx3
          gi_wp2
          refine bodyPost_ret (results_none rfl _ _ _) rfl ?_
          exact ⟨⟨_, rfl⟩, .inr ⟨_, ⟨[], by rw [HI.out, HL.out, List.append_nil]⟩, HJ3.out⟩⟩
      · have hv := cutV_at 10 a b h2
        rw [h1, hv] at hc
        have HL : Hid (itr (b0 :: r0) = (a, true) :: itr b) := by show itr (b0 :: r0) = _; rw [h1]; exact itr_first a b h2
        have hlen : pre.length < N := by have := congrArg List.length HI.out; rw [HL.out] at this; simp at this; omega
        have HB : Hid (b.length < (b0 :: r0).length) := by show b.length < (b0 :: r0).length; rw [h1]; simp; omega
        rw [← h1] at hc
        clear h1 h2 h3 hv
        gi_wp2_with (refine ⟨trivial, ?_⟩; gi_at_call 44; refine (callsIn_wide.2 (hc _ hz1)).mono ?_; rintro e w1 ⟨rfl, hb1⟩; obtain ⟨fn, tmps, assign, body, hy, hR⟩ := hY pre (a, true) w1 (abides_below hJ HJ.out hb1) hlen; dsimp only [encL] at hy; clear hb1)
        refine hR.mono ?_
        rintro e W3 (⟨rfl, hJ3, hk3⟩ | ⟨rfl, hJx3⟩)
        · have HJ3 : Hid (J (pre ++ [(a, true)]) W3) := hJ3
          clear hJ3
          gi_wp2
          go_roundw
          case rel => exact ⟨_, b, rfl, by have := HB.out; omega, (show itr (tx s) = _ from by rw [HI.out, HL.out]; simp), HJ3⟩
          case measure => exact HB.out
        · have HJ3 : Hid (Jx (pre ++ [(a, true)]) W3) := hJx3
          clear hJx3
          gi_wp2
          refine bodyPost_ret (results_none rfl _ _ _) rfl ?_
          exact ⟨⟨_, rfl⟩, .inr ⟨_, ⟨itr b, by rw [HI.out, HL.out]; simp⟩, HJ3.out⟩⟩

set_option maxHeartbeats 1000000 in
theorem lines_in (n : Nat) (s : ByteArray) (w : World) :
    CallsIn Fence.wide n Tryz.prog 23 #[.string s] w fun e w' => e = .returned (.func (.func 43) #[] #[.pointer (some ⟨w.heap.size, 0, none⟩)]) ∧ w' = w.alloc (.cells #[.string s] 9) := by
  refine callsIn_of_wp Tryz.func23 rfl trivial ?_ rfl
  simp only [Tryz.ntmps23, List.size_toArray, List.length_cons, List.length_nil, Nat.reduceAdd, Nat.reduceSub, Array.replicate_succ, Array.replicate_zero, List.push_toArray, List.append_toArray, List.nil_append, List.cons_append]
  gi_wp2
  go_ret
  exact ⟨rfl, rfl⟩
theorem lines_stops (n : Nat) (hn : 1 ≤ n) (Bn n₀ N : Nat) (s : ByteArray) (hz : s.size ≤ 4611686018427387904) (hN : (itr (tx s)).length ≤ N) (w : World) (hBn : Bn < w.heap.size) (hc : w.cell? ⟨Bn, 0, none⟩ = some (.string s)) :
    SeqStopsK Fence.wide n Tryz.prog 43 #[.pointer (some ⟨Bn, 0, none⟩)] encL (Below n₀) (fun ys => ys = itr (tx s)) (fun pre => pre <+: itr (tx s)) N w :=
  fun l J Jx W hW hJ _ hY h0 => lines1_in n hn l Bn n₀ N s hz hN J Jx hY W hJ ((hW.cell (p := ⟨Bn, 0, none⟩) hBn).trans hc) h0
end Ln
end Go.Proofs.YtdhlheilgagcpaaGreatDoor
namespace Go.Proofs.YtdhlheilgagcpaaGreatDoor
namespace Ln
open Go.RowKit Go.Shelf Go.PlainAid
attribute [local go_sem] Oper.semAt_some
set_option linter.unusedVariables false

/-- a failure -/
abbrev failV (c n : Int) : Value := .agg #[.int .i64 c, .int .i64 n]
/-- what the program's Split hands back of a text -/
def PSplit (w : World) (l : List UInt8) (e : Ending) (w' : World) : Prop :=
  ∃ v, Below w.heap.size w w' ∧ (((cutL 10 l).2 = [] ∧ e = .returned (.tuple #[v, failV 0 0]) ∧ SSl w' v (cutL 10 l).1) ∨
    ((cutL 10 l).2 ≠ [] ∧ e = .returned (.tuple #[.slice none 0 0, failV 2 (((cutL 10 l).1.length : Int) + 1)])))
theorem itr_len (l : List UInt8) : (itr l).length ≤ l.length + 1 := by
  have := cutL_count 10 l
  unfold itr
  rw [List.length_append, List.length_map]
  split <;> simp <;> omega
/-- all lines have come, and each has an end -/
theorem itr_all (l : List UInt8) (h : ∀ x ∈ itr l, x.2 = true) : (cutL 10 l).2 = [] ∧ (itr l).map (·.1) = (cutL 10 l).1 := by
  by_cases h0 : (cutL 10 l).2 = []
  · refine ⟨h0, ?_⟩
    unfold itr
    rw [if_pos h0, List.append_nil, List.map_map]
    exact List.map_id' _
  · exfalso
    have := h ((cutL 10 l).2, false) (by unfold itr; rw [if_neg h0]; simp)
    cases this
/-- one has come that has no end -/
theorem itr_stop (l : List UInt8) (q : List (List UInt8 × Bool)) (x : List UInt8) (h : q ++ [(x, false)] <+: itr l) : (cutL 10 l).2 ≠ [] ∧ q.length = (cutL 10 l).1.length := by
  obtain ⟨r, hr⟩ := h
  have hm : (itr l)[q.length]? = some (x, false) := by rw [← hr]; simp
  unfold itr at hm
  by_cases hq : q.length < (cutL 10 l).1.length
  · rw [List.getElem?_append_left (by simpa using hq), List.getElem?_map, List.getElem?_eq_getElem hq] at hm
    simp at hm
  · rw [List.getElem?_append_right (by simpa using hq)] at hm
    by_cases h0 : (cutL 10 l).2 = []
    · rw [if_pos h0] at hm; simp at hm
    · rw [if_neg h0] at hm
      obtain ⟨h1, _⟩ := List.getElem?_eq_some_iff.1 hm
      simp at h1
      exact ⟨h0, by omega⟩
theorem row_form {W : World} {base : Nat} {e : TypeId} {size : Nat} {v : Value} {k : Nat} {xs : List Value} (h : W.ownsRow base e size v k xs) : ∃ a c, v = .slice a k c := by
  rcases h.2 with ⟨rfl, h0⟩ | ⟨g, cap, _, rfl, _⟩
  · exact ⟨none, 0, by rw [h0]⟩
  · exact ⟨_, _, rfl⟩
/-- a block of cells -/
def Blk (W : World) (B : Nat) (c : Array Value) (t : TypeId) : Prop := W.heap[B]? = some (.cells c t (0, 0))
theorem Blk.lt {W : World} {B : Nat} {c : Array Value} {t : TypeId} (h : Blk W B c t) : B < W.heap.size := (Array.getElem?_eq_some_iff.1 h).1
theorem Blk.not_row {W : World} {B : Nat} {c : Array Value} {t e : TypeId} (h : Blk W B c t) (hte : t ≠ e) {base size k : Nat} {v : Value} {xs : List Value} (hr : W.ownsRow base e size v k xs) : some B ≠ v.ownBlock := by
  rcases hr.2 with ⟨rfl, _⟩ | ⟨g, cap, cur, rfl, _, hgb, _⟩
  · simp [Value.ownBlock]
  · intro e'
    obtain rfl : B = g := by simpa [Value.ownBlock] using e'
    have := (show W.heap[B]? = _ from h).symm.trans hgb
    simp at this
    exact hte this.2
theorem Blk.kept {W W' : World} {row : Option Nat} {B : Nat} {c : Array Value} {t : TypeId} (h : Blk W B c t) (hg : W.grownBy W' row) (hne : some B ≠ row) : Blk W' B c t := (hg.block B h.lt hne).trans h
theorem Blk.alloc {W : World} {B : Nat} {c : Array Value} {t : TypeId} (h : Blk W B c t) (o : Obj) : Blk (W.alloc o) B c t := h.kept (World.grownBy_alloc W o none) (by simp)
theorem Blk.new (W : World) (c : Array Value) (t : TypeId) : Blk (W.alloc (.cells c t)) W.heap.size c t := World.alloc_heap_new W _
theorem Blk.other {W : World} {B : Nat} {c : Array Value} {t : TypeId} (h : Blk W B c t) {p : Addr} (v : Value) (hne : B ≠ p.block) : Blk (W.setCell p v) B c t := (Below.heap_setCell _ _ _ B hne).trans h
theorem Blk.own {β : Type} (B : Nat) (c : β → Array Value) (t : TypeId) : Own (fun (s : β) W => Blk W B (c s) t) := by
  rintro s X Y row h hg hrow
  refine h.kept hg (fun e' => ?_)
  obtain ⟨o, ho, hc⟩ := hrow B e'.symm
  rw [show X.heap[B]? = _ from h] at ho; cases ho; cases hc
theorem Blk.cell {W : World} {B : Nat} {c : Array Value} {t : TypeId} (h : Blk W B c t) (i : Nat) (v : Value) (hv : c[i]? = some v) : W.cell? ⟨B, i, none⟩ = some v := by simp [World.cell?, show W.heap[B]? = _ from h, hv]
theorem Blk.frozen {W : World} {B : Nat} {c : Array Value} {t : TypeId} (h : Blk W B c t) (i : Nat) : W.frozen? ⟨B, i, none⟩ = false := by simp [World.frozen?, show W.heap[B]? = _ from h]
theorem Blk.set {W : World} {B : Nat} {c : Array Value} {t : TypeId} (h : Blk W B c t) (i : Nat) (v : Value) : Blk (W.setCell ⟨B, i, none⟩ v) B (c.setIfInBounds i v) t := by
  obtain ⟨hlt, hk⟩ := Array.getElem?_eq_some_iff.1 h
  show (W.heap.modify B _)[B]? = _
  rw [Array.getElem?_eq_getElem (by rw [Array.size_modify]; exact hlt), Array.getElem_modify_self, hk]
  rfl
/-- both results stored -/
theorem stored {W : World} {R F : Nat} (hne : R ≠ F) {u : Value} {a b : Value} {t t' : TypeId} (hR : Blk W R #[u] t) (hF : Blk W F #[a, b] t') (v : Value) (c n : Int) :
    KeepsOthers W (((W.setCell ⟨R, 0, none⟩ v).setCell ⟨F, 0, none⟩ (.int .i64 c)).setCell ⟨F, 1, none⟩ (.int .i64 n)) ∧
    Blk (((W.setCell ⟨R, 0, none⟩ v).setCell ⟨F, 0, none⟩ (.int .i64 c)).setCell ⟨F, 1, none⟩ (.int .i64 n)) R #[v] t ∧
    Blk (((W.setCell ⟨R, 0, none⟩ v).setCell ⟨F, 0, none⟩ (.int .i64 c)).setCell ⟨F, 1, none⟩ (.int .i64 n)) F #[.int .i64 c, .int .i64 n] t' ∧
    ∀ {w : World} {B : Nat}, Below B w W → B ≤ R → B ≤ F → Below B w (((W.setCell ⟨R, 0, none⟩ v).setCell ⟨F, 0, none⟩ (.int .i64 c)).setCell ⟨F, 1, none⟩ (.int .i64 n)) := by
  refine ⟨((KeepsOthers.setCell _ _ _).trans (KeepsOthers.setCell _ _ _)).trans (KeepsOthers.setCell _ _ _), ?_, ?_, fun h h1 h2 => ((h.setCell (p := ⟨R, 0, none⟩) h1 _).setCell (p := ⟨F, 0, none⟩) h2 _).setCell (p := ⟨F, 1, none⟩) h2 _⟩
  · exact ((hR.set 0 v).other (p := ⟨F, 0, none⟩) _ hne).other (p := ⟨F, 1, none⟩) _ hne
  · exact ((hF.other (p := ⟨R, 0, none⟩) v hne.symm).set 0 _).set 1 _
theorem grown_set (W : World) (p : Addr) (v : Value) : W.grownBy (W.setCell p v) (some p.block) :=
  ⟨rfl, rfl, rfl, (KeepsWalks.setCell W _ v).size, fun k _ hk => Below.heap_setCell _ _ _ k (fun e => hk (by rw [e]))⟩
theorem row_stored {W : World} {R F : Nat} {u : Value} {a b : Value} {t t' e : TypeId} (hR : Blk W R #[u] t) (hF : Blk W F #[a, b] t') (h1 : t ≠ e) (h2 : t' ≠ e) {base size k : Nat} {v : Value} {xs : List Value} (hr : W.ownsRow base e size v k xs) (x y z : Value) :
    (((W.setCell ⟨R, 0, none⟩ x).setCell ⟨F, 0, none⟩ y).setCell ⟨F, 1, none⟩ z).ownsRow base e size v k xs := by
  have n1 := (hR.not_row h1 hr).symm
  have n2 := (hF.not_row h2 hr).symm
  exact ((hr.kept (grown_set _ ⟨R, 0, none⟩ x) (.inr n1)).kept (grown_set _ ⟨F, 0, none⟩ y) (.inr n2)).kept (grown_set _ ⟨F, 1, none⟩ z) (.inr n2)

set_option maxRecDepth 100000 in
set_option maxHeartbeats 4000000 in
theorem split_in (n : Nat) (hn : 3 ≤ n) (s : ByteArray) (hz : s.size ≤ 1000000000) (w : World) :
    CallsIn Fence.wide n Tryz.prog 12 #[.string s] w fun e W' => PSplit w (tx s) e W' := by
  have h1 : 1 ≤ n := by omega
  obtain ⟨i0, hi, hz0, hz1, hz2⟩ := info_parts infoS
  refine callsIn_of_wp_marks Tryz.func12 rfl trivial ?_ rfl
  simp only [Tryz.ntmps12, List.size_toArray, List.length_cons, List.length_nil, Nat.reduceAdd, Nat.reduceSub, Array.replicate_succ, Array.replicate_zero, List.push_toArray, List.append_toArray, List.nil_append, List.cons_append]
  gi_wp2_with (refine ⟨trivial, ?_⟩; gi_at_call 23; refine (lines_in (n - 1) _ _).mono ?_; rintro e w' ⟨rfl, rfl⟩)
  have b0 := ((Blk.new w #[.slice none 0 0] 41).alloc (.cells #[.int .i64 0, .int .i64 0] 26)).alloc (.cells #[.slice none 0 0] 41) |>.alloc (.cells #[.string s] 9)
  have b1 := (Blk.new (w.alloc (.cells #[.slice none 0 0] 41)) #[.int .i64 0, .int .i64 0] 26).alloc (.cells #[.slice none 0 0] 41) |>.alloc (.cells #[.string s] 9)
  have b2 := (Boxed.new ((w.alloc (.cells #[.slice none 0 0] 41)).alloc (.cells #[.int .i64 0, .int .i64 0] 26)) 41 (.slice none 0 0)).alloc (.cells #[.string s] 9)
  have b3 := Boxed.new (((w.alloc (.cells #[.slice none 0 0] 41)).alloc (.cells #[.int .i64 0, .int .i64 0] 26)).alloc (.cells #[.slice none 0 0] 41)) 9 (.string s)
  simp only [World.size_alloc] at b1 b2 b3
  have hB0 : Below w.heap.size w ((((w.alloc (.cells #[.slice none 0 0] 41)).alloc (.cells #[.int .i64 0, .int .i64 0] 26)).alloc (.cells #[.slice none 0 0] 41)).alloc (.cells #[.string s] 9)) := below_more (below_more (below_more (below_more (Below.refl _ w) _) _) _) _
  have hil := itr_len (tx s)
  rw [tx_len] at hil
  refine wpIn_rangeFunc_ownG rfl h1 (gf := 43) (lb := #[.pointer (some ⟨w.heap.size + 1 + 1 + 1, 0, none⟩)]) rfl trivial (enters_of Tryz.func43 (by kernel_rfl) rfl)
    (lines_stops (n - 1) (by omega) (w.heap.size + 1 + 1 + 1) w.heap.size 1000000001 s (by omega) (by omega) _ (by simp) b3.cell) belowK_t (belowK_b (by simp; omega)) (Below.refl _ _) (fun _ => rfl)
    (fun pre W => ((∃ v, Boxed W (w.heap.size + 1 + 1) 41 v ∧ W.ownsRow w.heap.size 9 1 v pre.length (pre.map (fun x => Value.string (bs x.1))) ∧ (∀ x ∈ pre, x.2 = true)) ∧ (Blk W w.heap.size #[.slice none 0 0] 41 ∧ Blk W (w.heap.size + 1) #[.int .i64 0, .int .i64 0] 26)) ∧ Below w.heap.size w W)
    (fun c pre W => (c = .ret ∧ (∃ q x, pre = q ++ [(x, false)] ∧ Blk W w.heap.size #[.slice none 0 0] 41 ∧ Blk W (w.heap.size + 1) #[.int .i64 2, .int .i64 ((q.length : Int) + 1)] 26)) ∧ Below w.heap.size w W)
    (OwnFrom.and (OwnFrom.and (Own.from (holdsRow_own w.heap.size (w.heap.size + 1 + 1) 41 9 1 (fun (pre : List (List UInt8 × Bool)) => pre.length) (fun pre => pre.map (fun x => Value.string (bs x.1))) (fun pre v => ∀ x ∈ pre, x.2 = true)) _) (OwnFrom.and (Own.from (Blk.own _ (fun _ => _) _) _) (Own.from (Blk.own _ (fun _ => _) _) _))) (ownFrom_below (Nat.le_refl _) (by simp; omega)))
    (fun c => OwnFrom.and (fun st A B row hs hg hr => by obtain ⟨hc, q, x, e1, e2, e3⟩ := hs; exact ⟨hc, q, x, e1, (Own.from (Blk.own (β := Unit) _ (fun _ => _) _) _) () A B row e2 hg hr, (Own.from (Blk.own (β := Unit) _ (fun _ => _) _) _) () A B row e3 hg hr⟩) (ownFrom_below (Nat.le_refl _) (by simp; omega)))
    ⟨⟨⟨_, b2, World.ownsRow_nil _ _ _ _, by simp⟩, b0, b1⟩, hB0⟩
    (fun x => { tmps := #[.string s, undef, .pointer (some ⟨w.heap.size, 0, none⟩), .pointer (some ⟨w.heap.size + 1, 0, none⟩), .pointer (some ⟨w.heap.size + 1 + 1, 0, none⟩), .string (bs x.1), .bool x.2, .string s, .func (.func 43) #[] #[.pointer (some ⟨w.heap.size + 1 + 1 + 1, 0, none⟩)], .string (bs x.1), .bool x.2, undef, undef, undef, undef, undef, undef, undef, undef, undef, undef, undef, undef], defers := [] }) ?assign ?body ?done ?stop
  case assign =>
    intro l x W K hK
    gi_wp2
    exact hK
  case body =>
    rintro l pre ⟨x, q⟩ W ⟨⟨⟨v, hv, hrow, hall⟩, hR, hF⟩, hB⟩ hlt
    have hc := hv.cell
    cases q with
    | true =>
      gi_wp2_with (gi_at_builtin; refine wpListIn_append_own _ rfl _ _ 41 rfl w.heap.size 9 i0 (.string ⟨#[]⟩) 1 16 Tryz.underlying41 hi hz0 hz1 hz2 rfl (by decide) _ _ _ rfl (hrow.alloc _) ⟨W.heap.size, 0, none⟩ 1 1 [.string (bs x)] rfl rfl (cell_one_new _ _ _) (by simp [Value.oneCell']) (by unfold maxLen; omega) (by omega) (by have := hB.size; simp; omega) ?_; intro v' w1 hown' hgrow _; obtain ⟨g', cap', rfl⟩ := ownsRow_succ hown'; obtain ⟨hv1, hv2, hr2, hk2, hb2⟩ := hv.appended (by decide) hrow hB.size (by omega) hown' hgrow; have hR1 := (hR.alloc _).kept hgrow (hR.not_row (by decide) hrow); have hF1 := (hF.alloc _).kept hgrow (hF.not_row (by decide) hrow); have hc1 := hv1.cell; have hf1 := hv1.frozen)
      exact ⟨hk2.from _, hb2, ⟨⟨_, hv2, by simpa using hr2, by intro y hy; rcases List.mem_append.1 hy with h | h; exact hall y h; simp at h; subst h; rfl⟩, hR1.other _ (show w.heap.size ≠ w.heap.size + 1 + 1 by omega), hF1.other _ (show w.heap.size + 1 ≠ w.heap.size + 1 + 1 by omega)⟩, hB.trans hb2⟩
    | false =>
      obtain ⟨av, cv, rfl⟩ := row_form hrow
      have cR := hR.cell 0 _ rfl
      have fR := hR.frozen 0
      have cF0 := hF.cell 0 _ rfl
      have cF1 := hF.cell 1 _ rfl
      have fF0 := hF.frozen 0
      have fF1 := hF.frozen 1
      have hpl : pre.length ≤ 1000000001 := by omega
      gi_wp2
      have hwr : IntKind.i64.wrap ((pre.length : Int) + 1) = (pre.length : Int) + 1 := IntWalk.i64_in _ ⟨by omega, by omega⟩
      obtain ⟨k1, k2, k3, k4⟩ := stored (R := w.heap.size) (F := w.heap.size + 1) (by omega) hR hF (.slice none 0 0) 2 ((pre.length : Int) + 1)
      have k5 := k4 hB (Nat.le_refl _) (by omega)
      gi_region
      all_goals gi_wp2
      all_goals (exact ⟨(k1.trans (KeepsOthers.drew _)).from _, ⟨rfl, pre, x, rfl, k2, k3⟩, k5.drew⟩)
  case done =>
    rintro D ys W hD rfl ⟨⟨⟨v, hv, hrow, hall⟩, hR, hF⟩, hB⟩ hK
    obtain ⟨av, cv, rfl⟩ := row_form hrow
    have hc := hv.cell
    have cR := hR.cell 0 _ rfl
    have fR := hR.frozen 0
    have cF0 := hF.cell 0 _ rfl
    have cF1 := hF.cell 1 _ rfl
    have fF0 := hF.frozen 0
    have fF1 := hF.frozen 1
    obtain ⟨k1, k2, k3, k4⟩ := stored (R := w.heap.size) (F := w.heap.size + 1) (by omega) hR hF (.slice av (itr (tx s)).length cv) 0 0
    have k5 := k4 hB (Nat.le_refl _) (by omega)
    have hr2 := row_stored hR hF (by decide) (by decide) hrow (.slice av (itr (tx s)).length cv) (.int .i64 0) (.int .i64 0)
    have hK5 := k1.same D _ hK rfl
    have hr3 := ownsRow_putObj hr2 (.deferred none) hK5 rfl
    obtain ⟨e1, e2⟩ := itr_all (tx s) hall
    have e3 : (itr (tx s)).map (fun x => Value.string (bs x.1)) = cellsS (cutL 10 (tx s)).1 := by unfold cellsS; rw [← e2, List.map_map]; rfl
    have e4 : (itr (tx s)).length = (cutL 10 (tx s)).1.length := by rw [← e2, List.length_map]
    rw [e3] at hr3
    have hr : ∀ r, some D = some r → ∃ o : Obj, (((W.setCell ⟨w.heap.size, 0, none⟩ (.slice av (itr (tx s)).length cv)).setCell ⟨w.heap.size + 1, 0, none⟩ (.int .i64 0)).setCell ⟨w.heap.size + 1, 1, none⟩ (.int .i64 0)).heap[r]? = some o ∧ o.isCells = false := fun r e => by cases e; exact ⟨_, hK5, rfl⟩
    have c0 := cell_kept (k2.cell 0 _ rfl) (grownBy_putObj' _ D (.deferred none)) hr
    have c1 := cell_kept (k3.cell 0 _ rfl) (grownBy_putObj' _ D (.deferred none)) hr
    have c2 := cell_kept (k3.cell 1 _ rfl) (grownBy_putObj' _ D (.deferred none)) hr
    have HE : Hid ((cutL 10 (tx s)).2 = []) := e1
    have HO : Hid (OwnS ((((W.setCell ⟨w.heap.size, 0, none⟩ (.slice av (itr (tx s)).length cv)).setCell ⟨w.heap.size + 1, 0, none⟩ (.int .i64 0)).setCell ⟨w.heap.size + 1, 1, none⟩ (.int .i64 0)).putObj D (.deferred none)) w.heap.size (.slice av (itr (tx s)).length cv) (cutL 10 (tx s)).1) := by show OwnS _ _ _ _; unfold OwnS; rw [← e4]; exact hr3
    clear hr2 hr3 e1 e2 e3 e4 hrow hall k2 k3 k4
    gi_wp2
    refine ⟨by simp, .inl ⟨_, _, rfl, run_takeDeferred hK5, ?_⟩⟩
    refine ⟨.tuple #[.slice av (itr (tx s)).length cv, failV 0 0], ?_, .slice av (itr (tx s)).length cv, k5.trans (belowK_b (w := w) (Nat.le_refl _) _ D _ _ (by simp at hD; omega) hK5 rfl rfl), .inl ⟨HE.out, rfl, HO.out.ssl⟩⟩
    simp [results, Tryz.f12, go_sem, c0, c1, c2]
  case stop =>
    rintro D c pre W hD hpre ⟨⟨rfl, q, x, rfl, hR, hF⟩, hB⟩ hK
    obtain ⟨hs1, hs2⟩ := itr_stop (tx s) q x hpre
    have cR := hR.cell 0 _ rfl
    have cF0 := hF.cell 0 _ rfl
    have cF1 := hF.cell 1 _ rfl
    have hr : ∀ r, some D = some r → ∃ o : Obj, W.heap[r]? = some o ∧ o.isCells = false := fun r e => by cases e; exact ⟨_, hK, rfl⟩
    have c0 := cell_kept cR (grownBy_putObj' _ D (.deferred none)) hr
    have c1 := cell_kept cF0 (grownBy_putObj' _ D (.deferred none)) hr
    have c2 := cell_kept cF1 (grownBy_putObj' _ D (.deferred none)) hr
    rw [hs2] at c2
    have HS1 : Hid ((cutL 10 (tx s)).2 ≠ []) := hs1
    clear hs1 hs2 hpre
    gi_wp2
    refine ⟨by simp, .inl ⟨_, _, rfl, run_takeDeferred hK, ?_⟩⟩
    refine ⟨.tuple #[.slice none 0 0, failV 2 (((cutL 10 (tx s)).1.length : Int) + 1)], ?_, .slice none 0 0, hB.trans (belowK_b (w := w) (Nat.le_refl _) W D _ _ (by simp at hD; omega) hK rfl rfl), .inr ⟨HS1.out, rfl⟩⟩
    simp [results, Tryz.f12, go_sem, c0, c1, c2]
theorem split_any (s : ByteArray) (hz : s.size ≤ 1000000000) (w : World) : Calls Tryz.prog 12 #[.string s] w fun e w' => PSplit w (tx s) e w' := callsIn_wide.1 (split_in 3 (by omega) s hz w)
end Ln
end Go.Proofs.YtdhlheilgagcpaaGreatDoor
namespace Go.Proofs.YtdhlheilgagcpaaGreatDoor
namespace Ln
open Go.RowKit Go.PlainAid
set_option linter.unusedVariables false

/-- are two failures one? -/
def eqfB (c n c' n' : Int) : Bool := (c == c') && (n == n')
theorem eqfB_self (c n : Int) : eqfB c n c n = true := by unfold eqfB; simp
theorem eqF_in (d : Nat) (k n k' n' : Int) (w : World) : (Op.equalIn (d + 2) 26 (.agg #[.int .i64 k, .int .i64 n]) (.agg #[.int .i64 k', .int .i64 n'])).run Tryz.prog w = .ok (eqfB k n k' n') w := by
  have hS : Tryz.prog.underlying 26 = some (.struct (Tryz.prog.fieldsOf 26)) := by kernel_rfl
  have hp : Tryz.prog.stoodInHeld 26 = false := by kernel_rfl
  have u2 := Tryz.underlying24
  have u3 := Tryz.underlying3
  have a2 := Tryz.isAgg24
  have a3 := Tryz.isAgg3
  have z2 := Tryz.sizeOf24
  have z3 := Tryz.sizeOf3
  rw [run_equalIn_agg w (d + 1) 26 _ _ hS hp]
  simp only [Program.fieldsOf, Tryz.underlying26]
  unfold eqfB
  go_simp
  by_cases h1 : k = k' <;> by_cases h2 : n = n' <;> simp [h1, h2]
theorem eqF (k n k' n' : Int) (w : World) : (binOp .eql 26 (.agg #[.int .i64 k, .int .i64 n]) (.agg #[.int .i64 k', .int .i64 n'])).run Tryz.prog w = .ok (.bool (eqfB k n k' n')) w := by
  rw [run_eql_struct, eqF_in 9998]
  rfl
theorem eqgF (op : BinOp) (x y : Operand) (a b : Array Value) (w : World) : (eqGuard op 26 x y (.agg a) (.agg b)).run Tryz.prog w = .ok () w := run_eqGuard_agg w op 26 x y _ _ (by kernel_rfl)

theorem ex_split : cutL 10 (tx ⟨#[97, 98]⟩) = ([], [97, 98]) := by decide
theorem ex_note : noteR (tx ⟨#[97, 32, 59, 98, 32, 59, 99]⟩) = ([97], [98, 32, 59, 99], true, true) := by decide
/-- a failure laid in memory -/
def FBox (w : World) (p : Nat) (k n : Int) : Prop :=
  p < w.heap.size ∧ w.cell? ⟨p, 0, none⟩ = some (.int .i64 k) ∧ w.cell? ⟨p, 1, none⟩ = some (.int .i64 n) ∧ w.frozen? ⟨p, 0, none⟩ = false ∧ w.frozen? ⟨p, 1, none⟩ = false
theorem FBox.later {w w' : World} {p : Nat} {k n : Int} (h : FBox w p k n) (hb : Below w.heap.size w w') : FBox w' p k n :=
  ⟨Nat.lt_of_lt_of_le h.1 hb.size, (hb.cell (p := ⟨p, 0, none⟩) h.1).trans h.2.1, (hb.cell (p := ⟨p, 1, none⟩) h.1).trans h.2.2.1, (hb.frozen (p := ⟨p, 0, none⟩) h.1).trans h.2.2.2.1, (hb.frozen (p := ⟨p, 1, none⟩) h.1).trans h.2.2.2.2⟩
theorem FBox.new (w : World) (k n : Int) (T : TypeId) : FBox (w.alloc (.cells #[.int .i64 k, .int .i64 n] T)) w.heap.size k n := ⟨by simp, by simp, by simp, by simp, by simp⟩

end Ln
end Go.Proofs.YtdhlheilgagcpaaGreatDoor
