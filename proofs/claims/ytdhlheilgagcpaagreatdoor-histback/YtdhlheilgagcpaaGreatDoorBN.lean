/- The contract of what reads digits up to a bound. Conditions: the text is at most 2^62 bytes; the bound is from 9 to 2^64 - 1. The contracts of what reads the text of a number from 0 on, and of a number with a sign. Conditions: the text is at most 2^62 bytes; the bound is one of 64 bits. The contracts of the two deferred closures, and of Parse and Count. Conditions: the text is at most 2^62 bytes; the bound is one of 64 bits. The contracts of the document's own: whether a text is digits, whether a number is at most another one by its digits. Conditions: the text is at most 2^62 bytes. Plain mathematics of digits: what they are worth from the left; the order of texts is the order of numbers; one text a number. No conditions. The contracts of the document's own Parse and Count. Conditions: the text is at most 2^62 bytes; the bound is one of 64 bits. The contract of wakes: the document's examples hold, whatever lies in memory. No conditions. The contract of the document's own Count, and the walk of NumCounts. Conditions: the bound is one of 64 bits. -/
import Derived.Test.YtdhlheilgagcpaaGreatDoorNA
import Derived.Defers
import Derived.Recover
import Derived.Laws.Pointers
namespace Go.Proofs.YtdhlheilgagcpaaGreatDoor
open Go.RowKit Go.PlainAid
set_option linter.unusedVariables false

theorem ret_int {k : IntKind} {a b : Int} (h : a = b) : Ending.returned (.int k a) = .returned (.int k b) := by rw [h]

theorem valN_mono (s : ByteArray) : ∀ k j : Nat, valN s k ≤ valN s (k + j) := by
  intro k j
  induction j with
  | zero => exact Nat.le_refl _
  | succ j ih => rw [← Nat.add_assoc]; show _ ≤ 10 * valN s (k + j) + _; omega

/-- how what reads digits up to a bound ends -/
def plainE (s : ByteArray) (b : Int) : Ending := if okD s then (if (valN s s.size : Int) ≤ b then .returned (.int .u64 (valN s s.size)) else gaveUp 3) else gaveUp 2
theorem plainE_bad {s : ByteArray} (b : Int) (h : ¬ okD s) : gaveUp 2 = plainE s b := (if_neg h).symm
theorem plainE_great {s : ByteArray} {b : Int} (h : okD s) (h' : ¬ (valN s s.size : Int) ≤ b) : gaveUp 3 = plainE s b := by unfold plainE; rw [if_pos h, if_neg h']
theorem plainE_good {s : ByteArray} {b : Int} (h : okD s) (h' : (valN s s.size : Int) ≤ b) : .returned (.int .u64 (valN s s.size)) = plainE s b := by unfold plainE; rw [if_pos h, if_pos h']

set_option maxHeartbeats 1600000 in
theorem plain_any (s : ByteArray) (b : Int) (w : World) (hz : s.size ≤ 4611686018427387904) (hb0 : 9 ≤ b) (hb1 : b ≤ 18446744073709551615) :
    Calls Tryz.prog 109 #[.string s, .int .u64 b] w fun e w' => e = plainE s b ∧ w' = w := by
  have hbt := get_bt s
  by_cases h : okD s
  · have hm : mustE s = .returned (.tuple #[]) := (mustE_good h).symm
    have HK : Hid (okD s) := h
    clear h
    go_enter Tryz.func109, Tryz.ntmps109
    go_wp2_with (go_at_call 121; refine (must_any s _ hz).mono ?_; rintro e w1 ⟨he, rfl⟩; rw [hm] at he; subst he)
    go_loop [5, 12] (fun n i => ∃ k : Nat, k ≤ s.size ∧ i = .int .i64 (k : Int) ∧ n = .int .u64 (valN s k : Int) ∧ (valN s k : Int) ≤ b) (fun _ i => s.size - (intOf i).toNat)
    case atStart => exact ⟨0, by omega, rfl, rfl, by show ((0 : Nat) : Int) ≤ b; omega⟩
    case round =>
      obtain ⟨k, hk, rfl, rfl, hv⟩ := hrel
      by_cases hlt : k < s.size
      · have hlt' : (k : Int) < (s.size : Int) := by omega
        obtain ⟨d0, d1⟩ := HK.out.2.1 k hlt
        have HV : Hid ((valN s (k + 1) : Int) = 10 * (valN s k : Int) + (bt s k - 48)) := by
          show ((10 * valN s k + (bt s k - 48).toNat : Nat) : Int) = _
          omega
        have HM : Hid (valN s (k + 1) ≤ valN s s.size) := by
          have := valN_mono s (k + 1) (s.size - (k + 1))
          rwa [show k + 1 + (s.size - (k + 1)) = s.size from by omega] at this
        obtain ⟨n, hn⟩ : ∃ n : Int, n = (valN s k : Int) := ⟨_, rfl⟩
        have HN : Hid (n = (valN s k : Int)) := hn
        have hn0 : 0 ≤ n := by omega
        rw [← hn] at hv ⊢
        have HV' : Hid ((valN s (k + 1) : Int) = 10 * n + (bt s k - 48)) := by show _ = _; rw [hn]; exact HV.out
        clear hn HV
        have hq : (b - (bt s k - 48)).tdiv 10 = (b - (bt s k - 48)) / 10 := Int.tdiv_eq_ediv_of_nonneg (by omega)
        by_cases hg : n > (b - (bt s k - 48)) / 10
        · go_wp2
          exact ⟨rfl, plainE_great HK.out (by have := HV'.out; have := HM.out; omega), rfl⟩
        · have hg2 : 10 * n + (bt s k - 48) ≤ b := by omega
          go_wp2
          go_round
          case rel => exact ⟨k + 1, by omega, by go_num, by rw [HV'.out], by rw [HV'.out]; omega⟩
          case measure => simp [intOf]; omega
      · go_wp2
        go_ret
        have e : k = s.size := by omega
        subst e
        exact ⟨plainE_good HK.out hv, rfl⟩
  · have hm : mustE s = gaveUp 2 := (mustE_bad h).symm
    have HK : Hid (¬ okD s) := h
    clear h
    go_enter Tryz.func109, Tryz.ntmps109
    go_wp2_with (go_at_call 121; refine (must_any s _ hz).mono ?_; rintro e w1 ⟨he, rfl⟩; rw [hm] at he; unfold gaveUp at he; subst he)
    exact ⟨rfl, plainE_bad b HK.out, rfl⟩
end Go.Proofs.YtdhlheilgagcpaaGreatDoor
namespace Go.Proofs.YtdhlheilgagcpaaGreatDoor
open Go.RowKit Go.PlainAid
set_option linter.unusedVariables false

/-- how what reads the text of a number from 0 to m ends -/
def countE (s : ByteArray) (m : Int) : Ending := if okD s then (if (valN s s.size : Int) ≤ m then .returned (.int .i64 (valN s s.size)) else gaveUp 3) else gaveUp 2
theorem countE_bad {s : ByteArray} (b : Int) (h : ¬ okD s) : gaveUp 2 = countE s b := (if_neg h).symm
theorem countE_great {s : ByteArray} {b : Int} (h : okD s) (h' : ¬ (valN s s.size : Int) ≤ b) : gaveUp 3 = countE s b := by unfold countE; rw [if_pos h, if_neg h']
theorem countE_good {s : ByteArray} {b : Int} (h : okD s) (h' : (valN s s.size : Int) ≤ b) : .returned (.int .i64 (valN s s.size)) = countE s b := by unfold countE; rw [if_pos h, if_pos h']

set_option maxHeartbeats 1600000 in
theorem counted_any (s : ByteArray) (m : Int) (w : World) (hz : s.size ≤ 4611686018427387904) (hm0 : -9223372036854775808 ≤ m) (hm1 : m ≤ 9223372036854775807) :
    Calls Tryz.prog 91 #[.string s, .int .i64 m] w fun e w' => e = countE s m ∧ w' = w := by
  by_cases h : okD s
  · by_cases hv : (valN s s.size : Int) ≤ 9223372036854775807
    · have hp := (plainE_good h hv).symm
      by_cases hm : (valN s s.size : Int) ≤ m
      · have hE := countE_good h hm
        have hn0 : (0 : Int) ≤ (valN s s.size : Int) := by omega
        generalize (valN s s.size : Int) = n at *
        generalize countE s m = E at *
        go_enter Tryz.func91, Tryz.ntmps91
        go_wp2_with (go_at_call 109; refine (plain_any s _ _ hz (by omega) (by omega)).mono ?_; rintro e w1 ⟨he, rfl⟩; rw [hp] at he; subst he)
        go_ret
        exact ⟨hE, rfl⟩
      · have hE := countE_great h hm
        have hn0 : (0 : Int) ≤ (valN s s.size : Int) := by omega
        generalize (valN s s.size : Int) = n at *
        generalize countE s m = E at *
        go_enter Tryz.func91, Tryz.ntmps91
        go_wp2_with (go_at_call 109; refine (plain_any s _ _ hz (by omega) (by omega)).mono ?_; rintro e w1 ⟨he, rfl⟩; rw [hp] at he; subst he)
        exact ⟨rfl, hE, rfl⟩
    · have hp := (plainE_great h hv).symm
      have hE := countE_great h (show ¬ (valN s s.size : Int) ≤ m from by omega)
      generalize countE s m = E at *
      go_enter Tryz.func91, Tryz.ntmps91
      go_wp2_with (go_at_call 109; refine (plain_any s _ _ hz (by omega) (by omega)).mono ?_; rintro e w1 ⟨he, rfl⟩; rw [hp] at he; unfold gaveUp at he; subst he)
      exact ⟨rfl, hE, rfl⟩
  · have hp := (plainE_bad 9223372036854775807 h).symm
    have hE := countE_bad m h
    generalize countE s m = E at *
    go_enter Tryz.func91, Tryz.ntmps91
    go_wp2_with (go_at_call 109; refine (plain_any s _ _ hz (by omega) (by omega)).mono ?_; rintro e w1 ⟨he, rfl⟩; rw [hp] at he; unfold gaveUp at he; subst he)
    exact ⟨rfl, hE, rfl⟩

/-- a text without its first byte -/
def tl (s : ByteArray) : ByteArray := s.extract 1 s.size
theorem tl_size (s : ByteArray) : (tl s).size = s.size - 1 := by unfold tl; rw [ByteArray.size_extract]; omega

/-- how what reads a number's text ends -/
def signE (s : ByteArray) : Ending :=
  if bt s 0 = 45 then (if okD (tl s) then (if (valN (tl s) (tl s).size : Int) ≤ 9223372036854775808 then (if valN (tl s) (tl s).size = 0 then gaveUp 2 else .returned (.int .i64 (-(valN (tl s) (tl s).size : Int)))) else gaveUp 3) else gaveUp 2)
  else countE s 9223372036854775807

theorem countE_two (s : ByteArray) (m : Int) : (∃ n, countE s m = .returned (.int .i64 n)) ∨ (∃ c, countE s m = gaveUp c) := by
  unfold countE; split
  · split
    · exact .inl ⟨_, rfl⟩
    · exact .inr ⟨_, rfl⟩
  · exact .inr ⟨_, rfl⟩

set_option maxHeartbeats 1600000 in
theorem signed_any (s : ByteArray) (w : World) (hz : s.size ≤ 4611686018427387904) :
    Calls Tryz.prog 111 #[.string s] w fun e w' => e = signE s ∧ w' = w := by
  have hbt := get_bt s
  by_cases hm : bt s 0 = 45
  · have h0 : ¬ s.size = 0 := fun h => by rw [bt_end s (by omega)] at hm; omega
    have hi : s.toList.isEmpty = false := by cases h : s.toList.isEmpty; rfl; exact absurd (toList_nil.1 (List.isEmpty_iff.1 h)) h0
    have hs : (0 : Int) < (s.size : Int) := by omega
    have hs1 : (1 : Int) ≤ (s.size : Int) := by omega
    have hx : (bt s 0 == 45) = true := by simp [hm]
    have hP := plain_any (tl s) 9223372036854775808
    have hzt : (tl s).size ≤ 4611686018427387904 := by rw [tl_size]; omega
    have e0 : signE s = (if okD (tl s) then (if (valN (tl s) (tl s).size : Int) ≤ 9223372036854775808 then (if valN (tl s) (tl s).size = 0 then gaveUp 2 else .returned (.int .i64 (-(valN (tl s) (tl s).size : Int)))) else gaveUp 3) else gaveUp 2) := if_pos hm
    rw [e0]
    clear e0
    by_cases hk : okD (tl s)
    · rw [if_pos hk]
      by_cases hv : (valN (tl s) (tl s).size : Int) ≤ 9223372036854775808
      · rw [if_pos hv]
        rw [← plainE_good hk hv] at hP
        by_cases hn : valN (tl s) (tl s).size = 0
        · rw [if_pos hn]
          rw [hn] at hP
          unfold gaveUp
          go_enter Tryz.func111, Tryz.ntmps111
          go_wp2_with (go_at_call 109; refine (hP _ hzt (by omega) (by omega)).mono ?_; rintro e w1 ⟨rfl, rfl⟩)
          exact ⟨rfl, rfl, rfl⟩
        · rw [if_neg hn]
          obtain ⟨n, hN⟩ : ∃ n : Int, n = (valN (tl s) (tl s).size : Int) := ⟨_, rfl⟩
          have hn1 : 1 ≤ n := by omega
          rw [← hN] at hP hv ⊢
          clear hN hn
          have q1 : IntKind.u64.wrap (-n) = 18446744073709551616 - n := by rw [u64_neg (by omega) (by omega)]; omega
          have q2 : IntKind.i64.wrap (18446744073709551616 - n) = -n := by rw [i64_high (by omega) (by omega)]; omega
          have q3 : wrap64 (18446744073709551616 - n) = -n := by rw [← i64_is]; exact q2
          go_enter Tryz.func111, Tryz.ntmps111
          go_wp2_with (go_at_call 109; refine (hP _ hzt (by omega) (by omega)).mono ?_; rintro e w1 ⟨rfl, rfl⟩)
          go_ret
          exact ⟨ret_int (by first | rfl | (rw [q1]; first | exact q2 | exact q3)), rfl⟩
      · rw [if_neg hv]
        rw [← plainE_great hk hv] at hP
        unfold gaveUp at hP ⊢
        go_enter Tryz.func111, Tryz.ntmps111
        go_wp2_with (go_at_call 109; refine (hP _ hzt (by omega) (by omega)).mono ?_; rintro e w1 ⟨rfl, rfl⟩)
        exact ⟨rfl, rfl, rfl⟩
    · rw [if_neg hk]
      rw [← plainE_bad _ hk] at hP
      unfold gaveUp at hP ⊢
      go_enter Tryz.func111, Tryz.ntmps111
      go_wp2_with (go_at_call 109; refine (hP _ hzt (by omega) (by omega)).mono ?_; rintro e w1 ⟨rfl, rfl⟩)
      exact ⟨rfl, rfl, rfl⟩
  · have e1 : signE s = countE s 9223372036854775807 := if_neg hm
    rw [e1]
    clear e1
    have hx : (bt s 0 == 45) = false := by simp [hm]
    by_cases h0 : s.size = 0
    case' pos => have hi : s.toList.isEmpty = true := List.isEmpty_iff.2 (toList_nil.2 h0)
    case' neg =>
      have hi : s.toList.isEmpty = false := by cases h : s.toList.isEmpty; rfl; exact absurd (toList_nil.1 (List.isEmpty_iff.1 h)) h0
      have hs : (0 : Int) < (s.size : Int) := by omega
    all_goals
      have hC := counted_any s 9223372036854775807
      rcases countE_two s 9223372036854775807 with ⟨n, hE⟩ | ⟨c, hE⟩
      · rw [hE] at hC ⊢
        go_enter Tryz.func111, Tryz.ntmps111
        go_wp2_with (go_at_call 91; refine (hC _ hz (by omega) (by omega)).mono ?_; rintro e w1 ⟨rfl, rfl⟩)
        go_ret
        exact ⟨rfl, rfl⟩
      · rw [hE] at hC ⊢
        unfold gaveUp at hC ⊢
        go_enter Tryz.func111, Tryz.ntmps111
        go_wp2_with (go_at_call 91; refine (hC _ hz (by omega) (by omega)).mono ?_; rintro e w1 ⟨rfl, rfl⟩)
        exact ⟨rfl, rfl, rfl⟩
end Go.Proofs.YtdhlheilgagcpaaGreatDoor
namespace Go.Proofs.YtdhlheilgagcpaaGreatDoor
open Go.RowKit Go.PlainAid
set_option linter.unusedVariables false

theorem run_assert (c : Int) (w : World) : (Instr.typeAssert (.iface 24 (.int .i64 c)) 20 24 false).run Tryz.prog w = .ok (.int .i64 c) w := by
  kernel_rfl

theorem pcatch_panicking (p q : Addr) (x y c : Int) (w : World) (hp : w.cell? p = some (.int .i64 x)) (hq : (w.setCell p (.int .i64 0)).cell? q = some (.int .i64 y)) (zp : w.frozen? p = false) (zq : w.frozen? q = false) :
    CallsD Tryz.prog 110 #[.pointer (some p), .pointer (some q)] (.panicking [{ v := .iface 24 (.int .i64 c), recovered := false }]) w fun e u' w' =>
      e = .returned (.tuple #[]) ∧ u' = .panicking [{ v := .iface 24 (.int .i64 c), recovered := true }] ∧ w' = ((w.setCell p (.int .i64 0)).setCell q (.int .i64 c)).drew := by
  have hta := run_assert c
  refine callsD_of_wpS Tryz.func110 rfl fun c₀ cs hu => ?_
  apply wpS_seq
  apply wpS_region
  simp [wpOpsS, go_sem, recoverD, hu, Tryz.ntmps110, Exit.thenS]
  refine wpS_of_wp ?_
  show Code.wp Tryz.prog _ _ ⟨#[.pointer (some p), .pointer (some q), .iface 24 (.int .i64 c), .iface 24 (.int .i64 c), undef, undef, undef, undef], []⟩ w
  go_wp2
  go_region
  show bodyPostS _ _ _ _ _ _ _ _ _
  simp [bodyPostS, results, Tryz.results110]

theorem pcatch_idle (p q : Addr) (w : World) :
    CallsD Tryz.prog 110 #[.pointer (some p), .pointer (some q)] .returning w fun e u' w' => e = .returned (.tuple #[]) ∧ u' = .returning ∧ w' = w := by
  refine callsD_of_wpS Tryz.func110 rfl fun c₀ cs hu => ?_
  apply wpS_seq
  apply wpS_region
  simp [wpOpsS, go_sem, recoverD, hu, Tryz.ntmps110, Exit.thenS]
  refine wpS_of_wp ?_
  show Code.wp Tryz.prog _ _ ⟨#[.pointer (some p), .pointer (some q), .nilIface, .nilIface, undef, undef, undef, undef], []⟩ w
  go_wp2
  show bodyPostS _ _ _ _ _ _ _ _ _
  cases c₀
  simp_all [bodyPostS, results, Tryz.results110]

theorem ccatch_panicking (p q : Addr) (x y c : Int) (w : World) (hp : w.cell? p = some (.int .i64 x)) (hq : (w.setCell p (.int .i64 0)).cell? q = some (.int .i64 y)) (zp : w.frozen? p = false) (zq : w.frozen? q = false) :
    CallsD Tryz.prog 90 #[.pointer (some p), .pointer (some q)] (.panicking [{ v := .iface 24 (.int .i64 c), recovered := false }]) w fun e u' w' =>
      e = .returned (.tuple #[]) ∧ u' = .panicking [{ v := .iface 24 (.int .i64 c), recovered := true }] ∧ w' = ((w.setCell p (.int .i64 0)).setCell q (.int .i64 c)).drew := by
  have hta := run_assert c
  refine callsD_of_wpS Tryz.func90 rfl fun c₀ cs hu => ?_
  apply wpS_seq
  apply wpS_region
  simp [wpOpsS, go_sem, recoverD, hu, Tryz.ntmps90, Exit.thenS]
  refine wpS_of_wp ?_
  show Code.wp Tryz.prog _ _ ⟨#[.pointer (some p), .pointer (some q), .iface 24 (.int .i64 c), .iface 24 (.int .i64 c), undef, undef, undef, undef], []⟩ w
  go_wp2
  go_region
  show bodyPostS _ _ _ _ _ _ _ _ _
  simp [bodyPostS, results, Tryz.results90]

theorem ccatch_idle (p q : Addr) (w : World) :
    CallsD Tryz.prog 90 #[.pointer (some p), .pointer (some q)] .returning w fun e u' w' => e = .returned (.tuple #[]) ∧ u' = .returning ∧ w' = w := by
  refine callsD_of_wpS Tryz.func90 rfl fun c₀ cs hu => ?_
  apply wpS_seq
  apply wpS_region
  simp [wpOpsS, go_sem, recoverD, hu, Tryz.ntmps90, Exit.thenS]
  refine wpS_of_wp ?_
  show Code.wp Tryz.prog _ _ ⟨#[.pointer (some p), .pointer (some q), .nilIface, .nilIface, undef, undef, undef, undef], []⟩ w
  go_wp2
  show bodyPostS _ _ _ _ _ _ _ _ _
  cases c₀
  simp_all [bodyPostS, results, Tryz.results90]

/-- what a text is as the number from 0 to m: the number and the error -/
def cntR (s : ByteArray) (m : Int) : Int × Int := if okD s then (if (valN s s.size : Int) ≤ m then ((valN s s.size : Int), 0) else (0, 3)) else (0, 2)
/-- what a text is as a number: the number and the error -/
def sgnR (s : ByteArray) : Int × Int :=
  if bt s 0 = 45 then (if okD (tl s) then (if (valN (tl s) (tl s).size : Int) ≤ 9223372036854775808 then (if valN (tl s) (tl s).size = 0 then (0, 2) else (-(valN (tl s) (tl s).size : Int), 0)) else (0, 3)) else (0, 2))
  else cntR s 9223372036854775807
/-- an ending is an answer, or a panic that makes it -/
def Ends (e : Ending) (r : Int × Int) : Prop := (e = .returned (.int .i64 r.1) ∧ r.2 = 0) ∨ (e = gaveUp r.2 ∧ r.1 = 0)
theorem countE_ends (s : ByteArray) (m : Int) : Ends (countE s m) (cntR s m) := by
  unfold countE cntR
  split
  · split
    · exact .inl ⟨rfl, rfl⟩
    · exact .inr ⟨rfl, rfl⟩
  · exact .inr ⟨rfl, rfl⟩
theorem signE_ends (s : ByteArray) : Ends (signE s) (sgnR s) := by
  unfold signE sgnR
  split
  · split
    · split
      · split
        · exact .inr ⟨rfl, rfl⟩
        · exact .inl ⟨rfl, rfl⟩
      · exact .inr ⟨rfl, rfl⟩
    · exact .inr ⟨rfl, rfl⟩
  · exact countE_ends s _

set_option maxHeartbeats 1600000 in
theorem parse_any (s : ByteArray) (w : World) (hz : s.size ≤ 4611686018427387904) :
    Calls Tryz.prog 94 #[.string s] w fun e w' => e = .returned (.tuple #[.int .i64 (sgnR s).1, .int .i64 (sgnR s).2]) ∧ Below w.heap.size w w' := by
  have hmf : ∀ (fn : Fn) (first cap : Array Value) (w : World), (Instr.makeFunc fn first cap).run Tryz.prog w = .ok (.func fn first cap) w := fun _ _ _ _ => rfl
  have hS := signed_any s
  rcases signE_ends s with ⟨h1, h2⟩ | ⟨h1, h2⟩
  · rw [h2]
    rw [h1] at hS
    go_enter_defers Tryz.func94, Tryz.ntmps94
    go_wp2_with (go_at_call 111; refine (hS _ hz).mono ?_; rintro e w1 ⟨rfl, rfl⟩)
    refine leaves_cons (f := 110) (args := #[.pointer (some ⟨w.heap.size, 0, none⟩), .pointer (some ⟨w.heap.size + 1, 0, none⟩)]) (by simp) (by simp [go_sem]) ?_
    refine (pcatch_idle ⟨w.heap.size, 0, none⟩ ⟨w.heap.size + 1, 0, none⟩ _).mono ?_
    rintro e u' w'' ⟨rfl, rfl, rfl⟩
    simp [Leaves, settle, results, Tryz.results94, go_sem]
    first | exact below_two _ _ | exact (below_two _ _).drew
  · rw [h2]
    rw [h1] at hS
    unfold gaveUp at hS
    go_enter_defers Tryz.func94, Tryz.ntmps94
    go_wp2_with (go_at_call 111; refine (hS _ hz).mono ?_; rintro e w1 ⟨rfl, rfl⟩)
    refine leaves_cons (f := 110) (args := #[.pointer (some ⟨w.heap.size, 0, none⟩), .pointer (some ⟨w.heap.size + 1, 0, none⟩)]) (by simp) (by simp [go_sem]) ?_
    refine (pcatch_panicking ⟨w.heap.size, 0, none⟩ ⟨w.heap.size + 1, 0, none⟩ 0 0 _ _ ?_ ?_ ?_ ?_).mono ?_
    · simp [go_sem]
    · simp [go_sem]
    · simp [go_sem]
    · simp [go_sem]
    rintro e u' w'' ⟨rfl, rfl, rfl⟩
    simp [Leaves, settle, results, Tryz.results94, go_sem]
    first | exact below_two _ _ | exact (below_two _ _).drew

set_option maxHeartbeats 1600000 in
theorem count_any (s : ByteArray) (m : Int) (w : World) (hz : s.size ≤ 4611686018427387904) (hm0 : -9223372036854775808 ≤ m) (hm1 : m ≤ 9223372036854775807) :
    Calls Tryz.prog 70 #[.string s, .int .i64 m] w fun e w' => e = .returned (.tuple #[.int .i64 (cntR s m).1, .int .i64 (cntR s m).2]) ∧ Below w.heap.size w w' := by
  have hmf : ∀ (fn : Fn) (first cap : Array Value) (w : World), (Instr.makeFunc fn first cap).run Tryz.prog w = .ok (.func fn first cap) w := fun _ _ _ _ => rfl
  have hS := counted_any s m
  rcases countE_ends s m with ⟨h1, h2⟩ | ⟨h1, h2⟩
  · rw [h2]
    rw [h1] at hS
    go_enter_defers Tryz.func70, Tryz.ntmps70
    go_wp2_with (go_at_call 91; refine (hS _ hz hm0 hm1).mono ?_; rintro e w1 ⟨rfl, rfl⟩)
    refine leaves_cons (f := 90) (args := #[.pointer (some ⟨w.heap.size, 0, none⟩), .pointer (some ⟨w.heap.size + 1, 0, none⟩)]) (by simp) (by simp [go_sem]) ?_
    refine (ccatch_idle ⟨w.heap.size, 0, none⟩ ⟨w.heap.size + 1, 0, none⟩ _).mono ?_
    rintro e u' w'' ⟨rfl, rfl, rfl⟩
    simp [Leaves, settle, results, Tryz.results70, go_sem]
    first | exact below_two _ _ | exact (below_two _ _).drew
  · rw [h2]
    rw [h1] at hS
    unfold gaveUp at hS
    go_enter_defers Tryz.func70, Tryz.ntmps70
    go_wp2_with (go_at_call 91; refine (hS _ hz hm0 hm1).mono ?_; rintro e w1 ⟨rfl, rfl⟩)
    refine leaves_cons (f := 90) (args := #[.pointer (some ⟨w.heap.size, 0, none⟩), .pointer (some ⟨w.heap.size + 1, 0, none⟩)]) (by simp) (by simp [go_sem]) ?_
    refine (ccatch_panicking ⟨w.heap.size, 0, none⟩ ⟨w.heap.size + 1, 0, none⟩ 0 0 _ _ ?_ ?_ ?_ ?_).mono ?_
    · simp [go_sem]
    · simp [go_sem]
    · simp [go_sem]
    · simp [go_sem]
    rintro e u' w'' ⟨rfl, rfl, rfl⟩
    simp [Leaves, settle, results, Tryz.results70, go_sem]
    first | exact below_two _ _ | exact (below_two _ _).drew

end Go.Proofs.YtdhlheilgagcpaaGreatDoor
namespace Go.Proofs.YtdhlheilgagcpaaGreatDoor
open Go.RowKit Go.PlainAid
set_option linter.unusedVariables false

/-- whether s is one digit or more, without needless noughts -/
def okB (s : ByteArray) : Bool := decide (okD s)
theorem okB_true {s : ByteArray} (h : okD s) : okB s = true := decide_eq_true h
theorem okB_false {s : ByteArray} (h : ¬ okD s) : okB s = false := decide_eq_false h

theorem ret_bool {a b : Bool} (h : a = b) : Ending.returned (.bool a) = .returned (.bool b) := by rw [h]

/-- a is at most b, by the digits -/
def leastB (a b : ByteArray) : Bool := decide (a.size < b.size) || (decide (a.size = b.size) && (Op.bytesLess a.toList b.toList || a.toList == b.toList))

end Go.Proofs.YtdhlheilgagcpaaGreatDoor
namespace Go.Proofs.YtdhlheilgagcpaaGreatDoor
open Go.RowKit Go.PlainAid
set_option linter.unusedVariables false

/-- what a digit stands for -/
def dv (c : UInt8) : Nat := c.toNat - 48
/-- what digits are worth -/
def vL : List UInt8 → Nat
  | [] => 0
  | c :: cs => dv c * 10 ^ cs.length + vL cs
/-- all of them are digits -/
def allL (xs : List UInt8) : Prop := ∀ c ∈ xs, 48 ≤ c.toNat ∧ c.toNat ≤ 57
/-- one digit or more, without needless noughts -/
def okL (xs : List UInt8) : Prop := 0 < xs.length ∧ allL xs ∧ (1 < xs.length → xs.head? ≠ some 48)

theorem allL_tail {c : UInt8} {cs : List UInt8} (h : allL (c :: cs)) : allL cs := fun x hx => h x (List.mem_cons_of_mem _ hx)
theorem dv_bd {c : UInt8} (h : 48 ≤ c.toNat ∧ c.toNat ≤ 57) : dv c ≤ 9 := by unfold dv; omega

theorem vL_one (xs : List UInt8) (c : UInt8) : vL (xs ++ [c]) = 10 * vL xs + dv c := by
  induction xs with
  | nil => simp [vL]
  | cons x xs ih =>
    show dv x * 10 ^ (xs ++ [c]).length + vL (xs ++ [c]) = 10 * (dv x * 10 ^ xs.length + vL xs) + dv c
    rw [ih, List.length_append, show [c].length = 1 from rfl, Nat.pow_succ, Nat.mul_add, ← Nat.mul_assoc, Nat.mul_comm (dv x * 10 ^ xs.length) 10]
    omega

theorem vL_lt {xs : List UInt8} (h : allL xs) : vL xs < 10 ^ xs.length := by
  induction xs with
  | nil => simp [vL]
  | cons c cs ih =>
    have h1 := ih (allL_tail h)
    have h2 := dv_bd (h c (List.mem_cons_self ..))
    have h3 : dv c * 10 ^ cs.length ≤ 9 * 10 ^ cs.length := Nat.mul_le_mul_right _ h2
    show dv c * 10 ^ cs.length + vL cs < 10 ^ (cs.length + 1)
    rw [Nat.pow_succ]; omega

theorem vL_ge {c : UInt8} {cs : List UInt8} (h : allL (c :: cs)) (hc : c ≠ 48) : 10 ^ cs.length ≤ vL (c :: cs) := by
  have h1 := h c (List.mem_cons_self ..)
  have h2 : 1 ≤ dv c := by
    unfold dv
    have : c.toNat ≠ 48 := fun e => hc (UInt8.toNat_inj.1 (by rw [e]; rfl))
    omega
  have h3 : 1 * 10 ^ cs.length ≤ dv c * 10 ^ cs.length := Nat.mul_le_mul_right _ h2
  show _ ≤ dv c * 10 ^ cs.length + vL cs
  omega

theorem dv_inj {a b : UInt8} (ha : 48 ≤ a.toNat ∧ a.toNat ≤ 57) (hb : 48 ≤ b.toNat ∧ b.toNat ≤ 57) (h : dv a = dv b) : a = b := by
  unfold dv at h; exact UInt8.toNat_inj.1 (by omega)

/-- a step: the first digits decide, and, if they are one, the rest -/
theorem step_lt {a b P x y : Nat} (hx : x < P) (hy : y < P) : a * P + x < b * P + y ↔ a < b ∨ (a = b ∧ x < y) := by
  rcases Nat.lt_trichotomy a b with h | h | h
  · have : (a + 1) * P ≤ b * P := Nat.mul_le_mul_right _ h
    rw [Nat.add_mul] at this; constructor
    · intro _; exact .inl h
    · intro _; omega
  · subst h; constructor
    · intro _; exact .inr ⟨rfl, by omega⟩
    · intro k; rcases k with k | ⟨_, k⟩ <;> omega
  · have : (b + 1) * P ≤ a * P := Nat.mul_le_mul_right _ h
    rw [Nat.add_mul] at this; constructor
    · intro _; omega
    · intro k; rcases k with k | ⟨k, _⟩ <;> omega

theorem less_iff : ∀ (xs ys : List UInt8), xs.length = ys.length → allL xs → allL ys → (Op.bytesLess xs ys = true ↔ vL xs < vL ys)
  | [], [], _, _, _ => by simp [Op.bytesLess, vL]
  | a :: x, b :: y, hl, hx, hy => by
    have hl' : x.length = y.length := by simpa using hl
    have ih := less_iff x y hl' (allL_tail hx) (allL_tail hy)
    have ha := hx a (List.mem_cons_self ..)
    have hb := hy b (List.mem_cons_self ..)
    have h1 := vL_lt (allL_tail hx)
    have h2 := vL_lt (allL_tail hy)
    show Op.bytesLess (a :: x) (b :: y) = true ↔ dv a * 10 ^ x.length + vL x < dv b * 10 ^ y.length + vL y
    rw [hl'] at h1 ⊢
    rw [step_lt h1 h2, ← ih]
    show (decide (a < b) || (a == b && Op.bytesLess x y)) = true ↔ _
    rw [Bool.or_eq_true, Bool.and_eq_true, decide_eq_true_iff, beq_iff_eq, UInt8.lt_iff_toNat_lt]
    constructor
    · rintro (h | ⟨h, k⟩)
      · exact .inl (by unfold dv; omega)
      · exact .inr ⟨by rw [h], k⟩
    · rintro (h | ⟨h, k⟩)
      · exact .inl (by unfold dv at h; omega)
      · exact .inr ⟨dv_inj ha hb h, k⟩
  | [], _ :: _, hl, _, _ => by simp at hl
  | _ :: _, [], hl, _, _ => by simp at hl

theorem less_irrefl (x : List UInt8) : Op.bytesLess x x = false := by
  induction x with
  | nil => rfl
  | cons a x ih => show (decide (a < a) || (a == a && Op.bytesLess x x)) = false; rw [ih]; simp

theorem same_iff : ∀ (xs ys : List UInt8), xs.length = ys.length → allL xs → allL ys → (xs = ys ↔ vL xs = vL ys)
  | [], [], _, _, _ => by simp
  | a :: x, b :: y, hl, hx, hy => by
    have hl' : x.length = y.length := by simpa using hl
    have ih := same_iff x y hl' (allL_tail hx) (allL_tail hy)
    have ha := hx a (List.mem_cons_self ..)
    have hb := hy b (List.mem_cons_self ..)
    have h1 := vL_lt (allL_tail hx)
    have h2 := vL_lt (allL_tail hy)
    constructor
    · intro h; rw [h]
    · intro h
      have h : dv a * 10 ^ x.length + vL x = dv b * 10 ^ y.length + vL y := h
      rw [hl'] at h1 h
      have k1 := step_lt (a := dv a) (b := dv b) h1 h2
      have k2 := step_lt (a := dv b) (b := dv a) h2 h1
      have e : dv a = dv b := by
        rcases Nat.lt_trichotomy (dv a) (dv b) with k | k | k
        · have := k1.2 (.inl k); omega
        · exact k
        · have := k2.2 (.inl k); omega
      rw [e] at h
      rw [dv_inj ha hb e, ih.2 (by omega)]
  | [], _ :: _, hl, _, _ => by simp at hl
  | _ :: _, [], hl, _, _ => by simp at hl

/-- a longer text is a greater number -/
theorem longer {xs ys : List UInt8} (hx : okL xs) (hy : okL ys) (h : xs.length < ys.length) : vL xs < vL ys := by
  obtain ⟨x0, x1, x2⟩ := hx
  obtain ⟨y0, y1, y2⟩ := hy
  have h1 := vL_lt x1
  match ys, y1, y2, h with
  | b :: y, y1, y2, h =>
    have h2 := vL_ge y1 (fun e => y2 (by simp at h ⊢; omega) (by rw [e]; rfl))
    have h3 : 10 ^ xs.length ≤ 10 ^ y.length := Nat.pow_le_pow_right (by omega) (by simp at h; omega)
    omega

/-- one text a number -/
theorem one_text {xs ys : List UInt8} (hx : okL xs) (hy : okL ys) (h : vL xs = vL ys) : xs = ys := by
  have hl : xs.length = ys.length := by
    rcases Nat.lt_trichotomy xs.length ys.length with k | k | k
    · have := longer hx hy k; omega
    · exact k
    · have := longer hy hx k; omega
  exact (same_iff xs ys hl hx.2.1 hy.2.1).2 h

/-- the order of texts, the shorter ones first, is the order of numbers -/
theorem least_iff {a b : ByteArray} (ha : okL a.toList) (hb : okL b.toList) : leastB a b = true ↔ vL a.toList ≤ vL b.toList := by
  have la : a.toList.length = a.size := by rw [ByteArray.toList_eq]; rfl
  have lb : b.toList.length = b.size := by rw [ByteArray.toList_eq]; rfl
  unfold leastB
  rw [← la, ← lb]
  rcases Nat.lt_trichotomy a.toList.length b.toList.length with k | k | k
  · have := longer ha hb k
    simp [k]; omega
  · have h1 := less_iff _ _ k ha.2.1 hb.2.1
    have h2 := same_iff _ _ k ha.2.1 hb.2.1
    simp only [Bool.or_eq_true, Bool.and_eq_true, decide_eq_true_iff, beq_iff_eq, h1, h2]
    omega
  · have := longer hb ha k
    simp only [Bool.or_eq_true, Bool.and_eq_true, decide_eq_true_iff, beq_iff_eq]
    omega

/-! ### The bytes of a text -/
theorem bt_list (s : ByteArray) (i : Nat) (h : i < s.toList.length) : bt s i = ((s.toList[i]).toNat : Int) := by
  have e : s.toList = s.data.toList := ByteArray.toList_eq s
  have hs : i < s.size := by rw [e] at h; exact h
  unfold bt
  rw [dif_pos hs]
  simp only [e]
  rfl
theorem valN_list (s : ByteArray) : ∀ k, k ≤ s.size → valN s k = vL (s.toList.take k) := by
  have la : s.toList.length = s.size := by rw [ByteArray.toList_eq]; rfl
  intro k
  induction k with
  | zero => intro _; simp [valN, vL]
  | succ k ih =>
    intro h
    rw [List.take_succ_eq_append_getElem (by omega), vL_one, ← ih (by omega)]
    show 10 * valN s k + (bt s k - 48).toNat = _
    rw [bt_list s k (by omega)]
    unfold dv; omega
theorem val_list (s : ByteArray) : valN s s.size = vL s.toList := by
  have la : s.toList.length = s.size := by rw [ByteArray.toList_eq]; rfl
  rw [valN_list s _ (Nat.le_refl _), List.take_of_length_le (by omega)]
theorem ok_list (s : ByteArray) : okD s ↔ okL s.toList := by
  have la : s.toList.length = s.size := by rw [ByteArray.toList_eq]; rfl
  unfold okD okL
  rw [la]
  have h1 : allD s s.size ↔ allL s.toList := by
    constructor
    · intro h c hc
      obtain ⟨i, hi, rfl⟩ := List.getElem_of_mem hc
      have := h i (by omega)
      rw [bt_list s i hi] at this
      omega
    · intro h i hi
      rw [bt_list s i (by omega)]
      have := h _ (List.getElem_mem (l := s.toList) (n := i) (by omega))
      omega
  rw [h1]
  by_cases h0 : 0 < s.size
  · have h2 : bt s 0 ≠ 48 ↔ s.toList.head? ≠ some 48 := by
      rw [bt_list s 0 (by omega), List.head?_eq_getElem?, List.getElem?_eq_getElem (by omega)]
      constructor
      · intro h e; injection e with e; rw [e] at h; exact h rfl
      · intro h e
        exact h (congrArg some (UInt8.toNat_inj.1 (by have := Int.ofNat.inj e; rw [this]; rfl)))
    rw [h2]
  · constructor <;> intro h <;> exact absurd h.1 h0
end Go.Proofs.YtdhlheilgagcpaaGreatDoor
namespace Go.Proofs.YtdhlheilgagcpaaGreatDoor
open Go.RowKit Go.PlainAid
set_option linter.unusedVariables false

/-- the least number's digits, and the greatest's -/
def far8 : ByteArray := ⟨#[57, 50, 50, 51, 51, 55, 50, 48, 51, 54, 56, 53, 52, 55, 55, 53, 56, 48, 56]⟩
def far7 : ByteArray := ⟨#[57, 50, 50, 51, 51, 55, 50, 48, 51, 54, 56, 53, 52, 55, 55, 53, 56, 48, 55]⟩
theorem okL_far8 : okL far8.toList := (ok_list far8).1 (by decide)
theorem okL_far7 : okL far7.toList := (ok_list far7).1 (by decide)
theorem v_far8 : vL far8.toList = 9223372036854775808 := by rw [← val_list]; decide
theorem v_far7 : vL far7.toList = 9223372036854775807 := by rw [← val_list]; decide
theorem least_far8 {s : ByteArray} (h : okD s) : leastB s far8 = decide ((valN s s.size : Int) ≤ 9223372036854775808) := by
  rw [Bool.eq_iff_iff, least_iff ((ok_list s).1 h) okL_far8, v_far8, val_list, decide_eq_true_iff]; omega
theorem least_far7 {s : ByteArray} (h : okD s) : leastB s far7 = decide ((valN s s.size : Int) ≤ 9223372036854775807) := by
  rw [Bool.eq_iff_iff, least_iff ((ok_list s).1 h) okL_far7, v_far7, val_list, decide_eq_true_iff]; omega
theorem nought_iff {s : ByteArray} (h : okD s) : s.toList = [48] ↔ valN s s.size = 0 := by
  rw [val_list]
  constructor
  · intro e; rw [e]; rfl
  · intro e
    exact one_text ((ok_list s).1 h) (⟨by decide, by intro c hc; simp at hc; subst hc; decide, by decide⟩ : okL [48]) (by rw [e]; rfl)

theorem sgnR_bad {s : ByteArray} (hm : bt s 0 = 45) (h : ¬ okD (tl s)) : sgnR s = (0, 2) := by unfold sgnR; rw [if_pos hm, if_neg h]
theorem sgnR_nought {s : ByteArray} (hm : bt s 0 = 45) (h : okD (tl s)) (h0 : valN (tl s) (tl s).size = 0) : sgnR s = (0, 2) := by
  unfold sgnR; rw [if_pos hm, if_pos h, if_pos (by omega), if_pos h0]
theorem sgnR_great {s : ByteArray} (hm : bt s 0 = 45) (h : okD (tl s)) (h0 : ¬ (valN (tl s) (tl s).size : Int) ≤ 9223372036854775808) : sgnR s = (0, 3) := by
  unfold sgnR; rw [if_pos hm, if_pos h, if_neg h0]
theorem sgnR_neg {s : ByteArray} (hm : bt s 0 = 45) (h : okD (tl s)) (h0 : (valN (tl s) (tl s).size : Int) ≤ 9223372036854775808) (h1 : ¬ valN (tl s) (tl s).size = 0) : sgnR s = (-(valN (tl s) (tl s).size : Int), 0) := by
  unfold sgnR; rw [if_pos hm, if_pos h, if_pos h0, if_neg h1]
theorem sgnR_plain {s : ByteArray} (hm : ¬ bt s 0 = 45) : sgnR s = cntR s 9223372036854775807 := if_neg hm
theorem cntR_bad {s : ByteArray} (m : Int) (h : ¬ okD s) : cntR s m = (0, 2) := if_neg h
theorem cntR_great {s : ByteArray} {m : Int} (h : okD s) (h0 : ¬ (valN s s.size : Int) ≤ m) : cntR s m = (0, 3) := by unfold cntR; rw [if_pos h, if_neg h0]
theorem cntR_good {s : ByteArray} {m : Int} (h : okD s) (h0 : (valN s s.size : Int) ≤ m) : cntR s m = ((valN s s.size : Int), 0) := by unfold cntR; rw [if_pos h, if_pos h0]
theorem ret_two {k l : IntKind} {a b c d : Int} (h : a = b) (h' : c = d) : Ending.returned (.tuple #[.int k a, .int l c]) = .returned (.tuple #[.int k b, .int l d]) := by rw [h, h']

end Go.Proofs.YtdhlheilgagcpaaGreatDoor
namespace Go.Proofs.YtdhlheilgagcpaaGreatDoor
open Go.RowKit Go.PlainAid
set_option linter.unusedVariables false

theorem ex1 : sgnR ⟨#[45, 48]⟩ = (0, 2) := by decide +kernel
theorem ex2 : sgnR ⟨#[57, 50, 50, 51, 51, 55, 50, 48, 51, 54, 56, 53, 52, 55, 55, 53, 56, 48, 56]⟩ = (0, 3) := by decide +kernel
theorem ex3 : cntR ⟨#[45, 53]⟩ 9 = (0, 2) := by decide +kernel

end Go.Proofs.YtdhlheilgagcpaaGreatDoor
namespace Go.Proofs.YtdhlheilgagcpaaGreatDoor
open Go.RowKit Go.PlainAid
set_option linter.unusedVariables false

theorem plain_of_ok {s : ByteArray} (h : okD s) : ¬ bt s 0 = 45 := by have := h.2.1 0 h.1; omega

end Go.Proofs.YtdhlheilgagcpaaGreatDoor
