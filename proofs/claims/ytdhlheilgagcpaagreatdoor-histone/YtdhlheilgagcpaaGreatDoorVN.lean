/- A value's text; the contracts of Print, the program's and the document's. Conditions: the text is at most 2^62 bytes, the number one of 64 bits; the library's table of powers of ten. -/
import Derived.Test.YtdhlheilgagcpaaGreatDoorBW
import Derived.Test.YtdhlheilgagcpaaGreatDoorBG
namespace Go.Proofs.YtdhlheilgagcpaaGreatDoor
open Go.RowKit Go.PlainAid Go.Sort
set_option linter.unusedVariables false

/-- a value's text -/
def prt (k n : Int) (s : ByteArray) : ByteArray := if rightP k n s then (if k = 0 then ⟨#[126]⟩ else if k = 1 then txt n else if k = 2 then s else if n = 1 then ⟨#[84]⟩ else ⟨#[70]⟩) else noB
theorem prt_bad {k n : Int} {s : ByteArray} (h : ¬ rightP k n s) : prt k n s = ⟨#[]⟩ := if_neg h
theorem prt_none {n : Int} {s : ByteArray} (h : rightP 0 n s) : prt 0 n s = ⟨#[126]⟩ := by unfold prt; rw [if_pos h]; rfl
theorem prt_num {n : Int} {s : ByteArray} (h : rightP 1 n s) : prt 1 n s = txt n := by unfold prt; rw [if_pos h]; rfl
theorem prt_word {n : Int} {s : ByteArray} (h : rightP 2 n s) : prt 2 n s = s := by unfold prt; rw [if_pos h]; rfl
theorem prt_yes {s : ByteArray} (h : rightP 3 1 s) : prt 3 1 s = ⟨#[84]⟩ := by unfold prt; rw [if_pos h]; rfl
theorem prt_no {n : Int} {s : ByteArray} (h : rightP 3 n s) (h1 : ¬ n = 1) : prt 3 n s = ⟨#[70]⟩ := by
  unfold prt; rw [if_pos h, if_neg (by decide), if_neg (by decide), if_neg (by decide), if_neg h1]
theorem right_kind {k n : Int} {s : ByteArray} (h : rightP k n s) : k = 0 ∨ k = 1 ∨ k = 2 ∨ (k = 3 ∧ (n = 0 ∨ n = 1) ∧ s.size = 0) := by
  rcases h with h | h | h | h
  · exact .inl h.1
  · exact .inr (.inl h.1)
  · exact .inr (.inr (.inl h.1))
  · exact .inr (.inr (.inr h))

set_option maxHeartbeats 1600000 in
theorem vprint_any (k n : Int) (s : ByteArray) (w : World) (hz : s.size ≤ 4611686018427387904) (hn : -9223372036854775808 ≤ n ∧ n ≤ 9223372036854775807) (hp : Pt w) :
    Calls Tryz.prog 29 #[.agg #[.int .i64 k, .int .i64 n, .string s]] w fun e w' => e = .returned (.string (prt k n s)) ∧ Below w.heap.size w w' := by
  have HP : Hid (Pt w) := hp
  have hR := right_any k n s
  by_cases hr : rightP k n s
  · rw [rightB_t hr] at hR
    rcases right_kind hr with h | h | h | h
    · subst h
      rw [prt_none hr]
      clear hr hp
      go_enter Tryz.func29, Tryz.ntmps29
      go_wp2_with (go_at_call 60; refine (hR _ hz).mono ?_; rintro e w1 ⟨rfl, hb1⟩; have HB : Hid (Below w.heap.size w w1) := below_next (below_box _ _) hb1; obtain ⟨c6, c0, c1, c2, z0, z1, z2⟩ := (VBox.new w 0 n s 34).later hb1; clear hb1)
      go_ret
      exact ⟨rfl, HB.out⟩
    · subst h
      rw [prt_num hr]
      clear hr hp
      go_enter Tryz.func29, Tryz.ntmps29
      go_wp2_with (first | (go_at_call 60; refine (hR _ hz).mono ?_; rintro e w1 ⟨rfl, hb1⟩; have HB : Hid (Below w.heap.size w w1) := below_next (below_box _ _) hb1; obtain ⟨c6, c0, c1, c2, z0, z1, z2⟩ := (VBox.new w 1 n s 34).later hb1; clear hb1) | (go_at_call 28; refine (print_any n _ hn.1 hn.2 (HP.out.later HB.out)).mono ?_; rintro e w2 ⟨rfl, hb2⟩; have HB2 : Hid (Below w.heap.size w w2) := below_next HB.out hb2; clear hb2))
      go_ret
      exact ⟨rfl, HB2.out⟩
    · subst h
      rw [prt_word hr]
      clear hr hp
      go_enter Tryz.func29, Tryz.ntmps29
      go_wp2_with (go_at_call 60; refine (hR _ hz).mono ?_; rintro e w1 ⟨rfl, hb1⟩; have HB : Hid (Below w.heap.size w w1) := below_next (below_box _ _) hb1; obtain ⟨c6, c0, c1, c2, z0, z1, z2⟩ := (VBox.new w 2 n s 34).later hb1; clear hb1)
      go_ret
      exact ⟨rfl, HB.out⟩
    · obtain ⟨rfl, hn01, hs0⟩ := h
      have hg := eqgV
      have mixed : Tryz.prog.follows .mixedOrders = true := by kernel_rfl
      have hN1 := fun w => ofBool_any 1 w
      have hq1 := fun w => eqV 3 n 3 1 s noB w
      rw [eqvB_no] at hq1
      have e : prt 3 n s = (if n = 1 then ⟨#[84]⟩ else ⟨#[70]⟩) := by
        by_cases h : n = 1
        · subst h; rw [if_pos rfl, prt_yes hr]
        · rw [if_neg h, prt_no hr h]
      rw [e]
      have hd : decide ((3 : Int) = 3 ∧ n = 1 ∧ s.size = 0) = decide (n = 1) := by rw [decide_eq_decide]; exact ⟨fun h => h.2.1, fun h => ⟨rfl, h, hs0⟩⟩
      rw [hd] at hq1
      clear hr hp e hd hn hs0
      by_cases h : n = 1
      case' pos => rw [if_pos h]; rw [decide_eq_true h] at hq1
      case' neg => rw [if_neg h]; rw [decide_eq_false h] at hq1
      all_goals
        clear h hn01
        go_enter Tryz.func29, Tryz.ntmps29
        go_wp2_with (go_at_call 60; refine (hR _ hz).mono ?_; rintro e w1 ⟨rfl, hb1⟩; have HB : Hid (Below w.heap.size w w1) := below_next (below_box _ _) hb1; have HC : Hid (VBox w1 w.heap.size 3 n s) := (VBox.new w 3 n s 34).later hb1; obtain ⟨c6, c0, c1, c2, z0, z1, z2⟩ := HC.out; clear hb1)
        have c0' := fun d os => cell_regrown c0 d os
        have c1' := fun d os => cell_regrown c1 d os
        have c2' := fun d os => cell_regrown c2 d os
        clear c0 c1 c2 z0 z1 z2
        refine wp_region_quiet_below (by assumption) (by kernel_rfl) ?_
        repeat (quiet_step (first | (go_at_call 61; with_reducible exact Calls.regrown_of (hN1 _))))
        refine wpQuiet_nil ?_
        intro _ hw'
        obtain ⟨⟨dq, osq⟩, hw''⟩ := hw'
        subst hw''
        go_wp2
        go_ret
        exact ⟨rfl, below_next HB.out (below_regrown _ _ _)⟩
  · rw [rightB_f hr] at hR
    rw [prt_bad hr]
    clear hr hp
    go_enter Tryz.func29, Tryz.ntmps29
    go_wp2_with (go_at_call 60; refine (hR _ hz).mono ?_; rintro e w1 ⟨rfl, hb1⟩; have HB : Hid (Below w.heap.size w w1) := below_next (below_box _ _) hb1; clear hb1)
    go_ret
    exact ⟨rfl, HB.out⟩

set_option maxHeartbeats 1600000 in
theorem vrprint_any (k n : Int) (s : ByteArray) (w : World) (hz : s.size ≤ 4611686018427387904) (hn : -9223372036854775808 ≤ n ∧ n ≤ 9223372036854775807) :
    Calls Tryz.prog 36 #[.agg #[.int .i64 k, .int .i64 n, .string s]] w fun e w' => e = .returned (.string (prt k n s)) ∧ Below w.heap.size w w' := by
  have hR := rright_any k n s
  by_cases hr : rightP k n s
  · rw [rightB_t hr] at hR
    rcases right_kind hr with h | h | h | h
    · subst h
      rw [prt_none hr]
      clear hr
      go_enter Tryz.func36, Tryz.ntmps36
      go_wp2_with (go_at_call 21; refine (hR _ hz).mono ?_; rintro e w1 ⟨rfl, hb1⟩; have HB : Hid (Below w.heap.size w w1) := below_next (below_box _ _) hb1; obtain ⟨c6, c0, c1, c2, z0, z1, z2⟩ := (VBox.new w 0 n s 34).later hb1; clear hb1)
      go_ret
      exact ⟨rfl, HB.out⟩
    · subst h
      rw [prt_num hr]
      clear hr
      go_enter Tryz.func36, Tryz.ntmps36
      go_wp2_with (first | (go_at_call 21; refine (hR _ hz).mono ?_; rintro e w1 ⟨rfl, hb1⟩; have HB : Hid (Below w.heap.size w w1) := below_next (below_box _ _) hb1; obtain ⟨c6, c0, c1, c2, z0, z1, z2⟩ := (VBox.new w 1 n s 34).later hb1; clear hb1) | (go_at_call 35; refine (rprint_any n _ hn.1 hn.2).mono ?_; rintro e w2 ⟨rfl, hb2⟩; have HB2 : Hid (Below w.heap.size w w2) := below_next HB.out hb2; clear hb2))
      go_ret
      exact ⟨rfl, HB2.out⟩
    · subst h
      rw [prt_word hr]
      clear hr
      go_enter Tryz.func36, Tryz.ntmps36
      go_wp2_with (go_at_call 21; refine (hR _ hz).mono ?_; rintro e w1 ⟨rfl, hb1⟩; have HB : Hid (Below w.heap.size w w1) := below_next (below_box _ _) hb1; obtain ⟨c6, c0, c1, c2, z0, z1, z2⟩ := (VBox.new w 2 n s 34).later hb1; clear hb1)
      go_ret
      exact ⟨rfl, HB.out⟩
    · obtain ⟨rfl, hn01, hs0⟩ := h
      by_cases h : n = 1
      case' pos => rw [show prt 3 n s = ⟨#[84]⟩ from by subst h; exact prt_yes hr]; have h' : (n == 1) = true := by simp [h]
      case' neg => rw [prt_no hr h]; have h' : (n == 1) = false := by simp [h]
      all_goals
        clear h hn01 hr
        go_enter Tryz.func36, Tryz.ntmps36
        go_wp2_with (go_at_call 21; refine (hR _ hz).mono ?_; rintro e w1 ⟨rfl, hb1⟩; have HB : Hid (Below w.heap.size w w1) := below_next (below_box _ _) hb1; obtain ⟨c6, c0, c1, c2, z0, z1, z2⟩ := (VBox.new w 3 n s 34).later hb1; clear hb1)
        go_ret
        exact ⟨rfl, HB.out⟩
  · rw [rightB_f hr] at hR
    rw [prt_bad hr]
    clear hr
    go_enter Tryz.func36, Tryz.ntmps36
    go_wp2_with (go_at_call 21; refine (hR _ hz).mono ?_; rintro e w1 ⟨rfl, hb1⟩; have HB : Hid (Below w.heap.size w w1) := below_next (below_box _ _) hb1; clear hb1)
    go_ret
    exact ⟨rfl, HB.out⟩
end Go.Proofs.YtdhlheilgagcpaaGreatDoor
