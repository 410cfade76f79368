/- That the document's example holds; what is more than a statement takes. Conditions: the table holds the rounds' numbers. -/
import Derived.Test.YtidonnilklplhaaDoorMF
import Derived.Test.YtidonnilklplhaaDoorMI
import Derived.Lib.SlBytesConst
import Derived.Deep.OwnRows
namespace Go.Proofs.YtidonnilklplhaaDoor
open Go.RowKit Hx
set_option linter.unusedVariables false

/-- twenty noughts -/
def z20 : List Int := List.replicate 20 0
theorem made20 : madeCells #[Value.int .u8 0] 20 = (cellsK .u8 z20).toArray := by kernel_rfl
theorem make20 (w : World) : (Instr.makeSlice 22 (.int .i64 20) (.int .i64 20)).run Tryd.prog w = .ok (.slice (some ⟨w.heap.size, 0, none⟩) 20 20) (w.alloc (.cells (cellsK .u8 z20).toArray 5)) := by
  have h := run_make_row' (P := Tryd.prog) 22 5 (.int .u8 0) 1 Tryd.underlying22 Tryd.info5 rfl .i64 .i64 20 (by decide) (by decide) w
  rw [made20] at h
  exact h
theorem key_at : ∀ k, k < 20 → nth hiKey k = 11 := by decide
theorem key_by : By hiKey := fun x hx => by have := List.eq_of_mem_replicate hx; omega

set_option maxRecDepth 100000 in
set_option maxHeartbeats 1000000 in
theorem eleven_any (w : World) : Calls Tryd.prog 20 #[] w fun en w' => ∃ v, en = .returned v ∧ Sl w' v hiKey ∧ Below w.heap.size w w' := by
  have hmk := make20
  have hAX : hiKey.length = (z20).length := rfl
  go_enter Tryd.func20, Tryd.ntmps20
  go_wp2_with fail
  have r0 : Row (w.alloc (.cells (cellsK .u8 (z20)).toArray 5)) w.heap.size .u8 (z20) := ⟨5, heap_alloc_new w _⟩
  have hb0 : Below w.heap.size w (w.alloc (.cells (cellsK .u8 (z20)).toArray 5)) := (Below.refl _ _).alloc (Nat.le_refl _) _
  generalize w.alloc (.cells (cellsK .u8 (z20)).toArray 5) = w1 at r0 hb0 ⊢
  clear hmk
  obtain ⟨p, hp⟩ : ∃ p, p = w.heap.size := ⟨_, rfl⟩
  rw [← hp] at r0 ⊢
  have q : w.heap.size ≤ p := by omega
  clear hp
  have HI : Hid (Row w1 p .u8 (mx hiKey (z20) 0) ∧ Below w.heap.size w w1) := ⟨by rw [mx_zero]; exact r0, hb0⟩
  clear r0 hb0
  go_wp2_with fail
  go_loopw [6] (fun i wr => ∃ k : Nat, k ≤ 20 ∧ i = .int .i64 k ∧ Hid (Row wr p .u8 (mx hiKey (z20) k) ∧ Below w.heap.size w wr)) (fun i _ => 20 - (intOf i).toNat)
  case atStart => exact ⟨0, by omega, rfl, HI.out⟩
  case round =>
    clear HI
    obtain ⟨k, hk, rfl, HI⟩ := hrel
    by_cases hlt : k < 20
    · obtain ⟨r, hb⟩ := HI.out
      have hlt' : (k : Int) < 20 := by omega
      have hk0 : (0 : Int) ≤ (k : Int) := by omega
      have c1 := r.cell k (by rw [mx_len _ _ hAX k hk]; exact hlt)
      have f1 := r.froz k
      have HM : Hid ((mx hiKey (z20) k).set k 11 = mx hiKey (z20) (k + 1)) := by
        show _ = _
        rw [← key_at k hlt]; exact mx_set _ _ hAX k hlt
      clear r hb
      generalize nth (mx hiKey (z20) k) k = Z at *
      go_wp2
      go_roundw
      case rel =>
        obtain ⟨r, hb⟩ := HI.out
        have o := only_setCell wr p k (.int .u8 11)
        have h6 := r.set k 11
        rw [HM.out] at h6
        exact ⟨k + 1, by omega, by go_num, h6, (below_only hb o (by omega) (Nat.le_refl _))⟩
      case measure => simp [intOf]; omega
    · have hk' : k = 20 := by omega
      subst hk'
      obtain ⟨r, hb⟩ := HI.out
      have e : mx hiKey (z20) 20 = hiKey := mx_full hiKey (z20) hAX
      rw [e] at r
      have s := row_sl r key_by (rfl : hiKey.length = 20) (by decide)
      clear HI r
      go_wp2
      go_ret
      exact ⟨_, rfl, s, hb⟩

theorem part_len {w : World} {u : Value} {xs : List Int} (h : Sl w u xs) : ∃ a c, u = .slice a xs.length c ∧ xs.length ≤ 9223372036854775807 := by
  obtain ⟨a, c, h, _, h', _⟩ := h; exact ⟨a, c, h, h'⟩

/-- what great tells: if no, there are few parts, and none of them is long -/
def Few (ps : List (List Int)) : Prop := ps.length ≤ 20 ∧ ∀ k, k < ps.length → (part ps k).length ≤ 300
def RGreat (ps : List (List Int)) (w : World) (en : Ending) (w' : World) : Prop := ∃ b, en = .returned (.bool b) ∧ (b = false → Few ps) ∧ w' = w
theorem RGreat.yes {ps : List (List Int)} {w w' : World} (h : w' = w) : RGreat ps w (.returned (.bool true)) w' := ⟨true, rfl, (fun h => nomatch h), h⟩
theorem RGreat.no {ps : List (List Int)} {w w' : World} (h : w' = w) (hf : Few ps) : RGreat ps w (.returned (.bool false)) w' := ⟨false, rfl, fun _ => hf, h⟩

set_option maxRecDepth 100000 in
set_option maxHeartbeats 1000000 in
theorem great_any (v : Value) (ps : List (List Int)) (w : World) (hv : PSl w v ps) :
    Calls Tryd.prog 9 #[v] w fun en w' => RGreat ps w en w' := by
  obtain ⟨ad, cap, rfl, hl, hcap, hr⟩ := hv
  obtain ⟨L, hL⟩ : ∃ L, L = ps.length := ⟨_, rfl⟩
  rw [← hL] at hl hcap hr ⊢
  have HL : Hid (L = ps.length) := hL
  clear hL
  go_enter Tryd.func9, Tryd.ntmps9
  go_wp2_with fail
  go_loopw [7] (fun i wr => ∃ k : Nat, k ≤ L ∧ i = .int .i64 k ∧ Hid (∀ j, j < k → (part ps j).length ≤ 300) ∧ Hid (wr = w)) (fun i _ => L - (intOf i).toNat)
  case atStart => exact ⟨0, by omega, rfl, fun j hj => by omega, rfl⟩
  case round =>
    obtain ⟨k, hk, rfl, HA, HW⟩ := hrel
    by_cases hlt : k < L
    · obtain ⟨b, off, rfl, hbs, hcell⟩ := hr (by omega)
      obtain ⟨u, hu, hsu⟩ := hcell k hlt
      obtain ⟨au, cu, rfl, hul⟩ := part_len hsu
      have hlt' : (k : Int) < (L : Int) := by omega
      have cc : wr.cell? ⟨b, off + k, none⟩ = some (.slice au (part ps k).length cu) := by rw [HW.out]; exact hu
      obtain ⟨M, hM⟩ : ∃ M, M = (part ps k).length := ⟨_, rfl⟩
      rw [← hM] at cc hul
      have HM : Hid (M = (part ps k).length) := hM
      clear hM hu hsu hcell hr
      by_cases hg : 300 < M
      · have hg' : (300 : Int) < (M : Int) := by omega
        go_wp2
        go_ret
        exact RGreat.yes HW.out
      · have hg' : ¬ (300 : Int) < (M : Int) := by omega
        go_wp2
        refine ⟨⟨k + 1, by omega, by go_num, fun j hj => ?_, HW⟩, by simp [intOf]; omega⟩
        by_cases hjk : j < k
        · exact HA.out j hjk
        · have : j = k := by omega
          subst this
          rw [← HM.out]; omega
    · have hk' : k = L := by omega
      subst hk'
      by_cases hg : 20 < k
      · have hg' : (20 : Int) < (k : Int) := by omega
        go_wp2
        go_ret
        exact RGreat.yes HW.out
      · have hg' : ¬ (20 : Int) < (k : Int) := by omega
        go_wp2
        go_ret
        exact RGreat.no HW.out ⟨by rw [← HL.out]; omega, by rw [← HL.out]; exact HA.out⟩

set_option maxRecDepth 100000 in
set_option maxHeartbeats 1000000 in
theorem wakes_any (w : World) (hK : Kt w) : Calls Tryd.prog 8 #[] w fun en w' => en = .returned (.bool true) ∧ Below w.heap.size w w' := by
  have hD : hiE.length = 32 := rfl
  have h32 : (Tryd.prog.info? 25).map (·.size) = some hiE.length := Tryd.size25
  have hc : ∀ (w3 : World) (p : Nat), Row w3 p .u8 hiE → w3.cell? ⟨p, 0, none⟩ = some (.int .u8 176) ∧ w3.cell? ⟨p, 1, none⟩ = some (.int .u8 52) ∧ w3.cell? ⟨p, 2, none⟩ = some (.int .u8 76) ∧ w3.cell? ⟨p, 3, none⟩ = some (.int .u8 97) := by
    intro w3 p r3
    refine ⟨?_, ?_, ?_, ?_⟩
    · exact r3.cell 0 (by decide)
    · exact r3.cell 1 (by decide)
    · exact r3.cell 2 (by decide)
    · exact r3.cell 3 (by decide)
  have kc := fun (w : World) (C : Array Value) (n c : Nat) => Lib.run_convert_bytes_const (P := Tryd.prog) w 22 5 C n c Tryd.underlying22 Tryd.underlying5
  have hk0 := hK.pos
  go_enter Tryd.func8, Tryd.ntmps8
  go_wp2_with fail
  refine (eleven_any w).mono ?_
  rintro e w1 ⟨v1, rfl, s1, hb1⟩
  go_wp2_with fail
  clear kc
  have p1 : PSl ((w1.alloc (.cells #[.int .u8 72, .int .u8 105, .int .u8 32, .int .u8 84, .int .u8 104, .int .u8 101, .int .u8 114, .int .u8 101] 5 (8, 9))).alloc (.cells #[.slice (some ⟨w1.heap.size, 0, none⟩) 8 8] 22)) (.slice (some ⟨w1.heap.size + 1, 0, none⟩) 1 1) [hiText] := by
    have s1 := sl_lit w1 hiText (by decide) (by decide) (8, 9)
    have h := psl_one s1 (.cells #[.slice (some ⟨w1.heap.size, 0, none⟩) 8 8] 22) ⟨_, rfl⟩
    rw [World.size_alloc] at h
    exact h
  have hb2 : Below w1.heap.size w1 ((w1.alloc (.cells #[.int .u8 72, .int .u8 105, .int .u8 32, .int .u8 84, .int .u8 104, .int .u8 101, .int .u8 114, .int .u8 101] 5 (8, 9))).alloc (.cells #[.slice (some ⟨w1.heap.size, 0, none⟩) 8 8] 22)) := ((Below.refl _ _).alloc (Nat.le_refl _) _).alloc (by simp) _
  generalize (w1.alloc (.cells #[.int .u8 72, .int .u8 105, .int .u8 32, .int .u8 84, .int .u8 104, .int .u8 101, .int .u8 114, .int .u8 101] 5 (8, 9))).alloc (.cells #[.slice (some ⟨w1.heap.size, 0, none⟩) 8 8] 22) = w0 at p1 hb2 ⊢
  have hb3 := below_next hb1 hb2
  refine (msum_any v1 _ hiKey [hiText] w0 (hK.below hb3 hk0) (s1.later hb2) p1 (by decide) (by decide)).mono ?_
  rintro e w4 ⟨rfl, hb4⟩
  rw [show ([hiText] : List (List Int)).flatten = hiText by simp, hi_seal]
  have hb5 := below_next hb3 hb4
  clear p1 hb1 hb2 hb3 hb4 s1
  go_wp2_with (first
    | ((with_reducible refine wp_allocD 1 25 .u8 32 Tryd.zero25 ?_ ?_); (exact ⟨rfl, rfl, rfl⟩); intro p w5 hg5 hr5 hb6)
    | ((with_reducible refine wp_storeR 25 (.tmp 1) (.tmp 6) p .u8 (List.replicate 32 0) hiE h32 ?_ ?_ ?_ ?_ hr5 ?_); (rw [hD]; rfl); (exact ⟨rfl, rfl⟩); (exact rfl); (exact rfl); intro w6 r6 o6; obtain ⟨c0, c1, c2, c3⟩ := hc _ _ r6))
  have hb7 := below_only (below_next hb5 hb6) o6 (by have := hb5.size; omega) (Nat.le_refl _)
  go_ret
  exact ⟨rfl, hb7⟩
end Go.Proofs.YtidonnilklplhaaDoor
