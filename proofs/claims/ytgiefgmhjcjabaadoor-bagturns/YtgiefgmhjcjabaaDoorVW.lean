/- The contract of the document's Sort. Conditions: at most a thousand values. -/
import Derived.Test.YtgiefgmhjcjabaaDoorBT
import Derived.Test.YtgiefgmhjcjabaaDoorVJ
import Derived.BigQuiet
namespace Go.Proofs.YtgiefgmhjcjabaaDoor
open Go.RowKit Go.PlainAid Go.Sort
set_option linter.unusedVariables false

/-- where x goes among the first k of a row -/
def posK (x : Val) (out : List Val) : Nat → Nat
  | 0 => 0
  | k + 1 => if ltV x (nv out k) = true then posK x out k else k + 1
theorem posK_le (x : Val) (out : List Val) : ∀ k, posK x out k ≤ k
  | 0 => Nat.le_refl _
  | k + 1 => by unfold posK; split; have := posK_le x out k; omega; omega
theorem posK_less {x : Val} {out : List Val} {k : Nat} (h : ltV x (nv out k) = true) : posK x out (k + 1) = posK x out k := if_pos h
theorem posK_stop {x : Val} {out : List Val} {k : Nat} (h : ltV x (nv out k) = false) : posK x out (k + 1) = k + 1 := if_neg (by rw [h]; decide)
/-- x laid into a row -/
def insL (x : Val) (out : List Val) : List Val := out.take (posK x out out.length) ++ [x] ++ out.drop (posK x out out.length)
/-- the first k of a row, in order -/
def srtN (l : List Val) : Nat → List Val
  | 0 => []
  | k + 1 => insL (nv l k) (srtN l k)
theorem insL_len (x : Val) (out : List Val) : (insL x out).length = out.length + 1 := by
  have := posK_le x out out.length
  unfold insL
  simp [List.length_take, List.length_drop]; omega
theorem srtN_len (l : List Val) : ∀ k, (srtN l k).length = k
  | 0 => rfl
  | k + 1 => by show (insL _ _).length = _; rw [insL_len, srtN_len l k]

theorem rowOne (w : World) (k n : Int) (s : ByteArray) (T : TypeId) : VSl (w.alloc (.cells #[.int .i64 k, .int .i64 n, .string s] T)) (.slice (some ⟨w.heap.size, 0, none⟩) 1 1) [(k, n, s)] := by
  refine ⟨_, 1, rfl, by simp, by simp, .inr ⟨w.heap.size, 0, rfl, by simp, fun i hi => ?_⟩⟩
  have hi1 : i = 0 := by simpa using hi
  subst hi1
  exact ⟨by simp [nv], by simp [nv], by simp [nv]⟩
theorem sliced0 (a : Option Addr) (h c : Nat) : sliced a 0 h c 3 = .slice a h c := by
  unfold sliced
  by_cases hc : c = 0
  · rw [if_pos hc]; rfl
  · rw [if_neg hc]
    cases a with
    | none => rfl
    | some ad => obtain ⟨b, o, s⟩ := ad; simp [Addr.add]
theorem less_below (x y : Val) (w : World) : Calls Tryd.prog 33 #[.agg #[.int .i64 x.1, .int .i64 x.2.1, .string x.2.2], .agg #[.int .i64 y.1, .int .i64 y.2.1, .string y.2.2]] w fun e w' => e = .returned (.bool (ltV x y)) ∧ Below w.heap.size w w' :=
  (less_any x.1 x.2.1 y.1 y.2.1 x.2.2 y.2.2 w).mono fun e w' ⟨h, q, os, k⟩ => ⟨h, by rw [k]; exact ⟨rfl, rfl, rfl, by show w.heap.size ≤ (w.heap ++ os).size; rw [Array.size_append]; omega, fun i hi => by show (w.heap ++ os)[i]? = w.heap[i]?; rw [Array.getElem?_append_left hi]⟩⟩
theorem grownN {w w' : World} (h : w.grownBy w' none) : Below w.heap.size w w' := ⟨h.os, h.tape, h.output, h.size, fun k hk => h.block k hk (fun e => by cases e)⟩
theorem new_apart {u v : Value} {z : Option Nat} {H : Nat} (hz : z = none) (he : v.ownBlock = z ∨ v.ownBlock = some H) (hu : ∀ g, u.ownBlock = some g → g < H) : ∀ g, v.ownBlock = some g → u.ownBlock ≠ some g := by
  intro g hg e
  have := hu g e
  rcases he with he | he
  · rw [he, hz] at hg; cases hg
  · rw [he] at hg; injection hg with hg; omega
theorem ins_eq {X : List Val} {x : Val} {m k : Nat} (hk : X.length = k) (hp : posK x X k = m) : [] ++ ((X.drop 0).take (m - 0)) ++ [x] ++ (X.drop m).take (k - m) = insL x X := by
  unfold insL
  have e : (X.drop m).take (k - m) = X.drop m := List.take_of_length_le (by rw [List.length_drop]; omega)
  rw [hk, hp, e]
  simp
def RRow (w : World) (ys : List Val) (e : Ending) (w' : World) : Prop := ∃ v, e = .returned v ∧ OwnV w' w.heap.size v ys ∧ Below w.heap.size w w'

set_option maxHeartbeats 4000000 in
theorem rsort_any (v : Value) (l : List Val) (w : World) (hv : VSl w v l) (hn : l.length ≤ 1000) : Calls Tryd.prog 22 #[v] w fun e w' => RRow w (srtN l l.length) e w' := by
  have HV : Hid (VSl w v l) := hv
  obtain ⟨a, c, rfl, _, _, _⟩ := hv.form
  clear hv
  obtain ⟨n, hN⟩ : ∃ n, l.length = n := ⟨_, rfl⟩
  rw [hN] at HV hn ⊢
  have HN : Hid (l.length = n) := hN
  clear hN
  have mixed : Tryd.prog.follows .mixedOrders = true := by kernel_rfl
  go_enter Tryd.func22, Tryd.ntmps22
  go_wp2
  go_loopw [3, 4] (fun out i w' => ∃ k : Nat, k ≤ n ∧ i = .int .i64 (k : Int) ∧ OwnV w' w.heap.size out (srtN l k) ∧ Below w.heap.size w w') (fun out i w' => n - (intOf i).toNat)
  case atStart => exact ⟨0, by omega, rfl, OwnV.nil _ _, Below.refl _ _⟩
  case round =>
    obtain ⟨k, hk, rfl, hown, hb⟩ := hrel
    have HO : Hid (OwnV wr w.heap.size u3 (srtN l k)) := hown
    have hsl : (srtN l k).length = k := srtN_len l k
    obtain ⟨a3, c3, hu3, hc3, hc4, hnn⟩ := hown.vsl.form
    rw [hsl] at hu3 hc3
    subst hu3
    clear hown
    by_cases hlt : k < n
    · have hlt' : (k : Int) < (n : Int) := by omega
      obtain ⟨p, o, rfl⟩ := at_block HV.out (by rw [HN.out]; omega)
      obtain ⟨x1, x2, x3, hx⟩ : ∃ x1 x2 x3, nv l k = (x1, x2, x3) := ⟨_, _, _, rfl⟩
      have HX : Hid (nv l k = (x1, x2, x3)) := hx
      clear hx
      go_wp2
      rename World => wo
      go_loopw [5] (fun j w' => ∃ m : Nat, m ≤ k ∧ j = .int .i64 (m : Int) ∧ posK (nv l k) (srtN l k) k = posK (nv l k) (srtN l k) m ∧ Below wo.heap.size wo w') (fun j w' => (intOf j).toNat)
      case atStart => exact ⟨k, by omega, rfl, rfl, Below.refl _ _⟩
      case round =>
        obtain ⟨m, hm, rfl, hpos, hb2⟩ := hrel
        rename_i K hK
        have tail : ∀ (m : Nat) (u15 u16 u17 u18 u19 u20 u21 u22 u23 u24 u25 u26 u27 u28 u29 u30 : Value) (w5 : World), m ≤ k → posK (nv l k) (srtN l k) k = m → Below wo.heap.size wo w5 → K ⟨#[Value.slice (some ⟨p, o, none⟩) n c, undef, Value.slice none 0 0, Value.slice a3 k c3, Value.int .i64 (k : Int), Value.int .i64 (m : Int), u6, Value.int .i64 (k : Int), Value.slice (some ⟨p, o, none⟩) n c, Value.int .i64 (n : Int), Value.bool true, u11, u12, Value.slice a3 k c3, Value.int .i64 (k : Int), u15, u16, u17, u18, u19, u20, u21, u22, u23, u24, u25, u26, u27, u28, u29, u30, u31, u32, u33, u34, u35, u36, u37, u38, u39, u40, u41, u42, u43, u44, u45, u46, u47, undef], []⟩ w5 := by
          clear hm hpos hb2 u15 u16 u17 u18 u19 u20 u21 u22 u23 u24 u25 u26 u27 u28 u29 u30 m
          intro m u15 u16 u17 u18 u19 u20 u21 u22 u23 u24 u25 u26 u27 u28 u29 u30 w5 hm hp hb5
          apply hK
          clear hK
          have HP : Hid (posK (nv l k) (srtN l k) k = m) := hp
          clear hp
          have hcut0 : ∀ w, (Instr.sliceAt 26 (.slice a3 k c3) none (some (.int .i64 (m : Int))) none).run Tryd.prog w = .ok (.slice a3 m c3) w := fun w => by rw [run_cut_h .i64 a3 k c3 m (by omega) w, sliced0]
          obtain ⟨a4, n4, c4, h4⟩ : ∃ a4 n4 c4, sliced a3 m k c3 3 = .slice a4 n4 c4 := ⟨_, _, _, rfl⟩
          have hcut1 : ∀ w, (Instr.sliceAt 26 (.slice a3 k c3) (some (.int .i64 (m : Int))) none none).run Tryd.prog w = .ok (.slice a4 n4 c4) w := fun w => by rw [run_cut_l .i64 a3 k c3 m hm w, h4]
          have hO5 := HO.out.later hb5
          have s5 := hO5.vsl
          obtain ⟨s6, d6⟩ := slice_cutV s5 0 m (by omega) (by omega)
          rw [sliced0] at s6 d6
          have H6 : Hid (VSl w5 (.slice a3 m c3) (((srtN l k).drop 0).take (m - 0))) := s6
          have H5 : Hid (VSl w5 (.slice a3 k c3) (srtN l k)) := s5
          have HL : Hid (∀ g, (Value.slice a3 k c3).ownBlock = some g → g < w5.heap.size) := fun g hg => (hO5.lt g hg).2
          have hwb : w.heap.size ≤ w5.heap.size := Nat.le_trans hb.size hb5.size
          have HW5 : Hid (Below w.heap.size w w5) := below_next hb hb5
          clear hO5 s5 s6 d6
          go_wp2_with (first
            | (at_builtin; refine wpList_appendV rfl (.tmp 31) (.tmp 34) rfl w.heap.size (.slice none 0 0) [] rfl (OwnV.nil _ _) (.slice a3 m c3) _ rfl H6.out (by simp; omega) hwb ?_; intro v6 w6 o6 g6 e6; have hb6 := grownN g6; have HV6 := HV.out.later (below_next HW5.out hb6); obtain ⟨q0, q1, q2⟩ := at_cells HV6 (i := k) (by rw [HN.out]; omega); rw [HX.out] at q0 q1 q2; dsimp only at q0 q1 q2; have H6O : Hid (OwnV w6 w.heap.size v6 ([] ++ (((srtN l k).drop 0).take (m - 0)))) := o6; have H6E : Hid (∀ g, v6.ownBlock = some g → (Value.slice a3 k c3).ownBlock ≠ some g) := new_apart rfl e6 HL.out; have H6B : Hid (Below w5.heap.size w5 w6) := hb6; clear o6 g6 e6 hb6 HV6)
            | (at_builtin; refine wpList_appendV rfl (.tmp 36) (.tmp 41) rfl w.heap.size v6 _ rfl (H6O.out.later (below_more (Below.refl _ _) (.cells #[.int .i64 x1, .int .i64 x2, .string x3] 25))) (.slice (some ⟨w6.heap.size, 0, none⟩) 1 1) [(x1, x2, x3)] rfl (rowOne w6 x1 x2 x3 25) (by simp; omega) (by have := H6B.out.size; simp; omega) ?_; intro v7 w7 o7 g7 e7; have H7 : Hid (VSl w7 (.slice a3 k c3) (srtN l k)) := vsl_grown (H5.out.later (below_next H6B.out (below_more (Below.refl _ _) (.cells #[.int .i64 x1, .int .i64 x2, .string x3] 25)))) g7 (fun _ => H6E.out); have H7O : Hid (OwnV w7 w.heap.size v7 ([] ++ (((srtN l k).drop 0).take (m - 0)) ++ [(x1, x2, x3)])) := o7; have H7B : Hid (Below w.heap.size w w7) := below_own (H6O.out.later (below_more (Below.refl _ _) (.cells #[.int .i64 x1, .int .i64 x2, .string x3] 25))) g7 (below_next (below_next HW5.out H6B.out) (below_more (Below.refl _ _) (.cells #[.int .i64 x1, .int .i64 x2, .string x3] 25))) (by have := H6B.out.size; simp; omega); clear o7 g7 e7)
            | (at_builtin; refine wpList_appendV rfl (.tmp 43) (.tmp 46) rfl w.heap.size v7 _ rfl H7O.out (.slice a4 n4 c4) (((srtN l k).drop m).take (k - m)) rfl (h4 ▸ (slice_cutV H7.out m k hm (by omega)).1) (by simp; omega) H7B.out.size ?_; intro v8 w8 o8 g8 e8; have H8O : Hid (OwnV w8 w.heap.size v8 (srtN l (k + 1))) := (show OwnV w8 w.heap.size v8 (insL (nv l k) (srtN l k)) from ins_eq hsl (x := nv l k) HP.out ▸ HX.out ▸ o8); have H8B : Hid (Below w.heap.size w w8) := below_own H7O.out g8 H7B.out H7B.out.size; clear o8 g8 e8))
          exact ⟨⟨k + 1, by omega, by go_num, H8O.out, H8B.out⟩, by simp [intOf]; omega⟩
        clear hK
        have HT : Hid _ := tail
        clear tail
        rcases (by cases m with | zero => exact .inl rfl | succ r => exact .inr ⟨r, rfl⟩ : m = 0 ∨ ∃ r, m = r + 1) with hm0 | ⟨r, hm0⟩
        · subst hm0
          have HP : Hid (posK (nv l k) (srtN l k) k = 0) := hpos
          clear hpos
          go_wp2_with fail
          refine wp_region_quiet_below (by assumption) (by kernel_rfl) ?_
          repeat (go_big_quiet_step (fail))
          refine wpQuiet_nil ?_
          intro _ hw'
          obtain ⟨⟨dq, osq⟩, hw''⟩ := hw'
          subst hw''
          go_wp2
          exact HT.out 0 _ _ _ _ _ _ _ _ _ _ _ _ _ _ _ _ _ (by omega) HP.out (below_next hb2 (below_regrown _ _ _))
        · subst hm0
          have hV2 := HV.out.later (below_next hb hb2)
          have hO2 := (HO.out.later hb2).vsl
          obtain ⟨b3, o3, rfl⟩ := at_block hO2 (by rw [hsl]; omega)
          obtain ⟨q0, q1, q2⟩ := at_cells hV2 (i := k) (by rw [HN.out]; omega)
          obtain ⟨y1, y2, y3, hy⟩ : ∃ y1 y2 y3, nv (srtN l k) r = (y1, y2, y3) := ⟨_, _, _, rfl⟩
          obtain ⟨r0, r1, r2⟩ := at_cells hO2 (i := r) (by rw [hsl]; omega)
          rw [HX.out] at q0 q1 q2
          rw [hy] at r0 r1 r2
          dsimp only at q0 q1 q2 r0 r1 r2
          have q0' := fun d os => cell_regrown q0 d os
          have q1' := fun d os => cell_regrown q1 d os
          have q2' := fun d os => cell_regrown q2 d os
          have r0' := fun d os => cell_regrown r0 d os
          have r1' := fun d os => cell_regrown r1 d os
          have r2' := fun d os => cell_regrown r2 d os
          clear q0 q1 q2 r0 r1 r2 hV2 hO2
          have hLs := less_below (x1, x2, x3) (y1, y2, y3)
          dsimp only at hLs
          have hr1 : r < k := by omega
          have hr2 : (r : Int) < (k : Int) := by omega
          have hr3 : (0 : Int) < (r : Int) + 1 := by omega
          have HY : Hid (nv (srtN l k) r = (y1, y2, y3)) := hy
          have HP : Hid (posK (nv l k) (srtN l k) k = posK (nv l k) (srtN l k) (r + 1)) := hpos
          clear hy hpos
          obtain ⟨b, hB⟩ : ∃ b, ltV (x1, x2, x3) (y1, y2, y3) = b := ⟨_, rfl⟩
          rw [hB] at hLs
          have HB : Hid (ltV (nv l k) (nv (srtN l k) r) = b) := by show _ = _; rw [HX.out, HY.out]; exact hB
          clear hB
          go_wp2_with fail
          refine wp_region_quiet_below (by assumption) (by kernel_rfl) ?_
          repeat (go_big_quiet_step (first | (go_at_call 33; with_reducible exact Calls.regrown_of (hLs _))))
          refine wpQuiet_nil ?_
          intro _ hw'
          obtain ⟨⟨dq, osq⟩, hw''⟩ := hw'
          subst hw''
          clear q0' q1' q2' r0' r1' r2' hLs
          cases b with
          | true =>
            clear HT
            go_wp2
            go_roundw
            case rel => exact ⟨r, by omega, by go_num, HP.out.trans (posK_less HB.out), below_next hb2 (below_regrown _ _ _)⟩
            case measure => simp [intOf]
          | false =>
            have HQ : Hid (posK (nv l k) (srtN l k) k = r + 1) := HP.out.trans (posK_stop HB.out)
            clear HP HB
            go_wp2
            exact HT.out (r + 1) _ _ _ _ _ _ _ _ _ _ _ _ _ _ _ _ _ (by omega) HQ.out (below_next hb2 (below_regrown _ _ _))
    · have e : k = n := by omega
      subst e
      have hv3 := HO.out
      go_wp2
      go_ret
      exact ⟨_, rfl, hv3, hb⟩
end Go.Proofs.YtgiefgmhjcjabaaDoor
