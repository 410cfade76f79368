/- The contract of the document's own Decode: each two digits make a byte; refused, if a sign is none or one is left over. Conditions: the text is at most 2^40 bytes. -/
import Derived.Test.YtdbmncdkbmoaiaaE
import Derived.PlainAid
namespace Go.Proofs.Ytdbmncdkbmoaiaa
open Go.RowKit Go.PlainAid
set_option linter.unusedVariables false

/-- the numbers of a text's bytes -/
def nums (s : ByteArray) : List Int := (List.range s.size).map (fun i => bt s i)
theorem nums_len (s : ByteArray) : (nums s).length = s.size := by simp [nums]
theorem nums_at (s : ByteArray) (i : Nat) (h : i < s.size) : nth (nums s) i = bt s i := by
  rw [nth_eq _ _ (by rw [nums_len]; exact h)]; simp [nums]

/-- the bytes that the first k pairs of digits make -/
def pairsB (s : ByteArray) : Nat → List Int
  | 0 => []
  | k + 1 => pairsB s k ++ [16 * dig (bt s (2 * k)) + dig (bt s (2 * k + 1))]
theorem pairsB_len (s : ByteArray) (k : Nat) : (pairsB s k).length = k := by
  induction k with
  | zero => rfl
  | succ k ih => simp [pairsB, ih]
/-- each of the first n bytes of s is a digit -/
def allD (s : ByteArray) (n : Nat) : Prop := ∀ i, i < n → 0 ≤ dig (bt s i)
/-- s is the digits of some bytes -/
def okD (s : ByteArray) : Prop := s.size % 2 = 0 ∧ allD s s.size

theorem pairsB_bd (s : ByteArray) (k : Nat) (h : allD s (2 * k)) : ∀ x ∈ pairsB s k, 0 ≤ x ∧ x ≤ 255 := by
  induction k with
  | zero => simp [pairsB]
  | succ k ih =>
    intro x hx
    simp only [pairsB, List.mem_append, List.mem_singleton] at hx
    rcases hx with hx | rfl
    · exact ih (fun i hi => h i (by omega)) x hx
    · have h1 := h (2 * k) (by omega)
      have h2 := h (2 * k + 1) (by omega)
      have h3 := dig_lo (bt s (2 * k))
      have h4 := dig_lo (bt s (2 * k + 1))
      omega

theorem one_new (w : World) (x : Value) (t : TypeId) : ∀ j u, [x][j]? = some u → (w.alloc (.cells #[x] t)).cell? ((⟨w.heap.size, 0, none⟩ : Addr).add j) = some u := by
  intro j u h
  match j, h with
  | 0, h => simp at h; subst h; simp [Addr.add]

theorem Sl.nil (w : World) : Sl w (.slice none 0 0) [] := ⟨none, 0, rfl, by simp, by simp, by simp, fun h => by simp at h⟩

/-- how the document's Decode of s ends -/
def RDec (s : ByteArray) (w : World) (e : Ending) (w' : World) : Prop :=
  (∃ v, (okD s ∧ e = .returned (.tuple #[v, .bool true]) ∧ Sl w' v (pairsB s (s.size / 2))) ∨ (¬ okD s ∧ e = .returned (.tuple #[v, .bool false]) ∧ Sl w' v [])) ∧ Below w.heap.size w w'

set_option maxHeartbeats 800000 in
theorem rdecode_any (s : ByteArray) (w : World) (hs : s.size ≤ 1099511627776) :
    Calls Try.prog 13 #[.string s] w fun e w' => RDec s w e w' := by
  obtain ⟨i0, hi, hz0, hz1, hz2⟩ := info_parts Try.info5
  have hbt := get_bt s
  go_enter Try.func13, Try.ntmps13
  go_wp2
  go_loopw [4, 5] (fun v i wr => ∃ j k : Nat, j ≤ s.size ∧ i = .int .i64 (j : Int) ∧ Hid (j = 2 * k) ∧ Own wr w.heap.size v (pairsB s k) ∧ allD s (2 * k) ∧ Below w.heap.size w wr) (fun _ i _ => s.size + 2 - (intOf i).toNat)
  case atStart => exact ⟨0, 0, by omega, rfl, rfl, World.ownsRow_nil _ _ _ _, fun i h => by omega, Below.refl _ _⟩
  case round =>
    obtain ⟨j, k, hk, rfl, HJ, hown, hall, hb⟩ := hrel
    have HA : Hid (allD s (2 * k)) := hall
    have HO : Hid (Own wr w.heap.size u4 (pairsB s k)) := hown
    clear hall
    by_cases hlt : j < s.size
    · by_cases hodd : j + 1 = s.size
      · have ho : (((j : Int) + 1) == (s.size : Int)) = true := by simp; omega
        have HOD : Hid (j + 1 = s.size) := hodd
        have hlt' : ((j : Int)) < (s.size : Int) := by omega
        clear hodd hown hlt
        go_wp2
        go_ret2
        exact ⟨⟨_, .inr ⟨fun h => by have := h.1; have := HOD.out; have := HJ.out; omega, rfl, Sl.nil _⟩⟩, hb⟩
      · have ho : (((j : Int) + 1) == (s.size : Int)) = false := by simp; omega
        have hlt' : ((j : Int)) < (s.size : Int) := by omega
        have hlt2 : ((j : Int)) + 1 < (s.size : Int) := by omega
        obtain ⟨p1, p2⟩ : 0 ≤ bt s j ∧ bt s j ≤ 255 := ⟨bt_nonneg _ _, bt_le _ _⟩
        obtain ⟨p3, p4⟩ : 0 ≤ bt s (j + 1) ∧ bt s (j + 1) ≤ 255 := ⟨bt_nonneg _ _, bt_le _ _⟩
        have d1 := dig_lo (bt s j)
        have d2 := dig_lo (bt s (j + 1))
        clear hown hodd
        go_wp2
        go_quiet ((go_at_call 15; refine Calls.quiet_of_same (rdigit_any _ _ ?_ ?_) <;> omega))
        have HP : Hid (pairsB s (k + 1) = pairsB s k ++ [16 * dig (bt s j) + dig (bt s (j + 1))]) := by rw [HJ.out]; rfl
        have HB : Hid (0 ≤ dig (bt s j) → 0 ≤ dig (bt s (j + 1)) → allD s (2 * (k + 1))) := by
          intro h1 h2 i hi
          have e := HJ.out
          by_cases hi1 : i < 2 * k
          · exact HA.out i hi1
          · rcases (show i = j ∨ i = j + 1 from by omega) with rfl | rfl
            · exact h1
            · exact h2
        have HC : Hid ((dig (bt s j) < 0 ∨ dig (bt s (j + 1)) < 0) → ¬ okD s) := by
          intro h1 h2
          rcases h1 with h1 | h1
          · have := h2.2 j (by omega); omega
          · have := h2.2 (j + 1) (by omega); omega
        have hsz := hb.size
        clear hbt p1 p2 p3 p4
        generalize dig (bt s j) = x at *
        generalize dig (bt s (j + 1)) = y at *
        by_cases hx : x < 0
        · go_wp2
          go_ret2
          exact ⟨⟨_, .inr ⟨HC.out (.inl hx), rfl, Sl.nil _⟩⟩, below_drewN hb _⟩
        · by_cases hy : y < 0
          · go_wp2
            go_ret2
            exact ⟨⟨_, .inr ⟨HC.out (.inr hy), rfl, Sl.nil _⟩⟩, below_drewN hb _⟩
          · have hxx : 0 ≤ x := by omega
            have hyy : 0 ≤ y := by omega
            obtain ⟨_, x2⟩ := d1
            obtain ⟨_, y2⟩ := d2
            have hkb : k ≤ 1099511627776 := by have := HJ.out; omega
            have hpl := pairsB_len s k
            have HPL : Hid ((pairsB s k).length = k) := hpl
            clear hx hy hpl
            go_wp2_with (at_builtin; refine wpList_append_own _ rfl (.tmp 34) (.tmp 40) 22 rfl w.heap.size 5 i0 (.int .u8 0) 1 1 Try.underlying22 hi hz0 hz1 hz2 rfl (by decide) u4 (pairsB s k).length (cells8 (pairsB s k)) rfl (by exact HO.out.alloc _) ⟨wr.heap.size, 0, none⟩ 1 1 [.int .u8 (16 * x + y)] rfl rfl (by exact one_new wr _ 5) (by simp [Value.oneCell']) (by rw [HPL.out]; unfold maxLen; omega) (by rw [HPL.out]; omega) (by simp; omega) ?_; intro v' w1 hown' hgrow _)
            have hb1 : Below w.heap.size w w1 := ((below_drewN hb nq).alloc (by simpa using hsz) (.cells #[.int .u8 (16 * x + y)] 5)).grown hgrow (by simp; omega) (fun q h => (World.ownsRow.lt HO.out q h).1)
            have hown2 : Own w1 w.heap.size v' (pairsB s (k + 1)) := by
              rw [HP.out]
              unfold Own
              rw [← cells8_app, List.length_append]
              exact hown'
            go_roundw
            case rel => exact ⟨j + 2, k + 1, by omega, by go_num, by have := HJ.out; show j + 2 = 2 * (k + 1); omega, hown2, HB.out hxx hyy, hb1⟩
            case measure => simp [intOf]; omega
    · clear hown
      go_wp2
      go_ret2
      have HE' := HJ.out
      refine ⟨⟨_, .inl ⟨⟨by omega, by rw [show s.size = 2 * k from by omega]; exact HA.out⟩, rfl, ?_⟩⟩, hb⟩
      rw [show s.size / 2 = k from by omega]
      exact Sl.of_own HO.out (pairsB_bd s k HA.out) (by rw [pairsB_len]; omega)
end Go.Proofs.Ytdbmncdkbmoaiaa
