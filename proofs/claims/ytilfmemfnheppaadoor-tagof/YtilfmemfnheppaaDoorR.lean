/- The document's own padding, and the walk of ShaPads. Conditions: the table holds the rounds' numbers. -/
import Derived.Test.YtilfmemfnheppaaDoorLaid
import Derived.Laws.AppendOwnNone
namespace Go.Proofs.YtilfmemfnheppaaDoor
open Go.RowKit Hx
set_option linter.unusedVariables false

theorem own_more {w1 : World} {base : Nat} {v : Value} {xs : List Int} {x : Int}
    (hown : w1.ownsRow base 5 1 v (xs.length + 1) (cells8 xs ++ [.int .u8 x])) : Hx.Own w1 base v (xs ++ [x]) := by
  unfold Hx.Own
  rw [← cells8_app, List.length_append]
  exact hown
theorem one_new8 (w : World) (x : Int) (T : TypeId) : ∀ j u, ([.int .u8 x] : List Value)[j]? = some u → (w.alloc (.cells #[.int .u8 x] T)).cell? ((⟨w.heap.size, 0, none⟩ : Addr).add j) = some u := by
  intro j u hj
  match j, hj with
  | 0, hj => simp at hj; subst hj; simp [Addr.add]

theorem own_form {w : World} {base : Nat} {e : TypeId} {v : Value} {n : Nat} {xs : List Value} (h : w.ownsRow base e 1 v n xs) (hn : 0 < n) : ∃ a c, v = .slice a n c := by
  rcases h.2 with ⟨_, h⟩ | ⟨g, cap, cur, hv, _⟩
  · omega
  · exact ⟨_, _, hv⟩
theorem nth_big (E : Int) : ∀ j, j < 8 → nth (bigB E 8) j = cutB E (7 - j) % 256 := by
  intro j hj
  match j, hj with
  | 0, _ => rfl
  | 1, _ => rfl
  | 2, _ => rfl
  | 3, _ => rfl
  | 4, _ => rfl
  | 5, _ => rfl
  | 6, _ => rfl
  | 7, _ => rfl
theorem cut_shift (E : Int) (j m : Nat) (h : j < 8) (hm : m = 56 - 8 * j) : E / 2 ^ m % 256 = nth (bigB E 8) j := by
  rw [nth_big E j h]
  unfold cutB
  have e : (256 : Int) ^ (7 - j) = 2 ^ m := by
    rw [show (256 : Int) = 2 ^ 8 from rfl, ← Int.pow_mul, hm]
    congr 1
    omega
  rw [e]

/-- the padding so far: k noughts -/
def padK (k : Nat) : List Int := 128 :: List.replicate k 0
theorem padK_next (k : Nat) : padK k ++ [0] = padK (k + 1) := by
  unfold padK
  rw [List.cons_append, ← List.replicate_succ']
theorem padK_by (k : Nat) : By (padK k) := by
  intro x hx
  simp only [padK, List.mem_cons, List.mem_replicate] at hx
  rcases hx with rfl | ⟨_, rfl⟩ <;> omega
theorem noughts_stop (n : Int) (k : Nat) (h0 : 0 ≤ n) (hk : k ≤ noughts n) (h : (n + 9 + k) % 64 = 0) : k = noughts n := by
  unfold noughts at *; omega
theorem noughts_go (n : Int) (k : Nat) (h0 : 0 ≤ n) (hk : k ≤ noughts n) (h : (n + 9 + k) % 64 ≠ 0) : k < noughts n := by
  unfold noughts at *; omega

set_option maxRecDepth 100000 in
set_option maxHeartbeats 1000000 in
theorem rpad_any (n : Int) (h0 : 0 ≤ n) (h1 : n < 18446744073709551616) (w : World) :
    Calls Tryd.prog 38 #[.int .u64 n] w fun en w' => ∃ v, en = .returned v ∧ Hx.Own w' w.heap.size v (padB n) ∧ Below w.heap.size w w' := by
  obtain ⟨i0, hi, hz0, hz1, hz2⟩ := info_parts Tryd.info5
  have hn64 := noughts_lt n
  obtain ⟨Z, hZ⟩ : ∃ Z, Z = noughts n := ⟨_, rfl⟩
  have HZ : Hid (Z = noughts n) := hZ
  have hZ64 : Z < 64 := by omega
  obtain ⟨E, hE⟩ : ∃ E, E = 8 * n % 18446744073709551616 := ⟨_, rfl⟩
  have eD : IntKind.u64.wrap (8 * n) = E := by rw [IntKind.wrap_u64, hE]
  have hE0 : 0 ≤ E := by omega
  have hE1 : E < 18446744073709551616 := by omega
  have HP : Hid (padB n = padK Z ++ bigB E 8) := by show _ = _; rw [hE, hZ]; rfl
  clear hZ hE hn64
  go_enter Tryd.func38, Tryd.ntmps38
  go_wp2_with fail
  go_loopw [3] (fun v wr => ∃ k m : Nat, k ≤ Z ∧ Hid (m = k + 1) ∧ Hid (Hx.Own wr w.heap.size v (padK k)) ∧ Below w.heap.size w wr ∧ (∃ a c, v = .slice a m c)) (fun v _ => Z + 1 - (match v with | .slice _ l _ => l | _ => 0))
  case atStart =>
    refine ⟨0, 1, by omega, rfl, ?_, (Below.refl _ _).alloc (Nat.le_refl _) _, ⟨_, _, rfl⟩⟩
    exact World.ownsRow_lit w #[.int .u8 128] 1 (Nat.le_refl _) (by unfold maxLen; omega) rfl
  case round =>
    obtain ⟨k, m, hk, HM, HO, hb, ⟨ad, cp, rfl⟩⟩ := hrel
    have hm := HM.out
    have hm64 : m ≤ 64 := by omega
    have eL : IntKind.u64.wrap (m : Int) = m := by rw [IntKind.wrap_u64]; omega
    obtain ⟨q, hq⟩ : ∃ q, q = (n + 9 + k) % 64 := ⟨_, rfl⟩
    have eq : (IntKind.u64.wrap (IntKind.u64.wrap (n + (m : Int)) + 8)).tmod 64 = q := by
      rw [IntKind.wrap_u64, IntKind.wrap_u64, Int.tmod_eq_emod_of_nonneg (by omega)]; omega
    have hsz := hb.size
    by_cases h : q = 0
    · subst h
      have hkZ : k = Z := by rw [HZ.out]; exact noughts_stop n k h0 (by rw [← HZ.out]; exact hk) hq.symm
      subst hkZ
      clear hq hm
      go_wp2_with fail
      go_loopw [3, 5] (fun v i wr => ∃ (j : Nat) (z : Int), j ≤ 8 ∧ i = .int .i64 z ∧ Hid (z = 56 - 8 * j) ∧ Hid (Hx.Own wr w.heap.size v (padK k ++ (bigB E 8).take j)) ∧ Below w.heap.size w wr) (fun _ i _ => (intOf i + 8).toNat)
      case atStart => exact ⟨0, 56, by omega, rfl, rfl, by rw [List.take_zero, List.append_nil]; exact HO, hb⟩
      case round =>
        clear HO hb
        obtain ⟨j, z, hj, rfl, HZ2, HO, hb⟩ := hrel
        have hz := HZ2.out
        have hsz := hb.size
        by_cases hlt : j < 8
        · obtain ⟨s, hs⟩ : ∃ s : Nat, s = 56 - 8 * j := ⟨_, rfl⟩
          have ez : z = (s : Int) := by omega
          subst ez
          have hs56 : s ≤ 56 := by omega
          have hsh : Op.shift .shr .u64 E .u64 (s : Int) = pure (.int .u64 (E / 2 ^ s)) := by
            rw [shift_shr .u64 .u64 E s (by omega) (by show (s : Int) ≤ 64; omega), Int.toNat_natCast]
          have es : IntKind.u64.wrap (s : Int) = s := by rw [IntKind.wrap_u64]; omega
          have HX : Hid (E / 2 ^ s % 256 = nth (bigB E 8) j) := cut_shift E j s hlt hs
          have HT : Hid ((bigB E 8).take j ++ [nth (bigB E 8) j] = (bigB E 8).take (j + 1)) := take_next (bigB E 8) j (by rw [bigB_len]; exact hlt)
          obtain ⟨d0, d1⟩ := show 0 ≤ E / 2 ^ s ∧ E / 2 ^ s < 18446744073709551616 from ⟨Int.ediv_nonneg hE0 (Int.le_of_lt (pow_pos s)), by have := Int.ediv_le_self (2 ^ s) hE0; omega⟩
          have hll : (padK k ++ (bigB E 8).take j).length = k + 1 + j := by simp [padK, bigB_len]; omega
          have hown : wr.ownsRow w.heap.size 5 1 u3 (k + 1 + j) (cells8 (padK k ++ (bigB E 8).take j)) := by have := HO.out; unfold Hx.Own at this; rw [hll] at this; exact this
          have HW : Hid (wr.ownsRow w.heap.size 5 1 u3 (k + 1 + j) (cells8 (padK k ++ (bigB E 8).take j))) := hown
          have HLL : Hid ((padK k ++ (bigB E 8).take j).length = k + 1 + j) := hll
          have HSS : Hid (s = 56 - 8 * j) := hs
          clear hs hz hown hll
          go_wp2_with (at_builtin; refine wpList_append_own _ rfl (.tmp 24) (.tmp 30) 25 rfl w.heap.size 5 i0 (.int .u8 0) 1 1 Tryd.underlying25 hi hz0 hz1 hz2 rfl (by decide) u3 (k + 1 + j) (cells8 (padK k ++ (bigB E 8).take j)) rfl (by exact HW.out.alloc _) ⟨wr.heap.size, 0, none⟩ 1 1 [.int .u8 (E / 2 ^ s % 256)] rfl rfl (one_new8 wr (E / 2 ^ s % 256) 5) (by simp [Value.oneCell']) (by unfold maxLen; omega) (by omega) (by simp; omega) ?_; intro v' w1 hown' hgrow _)
          have hb1 : Below w.heap.size w w1 := (hb.alloc hsz (.cells #[.int .u8 (E / 2 ^ s % 256)] 5)).grown hgrow (by simp; omega) (fun q h => (World.ownsRow.lt HO.out q h).1)
          have HO1 : Hx.Own w1 w.heap.size v' (padK k ++ (bigB E 8).take (j + 1)) := by
            rw [← HLL.out] at hown'
            have := own_more hown'
            rw [HX.out, List.append_assoc, HT.out] at this
            exact this
          have hs' := HSS.out
          clear hown' hgrow
          refine ⟨⟨j + 1, (s : Int) - 8, by omega, by go_num, (show (s : Int) - 8 = 56 - 8 * ((j + 1 : Nat) : Int) by omega), HO1, hb1⟩, ?_⟩
          simp [intOf]; omega
        · have hj8 : j = 8 := by omega
          subst hj8
          have hz8 : z = -8 := by omega
          subst hz8
          go_wp2
          go_ret
          have ho := HO.out
          rw [List.take_of_length_le (by rw [bigB_len]; omega), ← HP.out] at ho
          exact ⟨_, rfl, ho, hb⟩
    · have hkZ : k < Z := by rw [HZ.out]; exact noughts_go n k h0 (by rw [← HZ.out]; exact hk) (by omega)
      clear hq
      have hll : (padK k).length = m := by rw [hm]; simp [padK]
      have HLL : Hid ((padK k).length = m) := hll
      have hown : wr.ownsRow w.heap.size 5 1 (.slice ad m cp) m (cells8 (padK k)) := by have := HO.out; unfold Hx.Own at this; rw [hll] at this; exact this
      have HW : Hid (wr.ownsRow w.heap.size 5 1 (.slice ad m cp) m (cells8 (padK k))) := hown
      clear hown hll hm
      go_wp2_with (at_builtin; refine wpList_append_own _ rfl (.tmp 15) (.tmp 16) 25 rfl w.heap.size 5 i0 (.int .u8 0) 1 1 Tryd.underlying25 hi hz0 hz1 hz2 rfl (by decide) (.slice ad m cp) m (cells8 (padK k)) rfl (by exact HW.out.alloc _) ⟨wr.heap.size, 0, none⟩ 1 1 [.int .u8 0] rfl rfl (one_new8 wr 0 5) (by simp [Value.oneCell']) (by unfold maxLen; omega) (by omega) (by simp; omega) ?_; intro v' w1 hown' hgrow _)
      have hb1 : Below w.heap.size w w1 := (hb.alloc hsz (.cells #[.int .u8 0] 5)).grown hgrow (by simp; omega) (fun q h => (World.ownsRow.lt HO.out q h).1)
      have hform := own_form hown' (by omega)
      have HO1 : Hx.Own w1 w.heap.size v' (padK (k + 1)) := by
        rw [← HLL.out] at hown'
        rw [← padK_next]
        exact own_more hown'
      have hm := HM.out
      obtain ⟨b', c', rfl⟩ := hform
      clear hown' hgrow
      refine ⟨⟨k + 1, m + 1, by omega, (show m + 1 = k + 1 + 1 by omega), HO1, hb1, ⟨_, _, rfl⟩⟩, ?_⟩
      simp
      omega

theorem same_self (l : List Int) : sameB l l = true := by unfold sameB; simp
end Go.Proofs.YtilfmemfnheppaaDoor
