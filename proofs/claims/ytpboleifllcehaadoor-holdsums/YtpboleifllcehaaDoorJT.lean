/- The walk of HoldSums, on what is asked of New and Step. Conditions: the table of signs lies in memory; the numbers are in range. -/
import Derived.Test.YtpboleifllcehaaDoorJN
namespace Go.Proofs.YtpboleifllcehaaDoor
open Go.RowKit Go.PlainAid Ln Go.Sort
set_option linter.unusedVariables false
set_option linter.unusedSimpArgs false

/-- the row from the r-th on, round and round: the first k -/
def rotL (xs : List Int) (r k : Nat) : List Int := (List.range k).map fun j => nth xs ((j + r) % xs.length)
theorem rotL_next (xs : List Int) (r k : Nat) : rotL xs r (k + 1) = rotL xs r k ++ [nth xs ((k + r) % xs.length)] := by unfold rotL; rw [List.range_succ, List.map_append]; rfl
def sumF (f : Nat → Int) (k : Nat) : Int := ((List.range k).map f).sum
theorem sumF_next (f : Nat → Int) (k : Nat) : sumF f (k + 1) = sumF f k + f k := by unfold sumF; rw [List.range_succ, List.map_append, List.sum_append]; simp
theorem sumF_shift (f : Nat → Int) (k : Nat) : sumF (fun j => f (j + 1)) k + f 0 = sumF f k + f k := by
  induction k with
  | zero => rfl
  | succ k ih => rw [sumF_next, sumF_next]; show _ + f (k + 1) + f 0 = _; omega
theorem rot_sum (xs : List Int) (r : Nat) (h : 0 < xs.length) : (rotL xs r xs.length).sum = xs.sum := by
  induction r with
  | zero =>
    congr 1
    refine List.ext_getElem (by simp [rotL]) fun i h1 h2 => ?_
    simp only [rotL, List.getElem_map, List.getElem_range, Nat.add_zero]
    rw [Nat.mod_eq_of_lt h2, nth_eq xs i h2]
  | succ r ih =>
    rw [← ih]
    have e : (rotL xs (r + 1) xs.length).sum = sumF (fun j => (fun i => nth xs ((i + r) % xs.length)) (j + 1)) xs.length := by
      unfold rotL sumF
      congr 2
      funext j
      rw [show j + (r + 1) = j + 1 + r from by omega]
    have k := sumF_shift (fun i => nth xs ((i + r) % xs.length)) xs.length
    rw [e]
    show _ = sumF (fun i => nth xs ((i + r) % xs.length)) xs.length
    have k0 : (xs.length + r) % xs.length = (0 + r) % xs.length := by rw [Nat.add_mod_left, Nat.zero_add]
    have k1 : nth xs ((xs.length + r) % xs.length) = nth xs ((0 + r) % xs.length) := by rw [k0]
    have k2 : sumF (fun j => nth xs ((j + 1 + r) % xs.length)) xs.length + nth xs ((0 + r) % xs.length) = sumF (fun i => nth xs ((i + r) % xs.length)) xs.length + nth xs ((xs.length + r) % xs.length) := k
    have k3 : sumF (fun j => nth xs ((j + 1 + r) % xs.length)) xs.length = sumF (fun i => nth xs ((i + r) % xs.length)) xs.length := by omega
    exact k3
theorem take_nth (xs : List Int) (k : Nat) (h : k < xs.length) : xs.take (k + 1) = xs.take k ++ [nth xs k] := by
  rw [List.take_add_one, List.getElem?_eq_getElem h, nth_eq xs k h]; rfl
theorem u64w_add (a b : Int) : u64w (u64w a + u64w b) = u64w (a + b) := by unfold u64w; omega
abbrev vN' (e : Int) : Val := (1, e, noB)
abbrev cC : Val := vW ⟨#[99]⟩
theorem may_add {c : Val} (hc : nV c = true) (e : Int) : mayD 8 ⟨c, 4, [vN' e]⟩ = true := by
  have e2 : fi 8 4 = true := by kernel_rfl
  have e3 : (fr 8 4).inn = [5] := by kernel_rfl
  show (nV c && (fi 8 4 && fitsL (fr 8 4).inn [vN' e])) = true
  rw [hc, e2, e3, Bool.true_and, Bool.true_and]
  refine fitsL_all rfl fun i hi => ?_
  have h0 : i = 0 := by simpa using hi
  subst h0
  rfl
theorem nVA : nV cA = true := by kernel_rfl
theorem nVB : nV cB = true := by kernel_rfl
theorem mayAA (e : Int) : mayD 8 ⟨cA, 4, [vN' e]⟩ = true := may_add nVA e
theorem mayAB (e : Int) : mayD 8 ⟨cB, 4, [vN' e]⟩ = true := may_add nVB e
theorem mayRC : mayD 8 ⟨cC, 2, []⟩ = true := by kernel_rfl
theorem nx_add (a e : Int) (c : Val) : nxH 8 (noV, a) ⟨c, 4, [vN' e]⟩ = (noV, i64w (a + e)) := by rw [nxH_8 (by decide)]; rfl
theorem ou_add (a e : Int) (c : Val) : outHx (noV, a) ⟨c, 4, [vN' e]⟩ = [] := rfl
theorem nx_rd (a : Int) (c : Val) : nxH 8 (noV, a) ⟨c, 2, []⟩ = (noV, a) := by rw [nxH_8 (by decide)]; rfl
theorem ou_rd (a : Int) (c : Val) : outHx (noV, a) ⟨c, 2, []⟩ = [vN' a] := rfl
/-- how the walk stands: both states -/
structure Hs2 (w wr : World) (z t : Nat) (a b : Int) : Prop where
  s : Hh 8 w wr z (noV, a)
  t : Hh 8 w wr t (noV, b)
  b : Below w.heap.size w wr
theorem Hs2.later {w wr wn : World} {z t : Nat} {a b : Int} (h : Hs2 w wr z t a b) (hb : Below wr.heap.size wr wn) : Hs2 w wn z t a b := ⟨h.s.later hb, h.t.later hb, below_next h.b hb⟩
set_option maxRecDepth 100000 in
set_option maxHeartbeats 16000000 in
theorem law_sumsH (K : HoldOK) (v : Value) (xs : List Int) (r : Nat) (hr : r ≤ 255) (w : World) (ht : Tb w) (hv : ISl w v xs) : Calls Tryd.prog 6 #[v, .int .u8 (r : Int)] w fun e w' => e = .returned (.bool true) ∧ Below w.heap.size w w' := by
  have mixed : Tryd.prog.follows .mixedOrders = true := by kernel_rfl
  have HT : Hid (Tb w) := ht
  have HW : Hid (∀ w', Below w.heap.size w w' → Calls Tryd.prog 7 #[] w' fun e w'' => e = .returned (.bool true) ∧ Below w'.heap.size w' w'') := fun w' hb => wakes_anyH K w' (ht.later hb)
  have HK : Hid HoldOK := K
  have hN := fun w => K.new 8 w
  rw [show ownH 8 = true by kernel_rfl, if_pos rfl] at hN
  simp only [stH, stN, noH, noV] at hN
  clear ht K
  obtain ⟨a, c, rfl⟩ := hv.form
  have hc : xs.length ≤ c ∧ c ≤ 9223372036854775807 := by
    obtain ⟨a', c', he, h1, h2, _⟩ := hv
    injection he with _ _ he
    subst he
    exact ⟨h1, h2⟩
  obtain ⟨n, hn⟩ : ∃ n, xs.length = n := ⟨_, rfl⟩
  by_cases h60 : 60 < n
  · rw [hn] at hc ⊢
    have h60' : (60 : Int) < (n : Int) := by omega
    clear hv hn
    go_enter Tryd.func6, Tryd.ntmps6
    go_wp2_with (go_at_call 7; refine (HW.out _ (Below.refl _ _)).mono ?_; rintro e w1 ⟨rfl, hb1⟩)
    go_ret
    exact ⟨rfl, hb1⟩
  by_cases h0 : n = 0
  · rw [hn] at hc ⊢
    subst h0
    clear hv hn
    go_enter Tryd.func6, Tryd.ntmps6
    go_wp2_with (go_at_call 7; refine (HW.out _ (Below.refl _ _)).mono ?_; rintro e w1 ⟨rfl, hb1⟩)
    go_ret
    exact ⟨rfl, hb1⟩
  obtain ⟨b, o, rfl, hbl, hat⟩ := isl_at hv (by omega)
  obtain ⟨fa, hfa⟩ : ∃ f : Nat → Int, ∀ k, addN (xs.take k) = f k := ⟨_, fun _ => rfl⟩
  obtain ⟨fb, hfb⟩ : ∃ f : Nat → Int, ∀ k, addN (rotL xs r k) = f k := ⟨_, fun _ => rfl⟩
  obtain ⟨fs, hfs⟩ : ∃ f : Nat → Int, ∀ k, u64w (xs.take k).sum = f k := ⟨_, fun _ => rfl⟩
  have HA0 : Hid (fa 0 = 0) := (hfa 0).symm.trans rfl
  have HB0 : Hid (fb 0 = 0) := (hfb 0).symm.trans rfl
  have HS0 : Hid (fs 0 = 0) := (hfs 0).symm.trans (by simp [u64w])
  have HAn : Hid (∀ k, k < n → fa (k + 1) = i64w (fa k + nth xs k)) := fun k h => by rw [← hfa, ← hfa, take_nth xs k (by omega), addN_snoc]
  have HBn : Hid (∀ k, k < n → fb (k + 1) = i64w (fb k + nth xs ((k + r) % n))) := fun k h => by rw [← hfb, ← hfb, rotL_next, addN_snoc, hn]
  have HSn : Hid (∀ k, k < n → fs (k + 1) = u64w (fs k + u64w (nth xs k))) := fun k h => by rw [← hfs, ← hfs, take_nth xs k (by omega), List.sum_append, u64w_add]; simp
  have HAB : Hid (fb n = fa n) := by
    show _ = _
    rw [← hfb, ← hfa, ← hn, addN_sum, addN_sum, rot_sum xs r (by omega), List.take_of_length_le (Nat.le_refl _)]
  have HSA : Hid (i64w (fs n) = fa n) := by
    show _ = _
    rw [← hfs, ← hfa, ← hn, addN_sum, i64w_u]
  have HAt : Hid (∀ i, i < n → w.cell? ⟨b, o + i, none⟩ = some (.int .i64 (nth xs i))) := fun i h => hat i (by omega)
  have HLt : Hid (b < w.heap.size) := hbl
  obtain ⟨nx, hnx⟩ : ∃ f : Nat → Int, ∀ k, nth xs k = f k := ⟨_, fun _ => rfl⟩
  simp only [hnx] at HAn HBn HSn HAt
  rw [hn] at hc ⊢
  clear hv hat hbl hfa hfb hfs hnx hn
  have hn1 : (n : Int) ≤ 60 := by omega
  have hn0 : ((n : Int) == 0) = false := by simp; omega
  have hnp : 0 < n := by omega
  clear h60 h0
  go_enter Tryd.func6, Tryd.ntmps6
  go_wp2_with (first
    | (go_at_call 7; refine (HW.out _ (Below.refl _ _)).mono ?_; rintro e w1 ⟨rfl, hb1⟩)
    | (go_at_call 8; refine (hN _).mono ?_; rintro e w2 ⟨rfl, hb2⟩))
  have T := two_laid w2 (stH 8 noH nilS) (stH 8 noH nilS) 28 28
  have hb3 : Below w.heap.size w w2 := below_next hb1 hb2
  have HP0 : Hid (Hs2 w ((w2.alloc (.cells #[.int .i64 8, .int .i64 0, .int .i64 0, .string noB, .int .i64 0, .slice none 0 0] 28)).alloc (.cells #[.int .i64 8, .int .i64 0, .int .i64 0, .string noB, .int .i64 0, .slice none 0 0] 28)) w2.heap.size (w2.heap.size + 1) (fa 0) (fb 0)) := by
    show Hs2 _ _ _ _ _ _
    rw [HA0.out, HB0.out]
    exact ⟨⟨T.1, hb3.size⟩, ⟨T.2.1, Nat.le_succ_of_le hb3.size⟩, below_next hb3 T.2.2⟩
  have HQ0 : Hid (w2.heap.size ≠ w2.heap.size + 1) := (by omega : w2.heap.size ≠ w2.heap.size + 1)
  clear T hb1 hb2 hb3 hN HW HA0 HB0
  generalize (w2.alloc (.cells #[.int .i64 8, .int .i64 0, .int .i64 0, .string noB, .int .i64 0, .slice none 0 0] 28)).alloc (.cells #[.int .i64 8, .int .i64 0, .int .i64 0, .string noB, .int .i64 0, .slice none 0 0] 28) = w3 at HP0 ⊢
  obtain ⟨z, hz⟩ : ∃ z, w2.heap.size = z := ⟨_, rfl⟩
  rw [hz] at HP0 HQ0
  simp only [hz]
  obtain ⟨t, ht⟩ : ∃ t, z + 1 = t := ⟨_, rfl⟩
  rw [ht] at HP0 HQ0
  simp only [ht]
  clear hz ht
  go_loopw [8, 35] (fun s i wr => ∃ k : Nat, k ≤ n ∧ i = .int .i64 (k : Int) ∧ s = .int .u64 (fs k) ∧ Hs2 w wr z t (fa k) (fb k)) (fun s i wr => n - (intOf i).toNat)
  case atStart => exact ⟨0, by omega, rfl, by rw [HS0.out], HP0.out⟩
  case round =>
    obtain ⟨k, hk, rfl, rfl, hpl⟩ := hrel
    have HP : Hid (Hs2 w wr z t (fa k) (fb k)) := hpl
    clear hpl HP0
    by_cases hlt : k < n
    · have hlt' : (k : Int) < (n : Int) := by omega
      have hkm : (k : Int) + 1 ≤ 9223372036854775807 := by omega
      obtain ⟨j, hj⟩ : ∃ j, (k + r) % n = j := ⟨_, rfl⟩
      have hjn : j < n := by rw [← hj]; exact Nat.mod_lt _ hnp
      have hjn' : (j : Int) < (n : Int) := by omega
      have HAk : Hid (fa (k + 1) = i64w (fa k + nx k)) := HAn.out k hlt
      have HBk : Hid (fb (k + 1) = i64w (fb k + nx j)) := hj ▸ HBn.out k hlt
      have HSk : Hid (fs (k + 1) = u64w (fs k + u64w (nx k))) := HSn.out k hlt
      have HCk : Hid (w.cell? ⟨b, o + k, none⟩ = some (.int .i64 (nx k))) := HAt.out k hlt
      have HCj : Hid (w.cell? ⟨b, o + j, none⟩ = some (.int .i64 (nx j))) := HAt.out j hjn
      obtain ⟨kr, hkr⟩ : ∃ kr : Int, (k : Int) + (r : Int) = kr := ⟨_, rfl⟩
      have hkr0 : 0 ≤ kr := by omega
      have hkr1 : kr ≤ 1000 := by omega
      have htm : kr.tmod (n : Int) = (j : Int) := by
        rw [← hkr, ← hj, ← Int.natCast_add]
        rfl
      have hke := hkr
      obtain ⟨sk, hsk⟩ : ∃ sk, fs k = sk := ⟨_, rfl⟩
      obtain ⟨ak, hak⟩ : ∃ ak, fa k = ak := ⟨_, rfl⟩
      obtain ⟨bk, hbk⟩ : ∃ bk, fb k = bk := ⟨_, rfl⟩
      rw [hsk] at HSk ⊢
      rw [hak] at HAk HP
      rw [hbk] at HBk HP
      generalize nx k = ek at *
      generalize nx j = ej at *
      clear hsk hak hbk hj HAn HBn HSn HAt hkr
      have HM : Hid (ownH 8 = true) := (by kernel_rfl : ownH 8 = true)
      have HPa : Hid (Below w.heap.size w wr ∧ Hh 8 w wr z (noV, ak)) := ⟨HP.out.b, HP.out.s⟩
      have HPt : Hid (Hh 8 w wr t (noV, bk)) := HP.out.t
      clear HP
      go_wp2_with fail
      rename_i K9 hK9
      obtain ⟨I, hI⟩ : ∃ I : (Nat → Bool) → Act → World → Prop, ∀ L act wx, I L act wx ↔ (fun (L : Nat → Bool) (act : Act) (wx : World) => ∃ (t46 : Value) (t47 : Value) (t48 : Value) (t49 : Value) (t50 : Value) (t51 : Value) (t52 : Value) (t53 : Value) (t54 : Value) (t45 : Value) (t55 : Value) (t56 : Value) (t57 : Value) (vo9 : Value) (q9 : Nat), act = ⟨#[Value.slice (some ⟨b, o, none⟩) n c, Value.int .u8 (r : Int), undef, undef, Value.bool false, Value.pointer (some ⟨z, 0, none⟩), Value.bool true, Value.pointer (some ⟨t, 0, none⟩), Value.int .u64 sk, Value.int .i64 (k : Int), Value.int .i64 (j : Int), undef, undef, undef, undef, undef, undef, undef, Value.bool true, Value.bool false, Value.slice (some ⟨b, o, none⟩) n c, Value.int .i64 (n : Int), Value.bool (decide ((60 : Int) < (n : Int))), Value.bool (decide ((60 : Int) < (n : Int))), Value.slice (some ⟨b, o, none⟩) n c, Value.int .i64 (n : Int), Value.bool false, Value.bool (decide ((60 : Int) < (n : Int))), Value.tuple #[Value.agg #[Value.int .i64 8, Value.int .i64 0, Value.int .i64 0, Value.string noB, Value.int .i64 0, nilS], Value.bool true], Value.tuple #[Value.agg #[Value.int .i64 8, Value.int .i64 0, Value.int .i64 0, Value.string noB, Value.int .i64 0, nilS], Value.bool true], Value.agg #[Value.int .i64 8, Value.int .i64 0, Value.int .i64 0, Value.string noB, Value.int .i64 0, nilS], Value.bool true, Value.agg #[Value.int .i64 8, Value.int .i64 0, Value.int .i64 0, Value.string noB, Value.int .i64 0, Value.slice none 0 0], Value.slice (some ⟨b, o, none⟩) n c, Value.int .i64 (n : Int), Value.int .i64 (k : Int), Value.bool true, Value.int .i64 (k : Int), Value.int .i64 (k : Int), Value.int .u8 (r : Int), Value.int .i64 (r : Int), Value.int .i64 kr, Value.slice (some ⟨b, o, none⟩) n c, Value.int .i64 (n : Int), Value.int .i64 (j : Int), t45, t46, t47, t48, t49, t50, t51, t52, t53, t54, t55, t56, t57, u58, u59, u60, u61, u62, u63, u64, u65, u66, u67, u68, u69, u70, u71, u72, u73, u74, u75, u76, u77, u78, undef, undef, undef, undef, undef, undef, undef, undef, undef, undef, undef, undef, undef, undef, undef, undef, undef, undef, undef, undef, undef, undef, undef, undef, undef, undef, undef, undef, undef, undef, undef, undef], []⟩ ∧ Hid (StW w wx) ∧ Hid (L 13 = false → Hh 8 w wx z (noV, ak)) ∧ Hid (Hh 8 w wx t (noV, bk)) ∧ Hid (L 0 = true → t46 = .agg (stH 8 (noV, ak) nilS).toArray) ∧ Hid (L 1 = true → t47 = .agg #[.int .i64 2, .int .i64 0, .string ⟨#[97]⟩]) ∧ Hid (L 2 = true → t48 = .slice (some ⟨b, o, none⟩) n c) ∧ Hid (L 3 = true → t49 = .int .i64 (k : Int)) ∧ Hid (L 4 = true → t50 = .pointer (some ⟨b, o + k, none⟩)) ∧ Hid (L 5 = true → t51 = .int .i64 ek) ∧ Hid (L 6 = true → t52 = .agg #[.int .i64 1, .int .i64 ek, .string noB]) ∧ Hid (L 7 = true → ∃ q8 : Nat, t53 = .slice (some ⟨q8, 0, none⟩) 1 1 ∧ OwnV wx w.heap.size t53 [(vN' ek)]) ∧ Hid (L 8 = true → t54 = .tuple #[.agg (stH 8 (noV, i64w (ak + ek)) nilS).toArray, vo9, .bool true] ∧ OwnV wx w.heap.size vo9 []) ∧ Hid (L 9 = true → t45 = .tuple #[.agg (stH 8 (noV, i64w (ak + ek)) nilS).toArray, vo9, .bool true]) ∧ Hid (L 10 = true → t55 = .agg (stH 8 (noV, i64w (ak + ek)) nilS).toArray) ∧ Hid (L 11 = true → t56 = vo9) ∧ Hid (L 12 = true → t57 = .bool true) ∧ Hid (L 13 = true → Hh 8 w wx z (noV, i64w (ak + ek)))) L act wx := ⟨_, fun _ _ _ => Iff.rfl⟩
      dsimp only at hI
      have HI : Hid (∀ L act wx, I L act wx ↔ _) := hI
      clear hI
      refine wp_region_inv mixed [[], [], [], [], [2, 3], [2, 3, 4], [2, 3, 4, 5], [2, 3, 4, 5, 6], [0, 1, 2, 3, 4, 5, 6, 7], [0, 1, 2, 3, 4, 5, 6, 7, 8], [0, 1, 2, 3, 4, 5, 6, 7, 8, 9], [0, 1, 2, 3, 4, 5, 6, 7, 8, 9], [0, 1, 2, 3, 4, 5, 6, 7, 8, 9], [0, 1, 2, 3, 4, 5, 6, 7, 8, 9, 10]] (by kernel_rfl) I ?_ ?_ ?_
      · refine (HI.out _ _ _).2 ⟨_, _, _, _, _, _, _, _, _, _, _, _, _, undef, 0, rfl, ?_, ?_, ?_, fun h => Bool.noConfusion h, fun h => Bool.noConfusion h, fun h => Bool.noConfusion h, fun h => Bool.noConfusion h, fun h => Bool.noConfusion h, fun h => Bool.noConfusion h, fun h => Bool.noConfusion h, fun h => Bool.noConfusion h, fun h => Bool.noConfusion h, fun h => Bool.noConfusion h, fun h => Bool.noConfusion h, fun h => Bool.noConfusion h, fun h => Bool.noConfusion h, fun h => Bool.noConfusion h⟩
        · exact below_next HPa.out.1 (Stay.drew _)
        · exact fun _ => HPa.out.2.later (Stay.drew _)
        · exact HPt.out.later (Stay.drew _)
      · intro i hi L act wx hIa hLi hcl hanc
        obtain ⟨t46, t47, t48, t49, t50, t51, t52, t53, t54, t45, t55, t56, t57, vo9, q9, rfl, HS, E0, E1, F0, F1, F2, F3, F4, F5, F6, F7, F8, F9, F10, F11, F12, F13⟩ := (HI.out _ _ _).1 hIa
        clear hIa
        have hi' : i = 0 ∨ i = 1 ∨ i = 2 ∨ i = 3 ∨ i = 4 ∨ i = 5 ∨ i = 6 ∨ i = 7 ∨ i = 8 ∨ i = 9 ∨ i = 10 ∨ i = 11 ∨ i = 12 ∨ i = 13 := by have hi : i < 14 := hi; omega
        clear hi
        rcases hi' with rfl | rfl | rfl | rfl | rfl | rfl | rfl | rfl | rfl | rfl | rfl | rfl | rfl | rfl
        · have hun : L 13 = false := by
            cases h : L 13
            · rfl
            · exact absurd (hcl 13 h 0 (by decide)) (by rw [hLi]; decide)
          have hz := E0.out hun
          refine wpOp_doG 0 (by rfl) (by rfl) ?_
          refine wp_load_mid 28 (.tmp 5) rfl z 0 rfl (stH 8 (noV, ak) nilS) _ (Blk.all hz.s) Tryd.underlying28 rfl infoSt ?_
          simp only [Act.put, List.setIfInBounds_toArray, List.set_cons_zero, List.set_cons_succ]
          have hb : Below wx.heap.size wx wx := Below.refl _ _
          show I (putL L 0) _ _
          exact (HI.out (putL L 0) _ _).2 ⟨_, _, _, _, _, _, _, _, _, _, _, _, _, vo9, q9, rfl, HS.out.later hb, fun h => (E0.out ((putL_ne (i := 0) (by decide)).symm.trans h)).later hb, E1.out.later hb, fun _ => rfl, fun h => (by first | exact F1.out ((putL_ne (i := 0) (by decide)).symm.trans h) | rfl), fun h => (by first | exact F2.out ((putL_ne (i := 0) (by decide)).symm.trans h) | rfl), fun h => (by first | exact F3.out ((putL_ne (i := 0) (by decide)).symm.trans h) | rfl), fun h => (by first | exact F4.out ((putL_ne (i := 0) (by decide)).symm.trans h) | rfl), fun h => (by first | exact F5.out ((putL_ne (i := 0) (by decide)).symm.trans h) | rfl), fun h => (by first | exact F6.out ((putL_ne (i := 0) (by decide)).symm.trans h) | rfl), fun h => (fun q => q.imp fun _ k => ⟨k.1, k.2.later hb⟩) (F7.out ((putL_ne (i := 0) (by decide)).symm.trans h)), fun h => absurd (hcl 8 ((putL_ne (i := 0) (by decide)).symm.trans h) 0 (by decide)) (by rw [hLi]; decide), fun h => absurd (hcl 9 ((putL_ne (i := 0) (by decide)).symm.trans h) 0 (by decide)) (by rw [hLi]; decide), fun h => absurd (hcl 10 ((putL_ne (i := 0) (by decide)).symm.trans h) 0 (by decide)) (by rw [hLi]; decide), fun h => absurd (hcl 11 ((putL_ne (i := 0) (by decide)).symm.trans h) 0 (by decide)) (by rw [hLi]; decide), fun h => absurd (hcl 12 ((putL_ne (i := 0) (by decide)).symm.trans h) 0 (by decide)) (by rw [hLi]; decide), fun h => absurd (hcl 13 ((putL_ne (i := 0) (by decide)).symm.trans h) 0 (by decide)) (by rw [hLi]; decide)⟩
        · refine wpOp_doG 1 (by rfl) (by rfl) ?_
          go_wp2_with fail
          refine (who_any ⟨#[97]⟩ wx).mono ?_
          rintro e9 wn ⟨rfl, hb⟩
          show I (putL L 1) _ _
          exact (HI.out (putL L 1) _ _).2 ⟨_, _, _, _, _, _, _, _, _, _, _, _, _, vo9, q9, rfl, HS.out.later hb, fun h => (E0.out ((putL_ne (i := 1) (by decide)).symm.trans h)).later hb, E1.out.later hb, fun h => (by first | exact F0.out ((putL_ne (i := 1) (by decide)).symm.trans h) | rfl), fun _ => rfl, fun h => (by first | exact F2.out ((putL_ne (i := 1) (by decide)).symm.trans h) | rfl), fun h => (by first | exact F3.out ((putL_ne (i := 1) (by decide)).symm.trans h) | rfl), fun h => (by first | exact F4.out ((putL_ne (i := 1) (by decide)).symm.trans h) | rfl), fun h => (by first | exact F5.out ((putL_ne (i := 1) (by decide)).symm.trans h) | rfl), fun h => (by first | exact F6.out ((putL_ne (i := 1) (by decide)).symm.trans h) | rfl), fun h => (fun q => q.imp fun _ k => ⟨k.1, k.2.later hb⟩) (F7.out ((putL_ne (i := 1) (by decide)).symm.trans h)), fun h => absurd (hcl 8 ((putL_ne (i := 1) (by decide)).symm.trans h) 1 (by decide)) (by rw [hLi]; decide), fun h => absurd (hcl 9 ((putL_ne (i := 1) (by decide)).symm.trans h) 1 (by decide)) (by rw [hLi]; decide), fun h => absurd (hcl 10 ((putL_ne (i := 1) (by decide)).symm.trans h) 1 (by decide)) (by rw [hLi]; decide), fun h => absurd (hcl 11 ((putL_ne (i := 1) (by decide)).symm.trans h) 1 (by decide)) (by rw [hLi]; decide), fun h => absurd (hcl 12 ((putL_ne (i := 1) (by decide)).symm.trans h) 1 (by decide)) (by rw [hLi]; decide), fun h => absurd (hcl 13 ((putL_ne (i := 1) (by decide)).symm.trans h) 1 (by decide)) (by rw [hLi]; decide)⟩
        · refine YieldsIf.wpOp (S := fun _ => True) (v := .slice (some ⟨b, o, none⟩) n c) (by rfl) (.inl ⟨rfl, fun w _ => rfl⟩) trivial ?_
          simp only [Act.put, List.setIfInBounds_toArray, List.set_cons_zero, List.set_cons_succ]
          have hb : Below wx.heap.size wx wx := Below.refl _ _
          show I (putL L 2) _ _
          exact (HI.out (putL L 2) _ _).2 ⟨_, _, _, _, _, _, _, _, _, _, _, _, _, vo9, q9, rfl, HS.out.later hb, fun h => (E0.out ((putL_ne (i := 2) (by decide)).symm.trans h)).later hb, E1.out.later hb, fun h => (by first | exact F0.out ((putL_ne (i := 2) (by decide)).symm.trans h) | rfl), fun h => (by first | exact F1.out ((putL_ne (i := 2) (by decide)).symm.trans h) | rfl), fun _ => rfl, fun h => (by first | exact F3.out ((putL_ne (i := 2) (by decide)).symm.trans h) | rfl), fun h => absurd (hcl 4 ((putL_ne (i := 2) (by decide)).symm.trans h) 2 (by decide)) (by rw [hLi]; decide), fun h => absurd (hcl 5 ((putL_ne (i := 2) (by decide)).symm.trans h) 2 (by decide)) (by rw [hLi]; decide), fun h => absurd (hcl 6 ((putL_ne (i := 2) (by decide)).symm.trans h) 2 (by decide)) (by rw [hLi]; decide), fun h => absurd (hcl 7 ((putL_ne (i := 2) (by decide)).symm.trans h) 2 (by decide)) (by rw [hLi]; decide), fun h => absurd (hcl 8 ((putL_ne (i := 2) (by decide)).symm.trans h) 2 (by decide)) (by rw [hLi]; decide), fun h => absurd (hcl 9 ((putL_ne (i := 2) (by decide)).symm.trans h) 2 (by decide)) (by rw [hLi]; decide), fun h => absurd (hcl 10 ((putL_ne (i := 2) (by decide)).symm.trans h) 2 (by decide)) (by rw [hLi]; decide), fun h => absurd (hcl 11 ((putL_ne (i := 2) (by decide)).symm.trans h) 2 (by decide)) (by rw [hLi]; decide), fun h => absurd (hcl 12 ((putL_ne (i := 2) (by decide)).symm.trans h) 2 (by decide)) (by rw [hLi]; decide), fun h => absurd (hcl 13 ((putL_ne (i := 2) (by decide)).symm.trans h) 2 (by decide)) (by rw [hLi]; decide)⟩
        · refine YieldsIf.wpOp (S := fun _ => True) (v := .int .i64 (k : Int)) (by rfl) (.inl ⟨rfl, fun w _ => rfl⟩) trivial ?_
          simp only [Act.put, List.setIfInBounds_toArray, List.set_cons_zero, List.set_cons_succ]
          have hb : Below wx.heap.size wx wx := Below.refl _ _
          show I (putL L 3) _ _
          exact (HI.out (putL L 3) _ _).2 ⟨_, _, _, _, _, _, _, _, _, _, _, _, _, vo9, q9, rfl, HS.out.later hb, fun h => (E0.out ((putL_ne (i := 3) (by decide)).symm.trans h)).later hb, E1.out.later hb, fun h => (by first | exact F0.out ((putL_ne (i := 3) (by decide)).symm.trans h) | rfl), fun h => (by first | exact F1.out ((putL_ne (i := 3) (by decide)).symm.trans h) | rfl), fun h => (by first | exact F2.out ((putL_ne (i := 3) (by decide)).symm.trans h) | rfl), fun _ => rfl, fun h => absurd (hcl 4 ((putL_ne (i := 3) (by decide)).symm.trans h) 3 (by decide)) (by rw [hLi]; decide), fun h => absurd (hcl 5 ((putL_ne (i := 3) (by decide)).symm.trans h) 3 (by decide)) (by rw [hLi]; decide), fun h => absurd (hcl 6 ((putL_ne (i := 3) (by decide)).symm.trans h) 3 (by decide)) (by rw [hLi]; decide), fun h => absurd (hcl 7 ((putL_ne (i := 3) (by decide)).symm.trans h) 3 (by decide)) (by rw [hLi]; decide), fun h => absurd (hcl 8 ((putL_ne (i := 3) (by decide)).symm.trans h) 3 (by decide)) (by rw [hLi]; decide), fun h => absurd (hcl 9 ((putL_ne (i := 3) (by decide)).symm.trans h) 3 (by decide)) (by rw [hLi]; decide), fun h => absurd (hcl 10 ((putL_ne (i := 3) (by decide)).symm.trans h) 3 (by decide)) (by rw [hLi]; decide), fun h => absurd (hcl 11 ((putL_ne (i := 3) (by decide)).symm.trans h) 3 (by decide)) (by rw [hLi]; decide), fun h => absurd (hcl 12 ((putL_ne (i := 3) (by decide)).symm.trans h) 3 (by decide)) (by rw [hLi]; decide), fun h => absurd (hcl 13 ((putL_ne (i := 3) (by decide)).symm.trans h) 3 (by decide)) (by rw [hLi]; decide)⟩
        · have f2 := F2.out (hanc 2 (by decide))
          have f3 := F3.out (hanc 3 (by decide))
          have g2 := f2
          subst g2
          have g3 := f3
          subst g3
          refine wpOp_doG 4 (by rfl) (by rfl) ?_
          go_wp2_with fail
          have hb : Below wx.heap.size wx wx := Below.refl _ _
          show I (putL L 4) _ _
          exact (HI.out (putL L 4) _ _).2 ⟨_, _, _, _, _, _, _, _, _, _, _, _, _, vo9, q9, rfl, HS.out.later hb, fun h => (E0.out ((putL_ne (i := 4) (by decide)).symm.trans h)).later hb, E1.out.later hb, fun h => (by first | exact F0.out ((putL_ne (i := 4) (by decide)).symm.trans h) | rfl), fun h => (by first | exact F1.out ((putL_ne (i := 4) (by decide)).symm.trans h) | rfl), fun h => (by first | exact F2.out ((putL_ne (i := 4) (by decide)).symm.trans h) | rfl), fun h => (by first | exact F3.out ((putL_ne (i := 4) (by decide)).symm.trans h) | rfl), fun _ => rfl, fun h => absurd (hcl 5 ((putL_ne (i := 4) (by decide)).symm.trans h) 4 (by decide)) (by rw [hLi]; decide), fun h => absurd (hcl 6 ((putL_ne (i := 4) (by decide)).symm.trans h) 4 (by decide)) (by rw [hLi]; decide), fun h => absurd (hcl 7 ((putL_ne (i := 4) (by decide)).symm.trans h) 4 (by decide)) (by rw [hLi]; decide), fun h => absurd (hcl 8 ((putL_ne (i := 4) (by decide)).symm.trans h) 4 (by decide)) (by rw [hLi]; decide), fun h => absurd (hcl 9 ((putL_ne (i := 4) (by decide)).symm.trans h) 4 (by decide)) (by rw [hLi]; decide), fun h => absurd (hcl 10 ((putL_ne (i := 4) (by decide)).symm.trans h) 4 (by decide)) (by rw [hLi]; decide), fun h => absurd (hcl 11 ((putL_ne (i := 4) (by decide)).symm.trans h) 4 (by decide)) (by rw [hLi]; decide), fun h => absurd (hcl 12 ((putL_ne (i := 4) (by decide)).symm.trans h) 4 (by decide)) (by rw [hLi]; decide), fun h => absurd (hcl 13 ((putL_ne (i := 4) (by decide)).symm.trans h) 4 (by decide)) (by rw [hLi]; decide)⟩
        · have f2 := F2.out (hanc 2 (by decide))
          have f3 := F3.out (hanc 3 (by decide))
          have f4 := F4.out (hanc 4 (by decide))
          have g4 := f4
          subst g4
          refine wpOp_doG 5 (by rfl) (by rfl) ?_
          have c9 := ((show Below w.heap.size w wx from HS.out).cell (p := ⟨b, o + k, none⟩) HLt.out).trans HCk.out
          go_wp2_with fail
          have hb : Below wx.heap.size wx wx := Below.refl _ _
          show I (putL L 5) _ _
          exact (HI.out (putL L 5) _ _).2 ⟨_, _, _, _, _, _, _, _, _, _, _, _, _, vo9, q9, rfl, HS.out.later hb, fun h => (E0.out ((putL_ne (i := 5) (by decide)).symm.trans h)).later hb, E1.out.later hb, fun h => (by first | exact F0.out ((putL_ne (i := 5) (by decide)).symm.trans h) | rfl), fun h => (by first | exact F1.out ((putL_ne (i := 5) (by decide)).symm.trans h) | rfl), fun h => (by first | exact F2.out ((putL_ne (i := 5) (by decide)).symm.trans h) | rfl), fun h => (by first | exact F3.out ((putL_ne (i := 5) (by decide)).symm.trans h) | rfl), fun h => (by first | exact F4.out ((putL_ne (i := 5) (by decide)).symm.trans h) | rfl), fun _ => rfl, fun h => absurd (hcl 6 ((putL_ne (i := 5) (by decide)).symm.trans h) 5 (by decide)) (by rw [hLi]; decide), fun h => absurd (hcl 7 ((putL_ne (i := 5) (by decide)).symm.trans h) 5 (by decide)) (by rw [hLi]; decide), fun h => absurd (hcl 8 ((putL_ne (i := 5) (by decide)).symm.trans h) 5 (by decide)) (by rw [hLi]; decide), fun h => absurd (hcl 9 ((putL_ne (i := 5) (by decide)).symm.trans h) 5 (by decide)) (by rw [hLi]; decide), fun h => absurd (hcl 10 ((putL_ne (i := 5) (by decide)).symm.trans h) 5 (by decide)) (by rw [hLi]; decide), fun h => absurd (hcl 11 ((putL_ne (i := 5) (by decide)).symm.trans h) 5 (by decide)) (by rw [hLi]; decide), fun h => absurd (hcl 12 ((putL_ne (i := 5) (by decide)).symm.trans h) 5 (by decide)) (by rw [hLi]; decide), fun h => absurd (hcl 13 ((putL_ne (i := 5) (by decide)).symm.trans h) 5 (by decide)) (by rw [hLi]; decide)⟩
        · have f2 := F2.out (hanc 2 (by decide))
          have f3 := F3.out (hanc 3 (by decide))
          have f4 := F4.out (hanc 4 (by decide))
          have f5 := F5.out (hanc 5 (by decide))
          have g5 := f5
          subst g5
          refine wpOp_doG 6 (by rfl) (by rfl) ?_
          go_wp2_with fail
          have hb : Below wx.heap.size wx wx := Below.refl _ _
          show I (putL L 6) _ _
          exact (HI.out (putL L 6) _ _).2 ⟨_, _, _, _, _, _, _, _, _, _, _, _, _, vo9, q9, rfl, HS.out.later hb, fun h => (E0.out ((putL_ne (i := 6) (by decide)).symm.trans h)).later hb, E1.out.later hb, fun h => (by first | exact F0.out ((putL_ne (i := 6) (by decide)).symm.trans h) | rfl), fun h => (by first | exact F1.out ((putL_ne (i := 6) (by decide)).symm.trans h) | rfl), fun h => (by first | exact F2.out ((putL_ne (i := 6) (by decide)).symm.trans h) | rfl), fun h => (by first | exact F3.out ((putL_ne (i := 6) (by decide)).symm.trans h) | rfl), fun h => (by first | exact F4.out ((putL_ne (i := 6) (by decide)).symm.trans h) | rfl), fun h => (by first | exact F5.out ((putL_ne (i := 6) (by decide)).symm.trans h) | rfl), fun _ => rfl, fun h => absurd (hcl 7 ((putL_ne (i := 6) (by decide)).symm.trans h) 6 (by decide)) (by rw [hLi]; decide), fun h => absurd (hcl 8 ((putL_ne (i := 6) (by decide)).symm.trans h) 6 (by decide)) (by rw [hLi]; decide), fun h => absurd (hcl 9 ((putL_ne (i := 6) (by decide)).symm.trans h) 6 (by decide)) (by rw [hLi]; decide), fun h => absurd (hcl 10 ((putL_ne (i := 6) (by decide)).symm.trans h) 6 (by decide)) (by rw [hLi]; decide), fun h => absurd (hcl 11 ((putL_ne (i := 6) (by decide)).symm.trans h) 6 (by decide)) (by rw [hLi]; decide), fun h => absurd (hcl 12 ((putL_ne (i := 6) (by decide)).symm.trans h) 6 (by decide)) (by rw [hLi]; decide), fun h => absurd (hcl 13 ((putL_ne (i := 6) (by decide)).symm.trans h) 6 (by decide)) (by rw [hLi]; decide)⟩
        · have f2 := F2.out (hanc 2 (by decide))
          have f3 := F3.out (hanc 3 (by decide))
          have f4 := F4.out (hanc 4 (by decide))
          have f5 := F5.out (hanc 5 (by decide))
          have f6 := F6.out (hanc 6 (by decide))
          have f := f6
          subst f
          refine wpOp_doG 7 (by rfl) (by rfl) ?_
          go_wp2_with fail
          have HV9 := own_one wx w.heap.size HS.out.size (vN' ek)
          have hb := below_box wx (.cells (encV (vN' ek)).toArray 25)
          change OwnV (wx.alloc (.cells #[.int .i64 1, .int .i64 ek, .string noB] 25)) _ _ _ at HV9
          change Below _ wx (wx.alloc (.cells #[.int .i64 1, .int .i64 ek, .string noB] 25)) at hb
          show I (putL L 7) _ _
          exact (HI.out (putL L 7) _ _).2 ⟨_, _, _, _, _, _, _, _, _, _, _, _, _, vo9, q9, rfl, HS.out.later hb, fun h => (E0.out ((putL_ne (i := 7) (by decide)).symm.trans h)).later hb, E1.out.later hb, fun h => (by first | exact F0.out ((putL_ne (i := 7) (by decide)).symm.trans h) | rfl), fun h => (by first | exact F1.out ((putL_ne (i := 7) (by decide)).symm.trans h) | rfl), fun h => (by first | exact F2.out ((putL_ne (i := 7) (by decide)).symm.trans h) | rfl), fun h => (by first | exact F3.out ((putL_ne (i := 7) (by decide)).symm.trans h) | rfl), fun h => (by first | exact F4.out ((putL_ne (i := 7) (by decide)).symm.trans h) | rfl), fun h => (by first | exact F5.out ((putL_ne (i := 7) (by decide)).symm.trans h) | rfl), fun h => (by first | exact F6.out ((putL_ne (i := 7) (by decide)).symm.trans h) | rfl), fun _ => ⟨_, rfl, HV9⟩, fun h => absurd (hcl 8 ((putL_ne (i := 7) (by decide)).symm.trans h) 7 (by decide)) (by rw [hLi]; decide), fun h => absurd (hcl 9 ((putL_ne (i := 7) (by decide)).symm.trans h) 7 (by decide)) (by rw [hLi]; decide), fun h => absurd (hcl 10 ((putL_ne (i := 7) (by decide)).symm.trans h) 7 (by decide)) (by rw [hLi]; decide), fun h => absurd (hcl 11 ((putL_ne (i := 7) (by decide)).symm.trans h) 7 (by decide)) (by rw [hLi]; decide), fun h => absurd (hcl 12 ((putL_ne (i := 7) (by decide)).symm.trans h) 7 (by decide)) (by rw [hLi]; decide), fun h => absurd (hcl 13 ((putL_ne (i := 7) (by decide)).symm.trans h) 7 (by decide)) (by rw [hLi]; decide)⟩
        · have f0 := F0.out (hanc 0 (by decide))
          have f1 := F1.out (hanc 1 (by decide))
          have f2 := F2.out (hanc 2 (by decide))
          have f3 := F3.out (hanc 3 (by decide))
          have f4 := F4.out (hanc 4 (by decide))
          have f5 := F5.out (hanc 5 (by decide))
          have f6 := F6.out (hanc 6 (by decide))
          have f7 := F7.out (hanc 7 (by decide))
          have g0 := f0
          have g1 := f1
          subst g0 g1
          obtain ⟨q8, g3, hv8⟩ := f7
          subst g3
          refine wpOp_doG 8 (by rfl) (by rfl) ?_
          go_wp2_with fail
          refine (HK.out.yes 8 (noV, ak) cA 4 (.slice (some ⟨q8, 0, none⟩) 1 1) [(vN' ek)] wx (HT.out.later HS.out) hv8.vsl (sz1 _ (Nat.zero_le _)) (by decide) HM.out (mayAA ek) (okX_8 _)).mono ?_
          rintro e9 wn ⟨vo, rfl, ho9, hb⟩
          have ho9 := ho9.base HS.out.size
          rw [ou_add ak ek cA] at ho9
          rw [nx_add ak ek cA]
          show I (putL L 8) _ _
          exact (HI.out (putL L 8) _ _).2 ⟨_, _, _, _, _, _, _, _, _, _, _, _, _, vo, q9, rfl, HS.out.later hb, fun h => (E0.out ((putL_ne (i := 8) (by decide)).symm.trans h)).later hb, E1.out.later hb, fun h => (by first | exact F0.out ((putL_ne (i := 8) (by decide)).symm.trans h) | rfl), fun h => (by first | exact F1.out ((putL_ne (i := 8) (by decide)).symm.trans h) | rfl), fun h => (by first | exact F2.out ((putL_ne (i := 8) (by decide)).symm.trans h) | rfl), fun h => (by first | exact F3.out ((putL_ne (i := 8) (by decide)).symm.trans h) | rfl), fun h => (by first | exact F4.out ((putL_ne (i := 8) (by decide)).symm.trans h) | rfl), fun h => (by first | exact F5.out ((putL_ne (i := 8) (by decide)).symm.trans h) | rfl), fun h => (by first | exact F6.out ((putL_ne (i := 8) (by decide)).symm.trans h) | rfl), fun h => (fun q => q.imp fun _ k => ⟨k.1, k.2.later hb⟩) (F7.out ((putL_ne (i := 8) (by decide)).symm.trans h)), fun _ => ⟨rfl, ho9⟩, fun h => absurd (hcl 9 ((putL_ne (i := 8) (by decide)).symm.trans h) 8 (by decide)) (by rw [hLi]; decide), fun h => absurd (hcl 10 ((putL_ne (i := 8) (by decide)).symm.trans h) 8 (by decide)) (by rw [hLi]; decide), fun h => absurd (hcl 11 ((putL_ne (i := 8) (by decide)).symm.trans h) 8 (by decide)) (by rw [hLi]; decide), fun h => absurd (hcl 12 ((putL_ne (i := 8) (by decide)).symm.trans h) 8 (by decide)) (by rw [hLi]; decide), fun h => absurd (hcl 13 ((putL_ne (i := 8) (by decide)).symm.trans h) 8 (by decide)) (by rw [hLi]; decide)⟩
        · have f0 := F0.out (hanc 0 (by decide))
          have f1 := F1.out (hanc 1 (by decide))
          have f2 := F2.out (hanc 2 (by decide))
          have f3 := F3.out (hanc 3 (by decide))
          have f4 := F4.out (hanc 4 (by decide))
          have f5 := F5.out (hanc 5 (by decide))
          have f6 := F6.out (hanc 6 (by decide))
          have f7 := F7.out (hanc 7 (by decide))
          have f8 := F8.out (hanc 8 (by decide))
          have f := f8.1
          subst f
          refine YieldsIf.wpOp (S := fun _ => True) (v := .tuple #[.agg (stH 8 (noV, i64w (ak + ek)) nilS).toArray, vo9, .bool true]) (by rfl) (.inl ⟨rfl, fun w _ => rfl⟩) trivial ?_
          simp only [Act.put, List.setIfInBounds_toArray, List.set_cons_zero, List.set_cons_succ]
          have hb : Below wx.heap.size wx wx := Below.refl _ _
          show I (putL L 9) _ _
          exact (HI.out (putL L 9) _ _).2 ⟨_, _, _, _, _, _, _, _, _, _, _, _, _, vo9, q9, rfl, HS.out.later hb, fun h => (E0.out ((putL_ne (i := 9) (by decide)).symm.trans h)).later hb, E1.out.later hb, fun h => (by first | exact F0.out ((putL_ne (i := 9) (by decide)).symm.trans h) | rfl), fun h => (by first | exact F1.out ((putL_ne (i := 9) (by decide)).symm.trans h) | rfl), fun h => (by first | exact F2.out ((putL_ne (i := 9) (by decide)).symm.trans h) | rfl), fun h => (by first | exact F3.out ((putL_ne (i := 9) (by decide)).symm.trans h) | rfl), fun h => (by first | exact F4.out ((putL_ne (i := 9) (by decide)).symm.trans h) | rfl), fun h => (by first | exact F5.out ((putL_ne (i := 9) (by decide)).symm.trans h) | rfl), fun h => (by first | exact F6.out ((putL_ne (i := 9) (by decide)).symm.trans h) | rfl), fun h => (fun q => q.imp fun _ k => ⟨k.1, k.2.later hb⟩) (F7.out ((putL_ne (i := 9) (by decide)).symm.trans h)), fun h => (fun q => ⟨(by first | exact q.1 | rfl), q.2.later hb⟩) (F8.out ((putL_ne (i := 9) (by decide)).symm.trans h)), fun _ => rfl, fun h => absurd (hcl 10 ((putL_ne (i := 9) (by decide)).symm.trans h) 9 (by decide)) (by rw [hLi]; decide), fun h => absurd (hcl 11 ((putL_ne (i := 9) (by decide)).symm.trans h) 9 (by decide)) (by rw [hLi]; decide), fun h => absurd (hcl 12 ((putL_ne (i := 9) (by decide)).symm.trans h) 9 (by decide)) (by rw [hLi]; decide), fun h => absurd (hcl 13 ((putL_ne (i := 9) (by decide)).symm.trans h) 9 (by decide)) (by rw [hLi]; decide)⟩
        · have f0 := F0.out (hanc 0 (by decide))
          have f1 := F1.out (hanc 1 (by decide))
          have f2 := F2.out (hanc 2 (by decide))
          have f3 := F3.out (hanc 3 (by decide))
          have f4 := F4.out (hanc 4 (by decide))
          have f5 := F5.out (hanc 5 (by decide))
          have f6 := F6.out (hanc 6 (by decide))
          have f7 := F7.out (hanc 7 (by decide))
          have f8 := F8.out (hanc 8 (by decide))
          have f9 := F9.out (hanc 9 (by decide))
          have f := f9
          subst f
          refine YieldsIf.wpOp (S := fun _ => True) (v := .agg (stH 8 (noV, i64w (ak + ek)) nilS).toArray) (by rfl) (.inl ⟨rfl, fun w _ => by go_simp⟩) trivial ?_
          simp only [Act.put, List.setIfInBounds_toArray, List.set_cons_zero, List.set_cons_succ]
          have hb : Below wx.heap.size wx wx := Below.refl _ _
          show I (putL L 10) _ _
          exact (HI.out (putL L 10) _ _).2 ⟨_, _, _, _, _, _, _, _, _, _, _, _, _, vo9, q9, rfl, HS.out.later hb, fun h => (E0.out ((putL_ne (i := 10) (by decide)).symm.trans h)).later hb, E1.out.later hb, fun h => (by first | exact F0.out ((putL_ne (i := 10) (by decide)).symm.trans h) | rfl), fun h => (by first | exact F1.out ((putL_ne (i := 10) (by decide)).symm.trans h) | rfl), fun h => (by first | exact F2.out ((putL_ne (i := 10) (by decide)).symm.trans h) | rfl), fun h => (by first | exact F3.out ((putL_ne (i := 10) (by decide)).symm.trans h) | rfl), fun h => (by first | exact F4.out ((putL_ne (i := 10) (by decide)).symm.trans h) | rfl), fun h => (by first | exact F5.out ((putL_ne (i := 10) (by decide)).symm.trans h) | rfl), fun h => (by first | exact F6.out ((putL_ne (i := 10) (by decide)).symm.trans h) | rfl), fun h => (fun q => q.imp fun _ k => ⟨k.1, k.2.later hb⟩) (F7.out ((putL_ne (i := 10) (by decide)).symm.trans h)), fun h => (fun q => ⟨(by first | exact q.1 | rfl), q.2.later hb⟩) (F8.out ((putL_ne (i := 10) (by decide)).symm.trans h)), fun h => (by first | exact F9.out ((putL_ne (i := 10) (by decide)).symm.trans h) | rfl), fun _ => rfl, fun h => (by first | exact F11.out ((putL_ne (i := 10) (by decide)).symm.trans h) | rfl), fun h => (by first | exact F12.out ((putL_ne (i := 10) (by decide)).symm.trans h) | rfl), fun h => absurd (hcl 13 ((putL_ne (i := 10) (by decide)).symm.trans h) 10 (by decide)) (by rw [hLi]; decide)⟩
        · have f0 := F0.out (hanc 0 (by decide))
          have f1 := F1.out (hanc 1 (by decide))
          have f2 := F2.out (hanc 2 (by decide))
          have f3 := F3.out (hanc 3 (by decide))
          have f4 := F4.out (hanc 4 (by decide))
          have f5 := F5.out (hanc 5 (by decide))
          have f6 := F6.out (hanc 6 (by decide))
          have f7 := F7.out (hanc 7 (by decide))
          have f8 := F8.out (hanc 8 (by decide))
          have f9 := F9.out (hanc 9 (by decide))
          have f := f9
          subst f
          refine YieldsIf.wpOp (S := fun _ => True) (v := vo9) (by rfl) (.inl ⟨rfl, fun w _ => by go_simp⟩) trivial ?_
          simp only [Act.put, List.setIfInBounds_toArray, List.set_cons_zero, List.set_cons_succ]
          have hb : Below wx.heap.size wx wx := Below.refl _ _
          show I (putL L 11) _ _
          exact (HI.out (putL L 11) _ _).2 ⟨_, _, _, _, _, _, _, _, _, _, _, _, _, vo9, q9, rfl, HS.out.later hb, fun h => (E0.out ((putL_ne (i := 11) (by decide)).symm.trans h)).later hb, E1.out.later hb, fun h => (by first | exact F0.out ((putL_ne (i := 11) (by decide)).symm.trans h) | rfl), fun h => (by first | exact F1.out ((putL_ne (i := 11) (by decide)).symm.trans h) | rfl), fun h => (by first | exact F2.out ((putL_ne (i := 11) (by decide)).symm.trans h) | rfl), fun h => (by first | exact F3.out ((putL_ne (i := 11) (by decide)).symm.trans h) | rfl), fun h => (by first | exact F4.out ((putL_ne (i := 11) (by decide)).symm.trans h) | rfl), fun h => (by first | exact F5.out ((putL_ne (i := 11) (by decide)).symm.trans h) | rfl), fun h => (by first | exact F6.out ((putL_ne (i := 11) (by decide)).symm.trans h) | rfl), fun h => (fun q => q.imp fun _ k => ⟨k.1, k.2.later hb⟩) (F7.out ((putL_ne (i := 11) (by decide)).symm.trans h)), fun h => (fun q => ⟨(by first | exact q.1 | rfl), q.2.later hb⟩) (F8.out ((putL_ne (i := 11) (by decide)).symm.trans h)), fun h => (by first | exact F9.out ((putL_ne (i := 11) (by decide)).symm.trans h) | rfl), fun h => (by first | exact F10.out ((putL_ne (i := 11) (by decide)).symm.trans h) | rfl), fun _ => rfl, fun h => (by first | exact F12.out ((putL_ne (i := 11) (by decide)).symm.trans h) | rfl), fun h => (fun q => q.later hb) (F13.out ((putL_ne (i := 11) (by decide)).symm.trans h))⟩
        · have f0 := F0.out (hanc 0 (by decide))
          have f1 := F1.out (hanc 1 (by decide))
          have f2 := F2.out (hanc 2 (by decide))
          have f3 := F3.out (hanc 3 (by decide))
          have f4 := F4.out (hanc 4 (by decide))
          have f5 := F5.out (hanc 5 (by decide))
          have f6 := F6.out (hanc 6 (by decide))
          have f7 := F7.out (hanc 7 (by decide))
          have f8 := F8.out (hanc 8 (by decide))
          have f9 := F9.out (hanc 9 (by decide))
          have f := f9
          subst f
          refine YieldsIf.wpOp (S := fun _ => True) (v := .bool true) (by rfl) (.inl ⟨rfl, fun w _ => by go_simp⟩) trivial ?_
          simp only [Act.put, List.setIfInBounds_toArray, List.set_cons_zero, List.set_cons_succ]
          have hb : Below wx.heap.size wx wx := Below.refl _ _
          show I (putL L 12) _ _
          exact (HI.out (putL L 12) _ _).2 ⟨_, _, _, _, _, _, _, _, _, _, _, _, _, vo9, q9, rfl, HS.out.later hb, fun h => (E0.out ((putL_ne (i := 12) (by decide)).symm.trans h)).later hb, E1.out.later hb, fun h => (by first | exact F0.out ((putL_ne (i := 12) (by decide)).symm.trans h) | rfl), fun h => (by first | exact F1.out ((putL_ne (i := 12) (by decide)).symm.trans h) | rfl), fun h => (by first | exact F2.out ((putL_ne (i := 12) (by decide)).symm.trans h) | rfl), fun h => (by first | exact F3.out ((putL_ne (i := 12) (by decide)).symm.trans h) | rfl), fun h => (by first | exact F4.out ((putL_ne (i := 12) (by decide)).symm.trans h) | rfl), fun h => (by first | exact F5.out ((putL_ne (i := 12) (by decide)).symm.trans h) | rfl), fun h => (by first | exact F6.out ((putL_ne (i := 12) (by decide)).symm.trans h) | rfl), fun h => (fun q => q.imp fun _ k => ⟨k.1, k.2.later hb⟩) (F7.out ((putL_ne (i := 12) (by decide)).symm.trans h)), fun h => (fun q => ⟨(by first | exact q.1 | rfl), q.2.later hb⟩) (F8.out ((putL_ne (i := 12) (by decide)).symm.trans h)), fun h => (by first | exact F9.out ((putL_ne (i := 12) (by decide)).symm.trans h) | rfl), fun h => (by first | exact F10.out ((putL_ne (i := 12) (by decide)).symm.trans h) | rfl), fun h => (by first | exact F11.out ((putL_ne (i := 12) (by decide)).symm.trans h) | rfl), fun _ => rfl, fun h => (fun q => q.later hb) (F13.out ((putL_ne (i := 12) (by decide)).symm.trans h))⟩
        · have f0 := F0.out (hanc 0 (by decide))
          have f1 := F1.out (hanc 1 (by decide))
          have f2 := F2.out (hanc 2 (by decide))
          have f3 := F3.out (hanc 3 (by decide))
          have f4 := F4.out (hanc 4 (by decide))
          have f5 := F5.out (hanc 5 (by decide))
          have f6 := F6.out (hanc 6 (by decide))
          have f7 := F7.out (hanc 7 (by decide))
          have f8 := F8.out (hanc 8 (by decide))
          have f9 := F9.out (hanc 9 (by decide))
          have f10 := F10.out (hanc 10 (by decide))
          have hun : L 13 = false := hLi
          have hz := E0.out hun
          have f := f10
          subst f
          refine wpOp_doG 13 (by rfl) (by rfl) ?_
          refine wpo_storeB 28 (.tmp 5) (.tmp 55) z 0 (stH 8 (noV, i64w (ak + ek)) nilS) (stH 8 (noV, ak) nilS) 28 infoSt (show 0 + 6 ≤ 6 by decide) (stH_one _ _ rfl) rfl rfl rfl hz.s ?_
          intro wn BP ho
          replace BP : Blk wn z (stH 8 (noV, i64w (ak + ek)) nilS) 28 := BP
          have BS := hz.s
          simp only [Act.put, List.setIfInBounds_toArray, List.set_cons_zero, List.set_cons_succ]
          show I (putL L 13) _ _
          exact (HI.out (putL L 13) _ _).2 ⟨_, _, _, _, _, _, _, _, _, _, _, _, _, vo9, q9, rfl, below_oth HS.out ho hz.z hz.z HS.out.size, fun h => (by rw [putL_self] at h; cases h), E1.out.oth ho (Ne.symm HQ0.out), fun h => (by first | exact F0.out ((putL_ne (i := 13) (by decide)).symm.trans h) | rfl), fun h => (by first | exact F1.out ((putL_ne (i := 13) (by decide)).symm.trans h) | rfl), fun h => (by first | exact F2.out ((putL_ne (i := 13) (by decide)).symm.trans h) | rfl), fun h => (by first | exact F3.out ((putL_ne (i := 13) (by decide)).symm.trans h) | rfl), fun h => (by first | exact F4.out ((putL_ne (i := 13) (by decide)).symm.trans h) | rfl), fun h => (by first | exact F5.out ((putL_ne (i := 13) (by decide)).symm.trans h) | rfl), fun h => (by first | exact F6.out ((putL_ne (i := 13) (by decide)).symm.trans h) | rfl), fun h => (fun q => q.imp fun _ k => ⟨k.1, k.2.oth ho BS (by decide)⟩) (F7.out ((putL_ne (i := 13) (by decide)).symm.trans h)), fun h => (fun q => ⟨(by first | exact q.1 | rfl), q.2.oth ho BS (by decide)⟩) (F8.out ((putL_ne (i := 13) (by decide)).symm.trans h)), fun h => (by first | exact F9.out ((putL_ne (i := 13) (by decide)).symm.trans h) | rfl), fun h => (by first | exact F10.out ((putL_ne (i := 13) (by decide)).symm.trans h) | rfl), fun h => (by first | exact F11.out ((putL_ne (i := 13) (by decide)).symm.trans h) | rfl), fun h => (by first | exact F12.out ((putL_ne (i := 13) (by decide)).symm.trans h) | rfl), fun _ => ⟨BP, hz.z⟩⟩
      · intro L act wx hall hIa
        obtain ⟨t46, t47, t48, t49, t50, t51, t52, t53, t54, t45, t55, t56, t57, vo9, q9, rfl, HS, E0, E1, F0, F1, F2, F3, F4, F5, F6, F7, F8, F9, F10, F11, F12, F13⟩ := (HI.out _ _ _).1 hIa
        have f0 := F0.out (hall 0 (by decide))
        have f1 := F1.out (hall 1 (by decide))
        have f2 := F2.out (hall 2 (by decide))
        have f3 := F3.out (hall 3 (by decide))
        have f4 := F4.out (hall 4 (by decide))
        have f5 := F5.out (hall 5 (by decide))
        have f6 := F6.out (hall 6 (by decide))
        have f7 := F7.out (hall 7 (by decide))
        have f8 := F8.out (hall 8 (by decide))
        have f9 := F9.out (hall 9 (by decide))
        have f10 := F10.out (hall 10 (by decide))
        have f11 := F11.out (hall 11 (by decide))
        have f12 := F12.out (hall 12 (by decide))
        have f13 := F13.out (hall 13 (by decide))
        clear hIa HI F0 F1 F2 F3 F4 F5 F6 F7 F8 F9 F10 F11 F12 F13
        show K9 _ _
        apply hK9
        clear hK9
        have HPb : Hid (Below w.heap.size w wx ∧ Hh 8 w wx t (noV, bk)) := ⟨HS.out, E1.out⟩
        have HPz : Hid (Hh 8 w wx z (noV, i64w (ak + ek))) := f13
        clear E0 E1 HS f0 f1 f2 f3 f4 f5 f6 f7 f8 f9 f10 f11 f12 f13
        generalize wx = w5 at HPb HPz ⊢
        go_wp2_with fail
        rename_i K9 hK9
        obtain ⟨I, hI⟩ : ∃ I : (Nat → Bool) → Act → World → Prop, ∀ L act wx, I L act wx ↔ (fun (L : Nat → Bool) (act : Act) (wx : World) => ∃ (t59 : Value) (t60 : Value) (t61 : Value) (t62 : Value) (t63 : Value) (t64 : Value) (t65 : Value) (t66 : Value) (t67 : Value) (t58 : Value) (t68 : Value) (t69 : Value) (t70 : Value) (vo9 : Value) (q9 : Nat), act = ⟨#[Value.slice (some ⟨b, o, none⟩) n c, Value.int .u8 (r : Int), undef, undef, Value.bool false, Value.pointer (some ⟨z, 0, none⟩), Value.bool true, Value.pointer (some ⟨t, 0, none⟩), Value.int .u64 sk, Value.int .i64 (k : Int), Value.int .i64 (j : Int), undef, undef, undef, undef, undef, undef, undef, Value.bool true, Value.bool false, Value.slice (some ⟨b, o, none⟩) n c, Value.int .i64 (n : Int), Value.bool (decide ((60 : Int) < (n : Int))), Value.bool (decide ((60 : Int) < (n : Int))), Value.slice (some ⟨b, o, none⟩) n c, Value.int .i64 (n : Int), Value.bool false, Value.bool (decide ((60 : Int) < (n : Int))), Value.tuple #[Value.agg #[Value.int .i64 8, Value.int .i64 0, Value.int .i64 0, Value.string noB, Value.int .i64 0, nilS], Value.bool true], Value.tuple #[Value.agg #[Value.int .i64 8, Value.int .i64 0, Value.int .i64 0, Value.string noB, Value.int .i64 0, nilS], Value.bool true], Value.agg #[Value.int .i64 8, Value.int .i64 0, Value.int .i64 0, Value.string noB, Value.int .i64 0, nilS], Value.bool true, Value.agg #[Value.int .i64 8, Value.int .i64 0, Value.int .i64 0, Value.string noB, Value.int .i64 0, Value.slice none 0 0], Value.slice (some ⟨b, o, none⟩) n c, Value.int .i64 (n : Int), Value.int .i64 (k : Int), Value.bool true, Value.int .i64 (k : Int), Value.int .i64 (k : Int), Value.int .u8 (r : Int), Value.int .i64 (r : Int), Value.int .i64 kr, Value.slice (some ⟨b, o, none⟩) n c, Value.int .i64 (n : Int), Value.int .i64 (j : Int), t45, t46, t47, t48, t49, t50, t51, t52, t53, t54, t55, t56, t57, t58, t59, t60, t61, t62, t63, t64, t65, t66, t67, t68, t69, t70, u71, u72, u73, u74, u75, u76, u77, u78, undef, undef, undef, undef, undef, undef, undef, undef, undef, undef, undef, undef, undef, undef, undef, undef, undef, undef, undef, undef, undef, undef, undef, undef, undef, undef, undef, undef, undef, undef, undef, undef], []⟩ ∧ Hid (StW w wx) ∧ Hid (L 13 = false → Hh 8 w wx t (noV, bk)) ∧ Hid (Hh 8 w wx z (noV, i64w (ak + ek))) ∧ Hid (L 0 = true → t59 = .agg (stH 8 (noV, bk) nilS).toArray) ∧ Hid (L 1 = true → t60 = .agg #[.int .i64 2, .int .i64 0, .string ⟨#[98]⟩]) ∧ Hid (L 2 = true → t61 = .slice (some ⟨b, o, none⟩) n c) ∧ Hid (L 3 = true → t62 = .int .i64 (j : Int)) ∧ Hid (L 4 = true → t63 = .pointer (some ⟨b, o + j, none⟩)) ∧ Hid (L 5 = true → t64 = .int .i64 ej) ∧ Hid (L 6 = true → t65 = .agg #[.int .i64 1, .int .i64 ej, .string noB]) ∧ Hid (L 7 = true → ∃ q8 : Nat, t66 = .slice (some ⟨q8, 0, none⟩) 1 1 ∧ OwnV wx w.heap.size t66 [(vN' ej)]) ∧ Hid (L 8 = true → t67 = .tuple #[.agg (stH 8 (noV, i64w (bk + ej)) nilS).toArray, vo9, .bool true] ∧ OwnV wx w.heap.size vo9 []) ∧ Hid (L 9 = true → t58 = .tuple #[.agg (stH 8 (noV, i64w (bk + ej)) nilS).toArray, vo9, .bool true]) ∧ Hid (L 10 = true → t68 = .agg (stH 8 (noV, i64w (bk + ej)) nilS).toArray) ∧ Hid (L 11 = true → t69 = vo9) ∧ Hid (L 12 = true → t70 = .bool true) ∧ Hid (L 13 = true → Hh 8 w wx t (noV, i64w (bk + ej)))) L act wx := ⟨_, fun _ _ _ => Iff.rfl⟩
        dsimp only at hI
        have HI : Hid (∀ L act wx, I L act wx ↔ _) := hI
        clear hI
        refine wp_region_inv mixed [[], [], [], [], [2, 3], [2, 3, 4], [2, 3, 4, 5], [2, 3, 4, 5, 6], [0, 1, 2, 3, 4, 5, 6, 7], [0, 1, 2, 3, 4, 5, 6, 7, 8], [0, 1, 2, 3, 4, 5, 6, 7, 8, 9], [0, 1, 2, 3, 4, 5, 6, 7, 8, 9], [0, 1, 2, 3, 4, 5, 6, 7, 8, 9], [0, 1, 2, 3, 4, 5, 6, 7, 8, 9, 10]] (by kernel_rfl) I ?_ ?_ ?_
        · refine (HI.out _ _ _).2 ⟨_, _, _, _, _, _, _, _, _, _, _, _, _, undef, 0, rfl, ?_, ?_, ?_, fun h => Bool.noConfusion h, fun h => Bool.noConfusion h, fun h => Bool.noConfusion h, fun h => Bool.noConfusion h, fun h => Bool.noConfusion h, fun h => Bool.noConfusion h, fun h => Bool.noConfusion h, fun h => Bool.noConfusion h, fun h => Bool.noConfusion h, fun h => Bool.noConfusion h, fun h => Bool.noConfusion h, fun h => Bool.noConfusion h, fun h => Bool.noConfusion h, fun h => Bool.noConfusion h⟩
          · exact below_next HPb.out.1 (Stay.drew _)
          · exact fun _ => HPb.out.2.later (Stay.drew _)
          · exact HPz.out.later (Stay.drew _)
        · intro i hi L act wx hIa hLi hcl hanc
          obtain ⟨t59, t60, t61, t62, t63, t64, t65, t66, t67, t58, t68, t69, t70, vo9, q9, rfl, HS, E0, E1, F0, F1, F2, F3, F4, F5, F6, F7, F8, F9, F10, F11, F12, F13⟩ := (HI.out _ _ _).1 hIa
          clear hIa
          have hi' : i = 0 ∨ i = 1 ∨ i = 2 ∨ i = 3 ∨ i = 4 ∨ i = 5 ∨ i = 6 ∨ i = 7 ∨ i = 8 ∨ i = 9 ∨ i = 10 ∨ i = 11 ∨ i = 12 ∨ i = 13 := by have hi : i < 14 := hi; omega
          clear hi
          rcases hi' with rfl | rfl | rfl | rfl | rfl | rfl | rfl | rfl | rfl | rfl | rfl | rfl | rfl | rfl
          · have hun : L 13 = false := by
              cases h : L 13
              · rfl
              · exact absurd (hcl 13 h 0 (by decide)) (by rw [hLi]; decide)
            have hz := E0.out hun
            refine wpOp_doG 0 (by rfl) (by rfl) ?_
            refine wp_load_mid 28 (.tmp 7) rfl t 0 rfl (stH 8 (noV, bk) nilS) _ (Blk.all hz.s) Tryd.underlying28 rfl infoSt ?_
            simp only [Act.put, List.setIfInBounds_toArray, List.set_cons_zero, List.set_cons_succ]
            have hb : Below wx.heap.size wx wx := Below.refl _ _
            show I (putL L 0) _ _
            exact (HI.out (putL L 0) _ _).2 ⟨_, _, _, _, _, _, _, _, _, _, _, _, _, vo9, q9, rfl, HS.out.later hb, fun h => (E0.out ((putL_ne (i := 0) (by decide)).symm.trans h)).later hb, E1.out.later hb, fun _ => rfl, fun h => (by first | exact F1.out ((putL_ne (i := 0) (by decide)).symm.trans h) | rfl), fun h => (by first | exact F2.out ((putL_ne (i := 0) (by decide)).symm.trans h) | rfl), fun h => (by first | exact F3.out ((putL_ne (i := 0) (by decide)).symm.trans h) | rfl), fun h => (by first | exact F4.out ((putL_ne (i := 0) (by decide)).symm.trans h) | rfl), fun h => (by first | exact F5.out ((putL_ne (i := 0) (by decide)).symm.trans h) | rfl), fun h => (by first | exact F6.out ((putL_ne (i := 0) (by decide)).symm.trans h) | rfl), fun h => (fun q => q.imp fun _ k => ⟨k.1, k.2.later hb⟩) (F7.out ((putL_ne (i := 0) (by decide)).symm.trans h)), fun h => absurd (hcl 8 ((putL_ne (i := 0) (by decide)).symm.trans h) 0 (by decide)) (by rw [hLi]; decide), fun h => absurd (hcl 9 ((putL_ne (i := 0) (by decide)).symm.trans h) 0 (by decide)) (by rw [hLi]; decide), fun h => absurd (hcl 10 ((putL_ne (i := 0) (by decide)).symm.trans h) 0 (by decide)) (by rw [hLi]; decide), fun h => absurd (hcl 11 ((putL_ne (i := 0) (by decide)).symm.trans h) 0 (by decide)) (by rw [hLi]; decide), fun h => absurd (hcl 12 ((putL_ne (i := 0) (by decide)).symm.trans h) 0 (by decide)) (by rw [hLi]; decide), fun h => absurd (hcl 13 ((putL_ne (i := 0) (by decide)).symm.trans h) 0 (by decide)) (by rw [hLi]; decide)⟩
          · refine wpOp_doG 1 (by rfl) (by rfl) ?_
            go_wp2_with fail
            refine (who_any ⟨#[98]⟩ wx).mono ?_
            rintro e9 wn ⟨rfl, hb⟩
            show I (putL L 1) _ _
            exact (HI.out (putL L 1) _ _).2 ⟨_, _, _, _, _, _, _, _, _, _, _, _, _, vo9, q9, rfl, HS.out.later hb, fun h => (E0.out ((putL_ne (i := 1) (by decide)).symm.trans h)).later hb, E1.out.later hb, fun h => (by first | exact F0.out ((putL_ne (i := 1) (by decide)).symm.trans h) | rfl), fun _ => rfl, fun h => (by first | exact F2.out ((putL_ne (i := 1) (by decide)).symm.trans h) | rfl), fun h => (by first | exact F3.out ((putL_ne (i := 1) (by decide)).symm.trans h) | rfl), fun h => (by first | exact F4.out ((putL_ne (i := 1) (by decide)).symm.trans h) | rfl), fun h => (by first | exact F5.out ((putL_ne (i := 1) (by decide)).symm.trans h) | rfl), fun h => (by first | exact F6.out ((putL_ne (i := 1) (by decide)).symm.trans h) | rfl), fun h => (fun q => q.imp fun _ k => ⟨k.1, k.2.later hb⟩) (F7.out ((putL_ne (i := 1) (by decide)).symm.trans h)), fun h => absurd (hcl 8 ((putL_ne (i := 1) (by decide)).symm.trans h) 1 (by decide)) (by rw [hLi]; decide), fun h => absurd (hcl 9 ((putL_ne (i := 1) (by decide)).symm.trans h) 1 (by decide)) (by rw [hLi]; decide), fun h => absurd (hcl 10 ((putL_ne (i := 1) (by decide)).symm.trans h) 1 (by decide)) (by rw [hLi]; decide), fun h => absurd (hcl 11 ((putL_ne (i := 1) (by decide)).symm.trans h) 1 (by decide)) (by rw [hLi]; decide), fun h => absurd (hcl 12 ((putL_ne (i := 1) (by decide)).symm.trans h) 1 (by decide)) (by rw [hLi]; decide), fun h => absurd (hcl 13 ((putL_ne (i := 1) (by decide)).symm.trans h) 1 (by decide)) (by rw [hLi]; decide)⟩
          · refine YieldsIf.wpOp (S := fun _ => True) (v := .slice (some ⟨b, o, none⟩) n c) (by rfl) (.inl ⟨rfl, fun w _ => rfl⟩) trivial ?_
            simp only [Act.put, List.setIfInBounds_toArray, List.set_cons_zero, List.set_cons_succ]
            have hb : Below wx.heap.size wx wx := Below.refl _ _
            show I (putL L 2) _ _
            exact (HI.out (putL L 2) _ _).2 ⟨_, _, _, _, _, _, _, _, _, _, _, _, _, vo9, q9, rfl, HS.out.later hb, fun h => (E0.out ((putL_ne (i := 2) (by decide)).symm.trans h)).later hb, E1.out.later hb, fun h => (by first | exact F0.out ((putL_ne (i := 2) (by decide)).symm.trans h) | rfl), fun h => (by first | exact F1.out ((putL_ne (i := 2) (by decide)).symm.trans h) | rfl), fun _ => rfl, fun h => (by first | exact F3.out ((putL_ne (i := 2) (by decide)).symm.trans h) | rfl), fun h => absurd (hcl 4 ((putL_ne (i := 2) (by decide)).symm.trans h) 2 (by decide)) (by rw [hLi]; decide), fun h => absurd (hcl 5 ((putL_ne (i := 2) (by decide)).symm.trans h) 2 (by decide)) (by rw [hLi]; decide), fun h => absurd (hcl 6 ((putL_ne (i := 2) (by decide)).symm.trans h) 2 (by decide)) (by rw [hLi]; decide), fun h => absurd (hcl 7 ((putL_ne (i := 2) (by decide)).symm.trans h) 2 (by decide)) (by rw [hLi]; decide), fun h => absurd (hcl 8 ((putL_ne (i := 2) (by decide)).symm.trans h) 2 (by decide)) (by rw [hLi]; decide), fun h => absurd (hcl 9 ((putL_ne (i := 2) (by decide)).symm.trans h) 2 (by decide)) (by rw [hLi]; decide), fun h => absurd (hcl 10 ((putL_ne (i := 2) (by decide)).symm.trans h) 2 (by decide)) (by rw [hLi]; decide), fun h => absurd (hcl 11 ((putL_ne (i := 2) (by decide)).symm.trans h) 2 (by decide)) (by rw [hLi]; decide), fun h => absurd (hcl 12 ((putL_ne (i := 2) (by decide)).symm.trans h) 2 (by decide)) (by rw [hLi]; decide), fun h => absurd (hcl 13 ((putL_ne (i := 2) (by decide)).symm.trans h) 2 (by decide)) (by rw [hLi]; decide)⟩
          · refine YieldsIf.wpOp (S := fun _ => True) (v := .int .i64 (j : Int)) (by rfl) (.inl ⟨rfl, fun w _ => rfl⟩) trivial ?_
            simp only [Act.put, List.setIfInBounds_toArray, List.set_cons_zero, List.set_cons_succ]
            have hb : Below wx.heap.size wx wx := Below.refl _ _
            show I (putL L 3) _ _
            exact (HI.out (putL L 3) _ _).2 ⟨_, _, _, _, _, _, _, _, _, _, _, _, _, vo9, q9, rfl, HS.out.later hb, fun h => (E0.out ((putL_ne (i := 3) (by decide)).symm.trans h)).later hb, E1.out.later hb, fun h => (by first | exact F0.out ((putL_ne (i := 3) (by decide)).symm.trans h) | rfl), fun h => (by first | exact F1.out ((putL_ne (i := 3) (by decide)).symm.trans h) | rfl), fun h => (by first | exact F2.out ((putL_ne (i := 3) (by decide)).symm.trans h) | rfl), fun _ => rfl, fun h => absurd (hcl 4 ((putL_ne (i := 3) (by decide)).symm.trans h) 3 (by decide)) (by rw [hLi]; decide), fun h => absurd (hcl 5 ((putL_ne (i := 3) (by decide)).symm.trans h) 3 (by decide)) (by rw [hLi]; decide), fun h => absurd (hcl 6 ((putL_ne (i := 3) (by decide)).symm.trans h) 3 (by decide)) (by rw [hLi]; decide), fun h => absurd (hcl 7 ((putL_ne (i := 3) (by decide)).symm.trans h) 3 (by decide)) (by rw [hLi]; decide), fun h => absurd (hcl 8 ((putL_ne (i := 3) (by decide)).symm.trans h) 3 (by decide)) (by rw [hLi]; decide), fun h => absurd (hcl 9 ((putL_ne (i := 3) (by decide)).symm.trans h) 3 (by decide)) (by rw [hLi]; decide), fun h => absurd (hcl 10 ((putL_ne (i := 3) (by decide)).symm.trans h) 3 (by decide)) (by rw [hLi]; decide), fun h => absurd (hcl 11 ((putL_ne (i := 3) (by decide)).symm.trans h) 3 (by decide)) (by rw [hLi]; decide), fun h => absurd (hcl 12 ((putL_ne (i := 3) (by decide)).symm.trans h) 3 (by decide)) (by rw [hLi]; decide), fun h => absurd (hcl 13 ((putL_ne (i := 3) (by decide)).symm.trans h) 3 (by decide)) (by rw [hLi]; decide)⟩
          · have f2 := F2.out (hanc 2 (by decide))
            have f3 := F3.out (hanc 3 (by decide))
            have g2 := f2
            subst g2
            have g3 := f3
            subst g3
            refine wpOp_doG 4 (by rfl) (by rfl) ?_
            go_wp2_with fail
            have hb : Below wx.heap.size wx wx := Below.refl _ _
            show I (putL L 4) _ _
            exact (HI.out (putL L 4) _ _).2 ⟨_, _, _, _, _, _, _, _, _, _, _, _, _, vo9, q9, rfl, HS.out.later hb, fun h => (E0.out ((putL_ne (i := 4) (by decide)).symm.trans h)).later hb, E1.out.later hb, fun h => (by first | exact F0.out ((putL_ne (i := 4) (by decide)).symm.trans h) | rfl), fun h => (by first | exact F1.out ((putL_ne (i := 4) (by decide)).symm.trans h) | rfl), fun h => (by first | exact F2.out ((putL_ne (i := 4) (by decide)).symm.trans h) | rfl), fun h => (by first | exact F3.out ((putL_ne (i := 4) (by decide)).symm.trans h) | rfl), fun _ => rfl, fun h => absurd (hcl 5 ((putL_ne (i := 4) (by decide)).symm.trans h) 4 (by decide)) (by rw [hLi]; decide), fun h => absurd (hcl 6 ((putL_ne (i := 4) (by decide)).symm.trans h) 4 (by decide)) (by rw [hLi]; decide), fun h => absurd (hcl 7 ((putL_ne (i := 4) (by decide)).symm.trans h) 4 (by decide)) (by rw [hLi]; decide), fun h => absurd (hcl 8 ((putL_ne (i := 4) (by decide)).symm.trans h) 4 (by decide)) (by rw [hLi]; decide), fun h => absurd (hcl 9 ((putL_ne (i := 4) (by decide)).symm.trans h) 4 (by decide)) (by rw [hLi]; decide), fun h => absurd (hcl 10 ((putL_ne (i := 4) (by decide)).symm.trans h) 4 (by decide)) (by rw [hLi]; decide), fun h => absurd (hcl 11 ((putL_ne (i := 4) (by decide)).symm.trans h) 4 (by decide)) (by rw [hLi]; decide), fun h => absurd (hcl 12 ((putL_ne (i := 4) (by decide)).symm.trans h) 4 (by decide)) (by rw [hLi]; decide), fun h => absurd (hcl 13 ((putL_ne (i := 4) (by decide)).symm.trans h) 4 (by decide)) (by rw [hLi]; decide)⟩
          · have f2 := F2.out (hanc 2 (by decide))
            have f3 := F3.out (hanc 3 (by decide))
            have f4 := F4.out (hanc 4 (by decide))
            have g4 := f4
            subst g4
            refine wpOp_doG 5 (by rfl) (by rfl) ?_
            have c9 := ((show Below w.heap.size w wx from HS.out).cell (p := ⟨b, o + j, none⟩) HLt.out).trans HCj.out
            go_wp2_with fail
            have hb : Below wx.heap.size wx wx := Below.refl _ _
            show I (putL L 5) _ _
            exact (HI.out (putL L 5) _ _).2 ⟨_, _, _, _, _, _, _, _, _, _, _, _, _, vo9, q9, rfl, HS.out.later hb, fun h => (E0.out ((putL_ne (i := 5) (by decide)).symm.trans h)).later hb, E1.out.later hb, fun h => (by first | exact F0.out ((putL_ne (i := 5) (by decide)).symm.trans h) | rfl), fun h => (by first | exact F1.out ((putL_ne (i := 5) (by decide)).symm.trans h) | rfl), fun h => (by first | exact F2.out ((putL_ne (i := 5) (by decide)).symm.trans h) | rfl), fun h => (by first | exact F3.out ((putL_ne (i := 5) (by decide)).symm.trans h) | rfl), fun h => (by first | exact F4.out ((putL_ne (i := 5) (by decide)).symm.trans h) | rfl), fun _ => rfl, fun h => absurd (hcl 6 ((putL_ne (i := 5) (by decide)).symm.trans h) 5 (by decide)) (by rw [hLi]; decide), fun h => absurd (hcl 7 ((putL_ne (i := 5) (by decide)).symm.trans h) 5 (by decide)) (by rw [hLi]; decide), fun h => absurd (hcl 8 ((putL_ne (i := 5) (by decide)).symm.trans h) 5 (by decide)) (by rw [hLi]; decide), fun h => absurd (hcl 9 ((putL_ne (i := 5) (by decide)).symm.trans h) 5 (by decide)) (by rw [hLi]; decide), fun h => absurd (hcl 10 ((putL_ne (i := 5) (by decide)).symm.trans h) 5 (by decide)) (by rw [hLi]; decide), fun h => absurd (hcl 11 ((putL_ne (i := 5) (by decide)).symm.trans h) 5 (by decide)) (by rw [hLi]; decide), fun h => absurd (hcl 12 ((putL_ne (i := 5) (by decide)).symm.trans h) 5 (by decide)) (by rw [hLi]; decide), fun h => absurd (hcl 13 ((putL_ne (i := 5) (by decide)).symm.trans h) 5 (by decide)) (by rw [hLi]; decide)⟩
          · have f2 := F2.out (hanc 2 (by decide))
            have f3 := F3.out (hanc 3 (by decide))
            have f4 := F4.out (hanc 4 (by decide))
            have f5 := F5.out (hanc 5 (by decide))
            have g5 := f5
            subst g5
            refine wpOp_doG 6 (by rfl) (by rfl) ?_
            go_wp2_with fail
            have hb : Below wx.heap.size wx wx := Below.refl _ _
            show I (putL L 6) _ _
            exact (HI.out (putL L 6) _ _).2 ⟨_, _, _, _, _, _, _, _, _, _, _, _, _, vo9, q9, rfl, HS.out.later hb, fun h => (E0.out ((putL_ne (i := 6) (by decide)).symm.trans h)).later hb, E1.out.later hb, fun h => (by first | exact F0.out ((putL_ne (i := 6) (by decide)).symm.trans h) | rfl), fun h => (by first | exact F1.out ((putL_ne (i := 6) (by decide)).symm.trans h) | rfl), fun h => (by first | exact F2.out ((putL_ne (i := 6) (by decide)).symm.trans h) | rfl), fun h => (by first | exact F3.out ((putL_ne (i := 6) (by decide)).symm.trans h) | rfl), fun h => (by first | exact F4.out ((putL_ne (i := 6) (by decide)).symm.trans h) | rfl), fun h => (by first | exact F5.out ((putL_ne (i := 6) (by decide)).symm.trans h) | rfl), fun _ => rfl, fun h => absurd (hcl 7 ((putL_ne (i := 6) (by decide)).symm.trans h) 6 (by decide)) (by rw [hLi]; decide), fun h => absurd (hcl 8 ((putL_ne (i := 6) (by decide)).symm.trans h) 6 (by decide)) (by rw [hLi]; decide), fun h => absurd (hcl 9 ((putL_ne (i := 6) (by decide)).symm.trans h) 6 (by decide)) (by rw [hLi]; decide), fun h => absurd (hcl 10 ((putL_ne (i := 6) (by decide)).symm.trans h) 6 (by decide)) (by rw [hLi]; decide), fun h => absurd (hcl 11 ((putL_ne (i := 6) (by decide)).symm.trans h) 6 (by decide)) (by rw [hLi]; decide), fun h => absurd (hcl 12 ((putL_ne (i := 6) (by decide)).symm.trans h) 6 (by decide)) (by rw [hLi]; decide), fun h => absurd (hcl 13 ((putL_ne (i := 6) (by decide)).symm.trans h) 6 (by decide)) (by rw [hLi]; decide)⟩
          · have f2 := F2.out (hanc 2 (by decide))
            have f3 := F3.out (hanc 3 (by decide))
            have f4 := F4.out (hanc 4 (by decide))
            have f5 := F5.out (hanc 5 (by decide))
            have f6 := F6.out (hanc 6 (by decide))
            have f := f6
            subst f
            refine wpOp_doG 7 (by rfl) (by rfl) ?_
            go_wp2_with fail
            have HV9 := own_one wx w.heap.size HS.out.size (vN' ej)
            have hb := below_box wx (.cells (encV (vN' ej)).toArray 25)
            change OwnV (wx.alloc (.cells #[.int .i64 1, .int .i64 ej, .string noB] 25)) _ _ _ at HV9
            change Below _ wx (wx.alloc (.cells #[.int .i64 1, .int .i64 ej, .string noB] 25)) at hb
            show I (putL L 7) _ _
            exact (HI.out (putL L 7) _ _).2 ⟨_, _, _, _, _, _, _, _, _, _, _, _, _, vo9, q9, rfl, HS.out.later hb, fun h => (E0.out ((putL_ne (i := 7) (by decide)).symm.trans h)).later hb, E1.out.later hb, fun h => (by first | exact F0.out ((putL_ne (i := 7) (by decide)).symm.trans h) | rfl), fun h => (by first | exact F1.out ((putL_ne (i := 7) (by decide)).symm.trans h) | rfl), fun h => (by first | exact F2.out ((putL_ne (i := 7) (by decide)).symm.trans h) | rfl), fun h => (by first | exact F3.out ((putL_ne (i := 7) (by decide)).symm.trans h) | rfl), fun h => (by first | exact F4.out ((putL_ne (i := 7) (by decide)).symm.trans h) | rfl), fun h => (by first | exact F5.out ((putL_ne (i := 7) (by decide)).symm.trans h) | rfl), fun h => (by first | exact F6.out ((putL_ne (i := 7) (by decide)).symm.trans h) | rfl), fun _ => ⟨_, rfl, HV9⟩, fun h => absurd (hcl 8 ((putL_ne (i := 7) (by decide)).symm.trans h) 7 (by decide)) (by rw [hLi]; decide), fun h => absurd (hcl 9 ((putL_ne (i := 7) (by decide)).symm.trans h) 7 (by decide)) (by rw [hLi]; decide), fun h => absurd (hcl 10 ((putL_ne (i := 7) (by decide)).symm.trans h) 7 (by decide)) (by rw [hLi]; decide), fun h => absurd (hcl 11 ((putL_ne (i := 7) (by decide)).symm.trans h) 7 (by decide)) (by rw [hLi]; decide), fun h => absurd (hcl 12 ((putL_ne (i := 7) (by decide)).symm.trans h) 7 (by decide)) (by rw [hLi]; decide), fun h => absurd (hcl 13 ((putL_ne (i := 7) (by decide)).symm.trans h) 7 (by decide)) (by rw [hLi]; decide)⟩
          · have f0 := F0.out (hanc 0 (by decide))
            have f1 := F1.out (hanc 1 (by decide))
            have f2 := F2.out (hanc 2 (by decide))
            have f3 := F3.out (hanc 3 (by decide))
            have f4 := F4.out (hanc 4 (by decide))
            have f5 := F5.out (hanc 5 (by decide))
            have f6 := F6.out (hanc 6 (by decide))
            have f7 := F7.out (hanc 7 (by decide))
            have g0 := f0
            have g1 := f1
            subst g0 g1
            obtain ⟨q8, g3, hv8⟩ := f7
            subst g3
            refine wpOp_doG 8 (by rfl) (by rfl) ?_
            go_wp2_with fail
            refine (HK.out.yes 8 (noV, bk) cB 4 (.slice (some ⟨q8, 0, none⟩) 1 1) [(vN' ej)] wx (HT.out.later HS.out) hv8.vsl (sz1 _ (Nat.zero_le _)) (by decide) HM.out (mayAB ej) (okX_8 _)).mono ?_
            rintro e9 wn ⟨vo, rfl, ho9, hb⟩
            have ho9 := ho9.base HS.out.size
            rw [ou_add bk ej cB] at ho9
            rw [nx_add bk ej cB]
            show I (putL L 8) _ _
            exact (HI.out (putL L 8) _ _).2 ⟨_, _, _, _, _, _, _, _, _, _, _, _, _, vo, q9, rfl, HS.out.later hb, fun h => (E0.out ((putL_ne (i := 8) (by decide)).symm.trans h)).later hb, E1.out.later hb, fun h => (by first | exact F0.out ((putL_ne (i := 8) (by decide)).symm.trans h) | rfl), fun h => (by first | exact F1.out ((putL_ne (i := 8) (by decide)).symm.trans h) | rfl), fun h => (by first | exact F2.out ((putL_ne (i := 8) (by decide)).symm.trans h) | rfl), fun h => (by first | exact F3.out ((putL_ne (i := 8) (by decide)).symm.trans h) | rfl), fun h => (by first | exact F4.out ((putL_ne (i := 8) (by decide)).symm.trans h) | rfl), fun h => (by first | exact F5.out ((putL_ne (i := 8) (by decide)).symm.trans h) | rfl), fun h => (by first | exact F6.out ((putL_ne (i := 8) (by decide)).symm.trans h) | rfl), fun h => (fun q => q.imp fun _ k => ⟨k.1, k.2.later hb⟩) (F7.out ((putL_ne (i := 8) (by decide)).symm.trans h)), fun _ => ⟨rfl, ho9⟩, fun h => absurd (hcl 9 ((putL_ne (i := 8) (by decide)).symm.trans h) 8 (by decide)) (by rw [hLi]; decide), fun h => absurd (hcl 10 ((putL_ne (i := 8) (by decide)).symm.trans h) 8 (by decide)) (by rw [hLi]; decide), fun h => absurd (hcl 11 ((putL_ne (i := 8) (by decide)).symm.trans h) 8 (by decide)) (by rw [hLi]; decide), fun h => absurd (hcl 12 ((putL_ne (i := 8) (by decide)).symm.trans h) 8 (by decide)) (by rw [hLi]; decide), fun h => absurd (hcl 13 ((putL_ne (i := 8) (by decide)).symm.trans h) 8 (by decide)) (by rw [hLi]; decide)⟩
          · have f0 := F0.out (hanc 0 (by decide))
            have f1 := F1.out (hanc 1 (by decide))
            have f2 := F2.out (hanc 2 (by decide))
            have f3 := F3.out (hanc 3 (by decide))
            have f4 := F4.out (hanc 4 (by decide))
            have f5 := F5.out (hanc 5 (by decide))
            have f6 := F6.out (hanc 6 (by decide))
            have f7 := F7.out (hanc 7 (by decide))
            have f8 := F8.out (hanc 8 (by decide))
            have f := f8.1
            subst f
            refine YieldsIf.wpOp (S := fun _ => True) (v := .tuple #[.agg (stH 8 (noV, i64w (bk + ej)) nilS).toArray, vo9, .bool true]) (by rfl) (.inl ⟨rfl, fun w _ => rfl⟩) trivial ?_
            simp only [Act.put, List.setIfInBounds_toArray, List.set_cons_zero, List.set_cons_succ]
            have hb : Below wx.heap.size wx wx := Below.refl _ _
            show I (putL L 9) _ _
            exact (HI.out (putL L 9) _ _).2 ⟨_, _, _, _, _, _, _, _, _, _, _, _, _, vo9, q9, rfl, HS.out.later hb, fun h => (E0.out ((putL_ne (i := 9) (by decide)).symm.trans h)).later hb, E1.out.later hb, fun h => (by first | exact F0.out ((putL_ne (i := 9) (by decide)).symm.trans h) | rfl), fun h => (by first | exact F1.out ((putL_ne (i := 9) (by decide)).symm.trans h) | rfl), fun h => (by first | exact F2.out ((putL_ne (i := 9) (by decide)).symm.trans h) | rfl), fun h => (by first | exact F3.out ((putL_ne (i := 9) (by decide)).symm.trans h) | rfl), fun h => (by first | exact F4.out ((putL_ne (i := 9) (by decide)).symm.trans h) | rfl), fun h => (by first | exact F5.out ((putL_ne (i := 9) (by decide)).symm.trans h) | rfl), fun h => (by first | exact F6.out ((putL_ne (i := 9) (by decide)).symm.trans h) | rfl), fun h => (fun q => q.imp fun _ k => ⟨k.1, k.2.later hb⟩) (F7.out ((putL_ne (i := 9) (by decide)).symm.trans h)), fun h => (fun q => ⟨(by first | exact q.1 | rfl), q.2.later hb⟩) (F8.out ((putL_ne (i := 9) (by decide)).symm.trans h)), fun _ => rfl, fun h => absurd (hcl 10 ((putL_ne (i := 9) (by decide)).symm.trans h) 9 (by decide)) (by rw [hLi]; decide), fun h => absurd (hcl 11 ((putL_ne (i := 9) (by decide)).symm.trans h) 9 (by decide)) (by rw [hLi]; decide), fun h => absurd (hcl 12 ((putL_ne (i := 9) (by decide)).symm.trans h) 9 (by decide)) (by rw [hLi]; decide), fun h => absurd (hcl 13 ((putL_ne (i := 9) (by decide)).symm.trans h) 9 (by decide)) (by rw [hLi]; decide)⟩
          · have f0 := F0.out (hanc 0 (by decide))
            have f1 := F1.out (hanc 1 (by decide))
            have f2 := F2.out (hanc 2 (by decide))
            have f3 := F3.out (hanc 3 (by decide))
            have f4 := F4.out (hanc 4 (by decide))
            have f5 := F5.out (hanc 5 (by decide))
            have f6 := F6.out (hanc 6 (by decide))
            have f7 := F7.out (hanc 7 (by decide))
            have f8 := F8.out (hanc 8 (by decide))
            have f9 := F9.out (hanc 9 (by decide))
            have f := f9
            subst f
            refine YieldsIf.wpOp (S := fun _ => True) (v := .agg (stH 8 (noV, i64w (bk + ej)) nilS).toArray) (by rfl) (.inl ⟨rfl, fun w _ => by go_simp⟩) trivial ?_
            simp only [Act.put, List.setIfInBounds_toArray, List.set_cons_zero, List.set_cons_succ]
            have hb : Below wx.heap.size wx wx := Below.refl _ _
            show I (putL L 10) _ _
            exact (HI.out (putL L 10) _ _).2 ⟨_, _, _, _, _, _, _, _, _, _, _, _, _, vo9, q9, rfl, HS.out.later hb, fun h => (E0.out ((putL_ne (i := 10) (by decide)).symm.trans h)).later hb, E1.out.later hb, fun h => (by first | exact F0.out ((putL_ne (i := 10) (by decide)).symm.trans h) | rfl), fun h => (by first | exact F1.out ((putL_ne (i := 10) (by decide)).symm.trans h) | rfl), fun h => (by first | exact F2.out ((putL_ne (i := 10) (by decide)).symm.trans h) | rfl), fun h => (by first | exact F3.out ((putL_ne (i := 10) (by decide)).symm.trans h) | rfl), fun h => (by first | exact F4.out ((putL_ne (i := 10) (by decide)).symm.trans h) | rfl), fun h => (by first | exact F5.out ((putL_ne (i := 10) (by decide)).symm.trans h) | rfl), fun h => (by first | exact F6.out ((putL_ne (i := 10) (by decide)).symm.trans h) | rfl), fun h => (fun q => q.imp fun _ k => ⟨k.1, k.2.later hb⟩) (F7.out ((putL_ne (i := 10) (by decide)).symm.trans h)), fun h => (fun q => ⟨(by first | exact q.1 | rfl), q.2.later hb⟩) (F8.out ((putL_ne (i := 10) (by decide)).symm.trans h)), fun h => (by first | exact F9.out ((putL_ne (i := 10) (by decide)).symm.trans h) | rfl), fun _ => rfl, fun h => (by first | exact F11.out ((putL_ne (i := 10) (by decide)).symm.trans h) | rfl), fun h => (by first | exact F12.out ((putL_ne (i := 10) (by decide)).symm.trans h) | rfl), fun h => absurd (hcl 13 ((putL_ne (i := 10) (by decide)).symm.trans h) 10 (by decide)) (by rw [hLi]; decide)⟩
          · have f0 := F0.out (hanc 0 (by decide))
            have f1 := F1.out (hanc 1 (by decide))
            have f2 := F2.out (hanc 2 (by decide))
            have f3 := F3.out (hanc 3 (by decide))
            have f4 := F4.out (hanc 4 (by decide))
            have f5 := F5.out (hanc 5 (by decide))
            have f6 := F6.out (hanc 6 (by decide))
            have f7 := F7.out (hanc 7 (by decide))
            have f8 := F8.out (hanc 8 (by decide))
            have f9 := F9.out (hanc 9 (by decide))
            have f := f9
            subst f
            refine YieldsIf.wpOp (S := fun _ => True) (v := vo9) (by rfl) (.inl ⟨rfl, fun w _ => by go_simp⟩) trivial ?_
            simp only [Act.put, List.setIfInBounds_toArray, List.set_cons_zero, List.set_cons_succ]
            have hb : Below wx.heap.size wx wx := Below.refl _ _
            show I (putL L 11) _ _
            exact (HI.out (putL L 11) _ _).2 ⟨_, _, _, _, _, _, _, _, _, _, _, _, _, vo9, q9, rfl, HS.out.later hb, fun h => (E0.out ((putL_ne (i := 11) (by decide)).symm.trans h)).later hb, E1.out.later hb, fun h => (by first | exact F0.out ((putL_ne (i := 11) (by decide)).symm.trans h) | rfl), fun h => (by first | exact F1.out ((putL_ne (i := 11) (by decide)).symm.trans h) | rfl), fun h => (by first | exact F2.out ((putL_ne (i := 11) (by decide)).symm.trans h) | rfl), fun h => (by first | exact F3.out ((putL_ne (i := 11) (by decide)).symm.trans h) | rfl), fun h => (by first | exact F4.out ((putL_ne (i := 11) (by decide)).symm.trans h) | rfl), fun h => (by first | exact F5.out ((putL_ne (i := 11) (by decide)).symm.trans h) | rfl), fun h => (by first | exact F6.out ((putL_ne (i := 11) (by decide)).symm.trans h) | rfl), fun h => (fun q => q.imp fun _ k => ⟨k.1, k.2.later hb⟩) (F7.out ((putL_ne (i := 11) (by decide)).symm.trans h)), fun h => (fun q => ⟨(by first | exact q.1 | rfl), q.2.later hb⟩) (F8.out ((putL_ne (i := 11) (by decide)).symm.trans h)), fun h => (by first | exact F9.out ((putL_ne (i := 11) (by decide)).symm.trans h) | rfl), fun h => (by first | exact F10.out ((putL_ne (i := 11) (by decide)).symm.trans h) | rfl), fun _ => rfl, fun h => (by first | exact F12.out ((putL_ne (i := 11) (by decide)).symm.trans h) | rfl), fun h => (fun q => q.later hb) (F13.out ((putL_ne (i := 11) (by decide)).symm.trans h))⟩
          · have f0 := F0.out (hanc 0 (by decide))
            have f1 := F1.out (hanc 1 (by decide))
            have f2 := F2.out (hanc 2 (by decide))
            have f3 := F3.out (hanc 3 (by decide))
            have f4 := F4.out (hanc 4 (by decide))
            have f5 := F5.out (hanc 5 (by decide))
            have f6 := F6.out (hanc 6 (by decide))
            have f7 := F7.out (hanc 7 (by decide))
            have f8 := F8.out (hanc 8 (by decide))
            have f9 := F9.out (hanc 9 (by decide))
            have f := f9
            subst f
            refine YieldsIf.wpOp (S := fun _ => True) (v := .bool true) (by rfl) (.inl ⟨rfl, fun w _ => by go_simp⟩) trivial ?_
            simp only [Act.put, List.setIfInBounds_toArray, List.set_cons_zero, List.set_cons_succ]
            have hb : Below wx.heap.size wx wx := Below.refl _ _
            show I (putL L 12) _ _
            exact (HI.out (putL L 12) _ _).2 ⟨_, _, _, _, _, _, _, _, _, _, _, _, _, vo9, q9, rfl, HS.out.later hb, fun h => (E0.out ((putL_ne (i := 12) (by decide)).symm.trans h)).later hb, E1.out.later hb, fun h => (by first | exact F0.out ((putL_ne (i := 12) (by decide)).symm.trans h) | rfl), fun h => (by first | exact F1.out ((putL_ne (i := 12) (by decide)).symm.trans h) | rfl), fun h => (by first | exact F2.out ((putL_ne (i := 12) (by decide)).symm.trans h) | rfl), fun h => (by first | exact F3.out ((putL_ne (i := 12) (by decide)).symm.trans h) | rfl), fun h => (by first | exact F4.out ((putL_ne (i := 12) (by decide)).symm.trans h) | rfl), fun h => (by first | exact F5.out ((putL_ne (i := 12) (by decide)).symm.trans h) | rfl), fun h => (by first | exact F6.out ((putL_ne (i := 12) (by decide)).symm.trans h) | rfl), fun h => (fun q => q.imp fun _ k => ⟨k.1, k.2.later hb⟩) (F7.out ((putL_ne (i := 12) (by decide)).symm.trans h)), fun h => (fun q => ⟨(by first | exact q.1 | rfl), q.2.later hb⟩) (F8.out ((putL_ne (i := 12) (by decide)).symm.trans h)), fun h => (by first | exact F9.out ((putL_ne (i := 12) (by decide)).symm.trans h) | rfl), fun h => (by first | exact F10.out ((putL_ne (i := 12) (by decide)).symm.trans h) | rfl), fun h => (by first | exact F11.out ((putL_ne (i := 12) (by decide)).symm.trans h) | rfl), fun _ => rfl, fun h => (fun q => q.later hb) (F13.out ((putL_ne (i := 12) (by decide)).symm.trans h))⟩
          · have f0 := F0.out (hanc 0 (by decide))
            have f1 := F1.out (hanc 1 (by decide))
            have f2 := F2.out (hanc 2 (by decide))
            have f3 := F3.out (hanc 3 (by decide))
            have f4 := F4.out (hanc 4 (by decide))
            have f5 := F5.out (hanc 5 (by decide))
            have f6 := F6.out (hanc 6 (by decide))
            have f7 := F7.out (hanc 7 (by decide))
            have f8 := F8.out (hanc 8 (by decide))
            have f9 := F9.out (hanc 9 (by decide))
            have f10 := F10.out (hanc 10 (by decide))
            have hun : L 13 = false := hLi
            have hz := E0.out hun
            have f := f10
            subst f
            refine wpOp_doG 13 (by rfl) (by rfl) ?_
            refine wpo_storeB 28 (.tmp 7) (.tmp 68) t 0 (stH 8 (noV, i64w (bk + ej)) nilS) (stH 8 (noV, bk) nilS) 28 infoSt (show 0 + 6 ≤ 6 by decide) (stH_one _ _ rfl) rfl rfl rfl hz.s ?_
            intro wn BP ho
            replace BP : Blk wn t (stH 8 (noV, i64w (bk + ej)) nilS) 28 := BP
            have BS := hz.s
            simp only [Act.put, List.setIfInBounds_toArray, List.set_cons_zero, List.set_cons_succ]
            show I (putL L 13) _ _
            exact (HI.out (putL L 13) _ _).2 ⟨_, _, _, _, _, _, _, _, _, _, _, _, _, vo9, q9, rfl, below_oth HS.out ho hz.z hz.z HS.out.size, fun h => (by rw [putL_self] at h; cases h), E1.out.oth ho HQ0.out, fun h => (by first | exact F0.out ((putL_ne (i := 13) (by decide)).symm.trans h) | rfl), fun h => (by first | exact F1.out ((putL_ne (i := 13) (by decide)).symm.trans h) | rfl), fun h => (by first | exact F2.out ((putL_ne (i := 13) (by decide)).symm.trans h) | rfl), fun h => (by first | exact F3.out ((putL_ne (i := 13) (by decide)).symm.trans h) | rfl), fun h => (by first | exact F4.out ((putL_ne (i := 13) (by decide)).symm.trans h) | rfl), fun h => (by first | exact F5.out ((putL_ne (i := 13) (by decide)).symm.trans h) | rfl), fun h => (by first | exact F6.out ((putL_ne (i := 13) (by decide)).symm.trans h) | rfl), fun h => (fun q => q.imp fun _ k => ⟨k.1, k.2.oth ho BS (by decide)⟩) (F7.out ((putL_ne (i := 13) (by decide)).symm.trans h)), fun h => (fun q => ⟨(by first | exact q.1 | rfl), q.2.oth ho BS (by decide)⟩) (F8.out ((putL_ne (i := 13) (by decide)).symm.trans h)), fun h => (by first | exact F9.out ((putL_ne (i := 13) (by decide)).symm.trans h) | rfl), fun h => (by first | exact F10.out ((putL_ne (i := 13) (by decide)).symm.trans h) | rfl), fun h => (by first | exact F11.out ((putL_ne (i := 13) (by decide)).symm.trans h) | rfl), fun h => (by first | exact F12.out ((putL_ne (i := 13) (by decide)).symm.trans h) | rfl), fun _ => ⟨BP, hz.z⟩⟩
        · intro L act wx hall hIa
          obtain ⟨t59, t60, t61, t62, t63, t64, t65, t66, t67, t58, t68, t69, t70, vo9, q9, rfl, HS, E0, E1, F0, F1, F2, F3, F4, F5, F6, F7, F8, F9, F10, F11, F12, F13⟩ := (HI.out _ _ _).1 hIa
          have f0 := F0.out (hall 0 (by decide))
          have f1 := F1.out (hall 1 (by decide))
          have f2 := F2.out (hall 2 (by decide))
          have f3 := F3.out (hall 3 (by decide))
          have f4 := F4.out (hall 4 (by decide))
          have f5 := F5.out (hall 5 (by decide))
          have f6 := F6.out (hall 6 (by decide))
          have f7 := F7.out (hall 7 (by decide))
          have f8 := F8.out (hall 8 (by decide))
          have f9 := F9.out (hall 9 (by decide))
          have f10 := F10.out (hall 10 (by decide))
          have f11 := F11.out (hall 11 (by decide))
          have f12 := F12.out (hall 12 (by decide))
          have f13 := F13.out (hall 13 (by decide))
          clear hIa HI F0 F1 F2 F3 F4 F5 F6 F7 F8 F9 F10 F11 F12 F13
          show K9 _ _
          apply hK9
          clear hK9
          have HP9 : Hid (Hs2 w wx z t (fa (k + 1)) (fb (k + 1))) := by show Hs2 _ _ _ _ _ _; rw [HAk.out, HBk.out]; exact ⟨E1.out, f13, HS.out⟩
          have c9 := ((show Below w.heap.size w wx from HS.out).cell (p := ⟨b, o + k, none⟩) HLt.out).trans HCk.out
          clear E0 E1 HS f0 f1 f2 f3 f4 f5 f6 f7 f8 f9 f10 f11 f12 f13
          go_wp2
          go_roundw
          case rel => exact ⟨k + 1, by omega, by go_num, by rw [HSk.out]; rfl, HP9.out⟩
          case measure => simp [intOf]; omega
    · have e : k = n := by omega
      subst e
      obtain ⟨sk, hsk⟩ : ∃ sk, fs k = sk := ⟨_, rfl⟩
      obtain ⟨ak, hak⟩ : ∃ ak, fa k = ak := ⟨_, rfl⟩
      rw [hsk] at HSA ⊢
      rw [HAB.out] at HP
      rw [hak] at HSA HP
      have HM : Hid (ownH 8 = true) := (by kernel_rfl : ownH 8 = true)
      have HPa : Hid (Below w.heap.size w wr ∧ Hh 8 w wr z (noV, ak)) := ⟨HP.out.b, HP.out.s⟩
      have HPt : Hid (Hh 8 w wr t (noV, ak)) := HP.out.t
      have HZ9 : Hid (z < wr.heap.size) := HP.out.s.s.lt
      have HT9 : Hid (t < wr.heap.size) := HP.out.t.s.lt
      clear HP HAB HAn HBn HSn HS0 hsk hak
      go_wp2_with fail
      rename_i K9 hK9
      obtain ⟨I, hI⟩ : ∃ I : (Nat → Bool) → Act → World → Prop, ∀ L act wx, I L act wx ↔ (fun (L : Nat → Bool) (act : Act) (wx : World) => ∃ (t80 : Value) (t81 : Value) (t82 : Value) (t79 : Value) (t83 : Value) (t84 : Value) (t85 : Value) (t11 : Value) (t12 : Value) (t13 : Value) (vo9 : Value) (q9 : Nat), act = ⟨#[Value.slice (some ⟨b, o, none⟩) k c, Value.int .u8 (r : Int), undef, undef, Value.bool false, Value.pointer (some ⟨z, 0, none⟩), Value.bool true, Value.pointer (some ⟨t, 0, none⟩), Value.int .u64 sk, u9, u10, t11, t12, t13, undef, undef, undef, undef, Value.bool true, Value.bool false, Value.slice (some ⟨b, o, none⟩) k c, Value.int .i64 (k : Int), Value.bool (decide ((60 : Int) < (k : Int))), Value.bool (decide ((60 : Int) < (k : Int))), Value.slice (some ⟨b, o, none⟩) k c, Value.int .i64 (k : Int), Value.bool false, Value.bool (decide ((60 : Int) < (k : Int))), Value.tuple #[Value.agg #[Value.int .i64 8, Value.int .i64 0, Value.int .i64 0, Value.string noB, Value.int .i64 0, nilS], Value.bool true], Value.tuple #[Value.agg #[Value.int .i64 8, Value.int .i64 0, Value.int .i64 0, Value.string noB, Value.int .i64 0, nilS], Value.bool true], Value.agg #[Value.int .i64 8, Value.int .i64 0, Value.int .i64 0, Value.string noB, Value.int .i64 0, nilS], Value.bool true, Value.agg #[Value.int .i64 8, Value.int .i64 0, Value.int .i64 0, Value.string noB, Value.int .i64 0, Value.slice none 0 0], Value.slice (some ⟨b, o, none⟩) k c, Value.int .i64 (k : Int), Value.int .i64 (k : Int), Value.bool false, u37, u38, u39, u40, u41, u42, u43, u44, u45, u46, u47, u48, u49, u50, u51, u52, u53, u54, u55, u56, u57, u58, u59, u60, u61, u62, u63, u64, u65, u66, u67, u68, u69, u70, u71, u72, u73, u74, u75, u76, u77, u78, t79, t80, t81, t82, t83, t84, t85, undef, undef, undef, undef, undef, undef, undef, undef, undef, undef, undef, undef, undef, undef, undef, undef, undef, undef, undef, undef, undef, undef, undef, undef, undef], []⟩ ∧ Hid (StW w wx) ∧ Hid (Hh 8 w wx z (noV, ak)) ∧ Hid (L 7 = true → L 8 = false → Blk wx q9 (stC 0 noV nilS) 28) ∧ Hid (Stay wr wx) ∧ Hid (Hh 8 w wx t (noV, ak)) ∧ Hid (L 0 = true → t80 = .agg (stH 8 (noV, ak) nilS).toArray) ∧ Hid (L 1 = true → t81 = .agg #[.int .i64 2, .int .i64 0, .string ⟨#[99]⟩]) ∧ Hid (L 2 = true → t82 = .tuple #[.agg (stH 8 (noV, ak) nilS).toArray, vo9, .bool true] ∧ OwnV wx w.heap.size vo9 [vN' ak]) ∧ Hid (L 3 = true → t79 = .tuple #[.agg (stH 8 (noV, ak) nilS).toArray, vo9, .bool true]) ∧ Hid (L 4 = true → t83 = .agg (stH 8 (noV, ak) nilS).toArray) ∧ Hid (L 5 = true → t84 = vo9) ∧ Hid (L 6 = true → t85 = .bool true) ∧ Hid (L 7 = true → t11 = .pointer (some ⟨q9, 0, none⟩) ∧ w.heap.size ≤ q9 ∧ wr.heap.size ≤ q9) ∧ Hid (L 8 = true → Hh 8 w wx q9 (noV, ak)) ∧ Hid (L 9 = true → t12 = vo9) ∧ Hid (L 10 = true → t13 = .bool true)) L act wx := ⟨_, fun _ _ _ => Iff.rfl⟩
      dsimp only at hI
      have HI : Hid (∀ L act wx, I L act wx ↔ _) := hI
      clear hI
      refine wp_region_inv mixed [[], [], [0, 1], [0, 1, 2], [0, 1, 2, 3], [0, 1, 2, 3], [0, 1, 2, 3], [], [0, 1, 2, 3, 4, 7], [0, 1, 2, 3, 4, 5, 7, 8], [0, 1, 2, 3, 4, 6, 7, 8]] (by kernel_rfl) I ?_ ?_ ?_
      · refine (HI.out _ _ _).2 ⟨_, _, _, _, _, _, _, _, _, _, undef, 0, rfl, ?_, ?_, ?_, ?_, ?_, fun h => Bool.noConfusion h, fun h => Bool.noConfusion h, fun h => Bool.noConfusion h, fun h => Bool.noConfusion h, fun h => Bool.noConfusion h, fun h => Bool.noConfusion h, fun h => Bool.noConfusion h, fun h => Bool.noConfusion h, fun h => Bool.noConfusion h, fun h => Bool.noConfusion h, fun h => Bool.noConfusion h⟩
        · exact below_next HPa.out.1 (Stay.drew _)
        · exact HPa.out.2.later (Stay.drew _)
        · exact fun h => Bool.noConfusion h
        · exact Stay.drew _
        · exact HPt.out.later (Stay.drew _)
      · intro i hi L act wx hIa hLi hcl hanc
        obtain ⟨t80, t81, t82, t79, t83, t84, t85, t11, t12, t13, vo9, q9, rfl, HS, E0, E1, E2, E3, F0, F1, F2, F3, F4, F5, F6, F7, F8, F9, F10⟩ := (HI.out _ _ _).1 hIa
        clear hIa
        have hi' : i = 0 ∨ i = 1 ∨ i = 2 ∨ i = 3 ∨ i = 4 ∨ i = 5 ∨ i = 6 ∨ i = 7 ∨ i = 8 ∨ i = 9 ∨ i = 10 := by have hi : i < 11 := hi; omega
        clear hi
        rcases hi' with rfl | rfl | rfl | rfl | rfl | rfl | rfl | rfl | rfl | rfl | rfl
        · have hz := E0.out
          refine wpOp_doG 0 (by rfl) (by rfl) ?_
          refine wp_load_mid 28 (.tmp 5) rfl z 0 rfl (stH 8 (noV, ak) nilS) _ (Blk.all hz.s) Tryd.underlying28 rfl infoSt ?_
          simp only [Act.put, List.setIfInBounds_toArray, List.set_cons_zero, List.set_cons_succ]
          have hb : Below wx.heap.size wx wx := Below.refl _ _
          show I (putL L 0) _ _
          exact (HI.out (putL L 0) _ _).2 ⟨_, _, _, _, _, _, _, _, _, _, vo9, q9, rfl, HS.out.later hb, E0.out.later hb, fun h h' => (E1.out ((putL_ne (i := 0) (by decide)).symm.trans h) ((putL_ne (i := 0) (by decide)).symm.trans h')).later hb, below_next E2.out hb, E3.out.later hb, fun _ => rfl, fun h => (by first | exact F1.out ((putL_ne (i := 0) (by decide)).symm.trans h) | rfl), fun h => absurd (hcl 2 ((putL_ne (i := 0) (by decide)).symm.trans h) 0 (by decide)) (by rw [hLi]; decide), fun h => absurd (hcl 3 ((putL_ne (i := 0) (by decide)).symm.trans h) 0 (by decide)) (by rw [hLi]; decide), fun h => absurd (hcl 4 ((putL_ne (i := 0) (by decide)).symm.trans h) 0 (by decide)) (by rw [hLi]; decide), fun h => absurd (hcl 5 ((putL_ne (i := 0) (by decide)).symm.trans h) 0 (by decide)) (by rw [hLi]; decide), fun h => absurd (hcl 6 ((putL_ne (i := 0) (by decide)).symm.trans h) 0 (by decide)) (by rw [hLi]; decide), fun h => (by first | exact F7.out ((putL_ne (i := 0) (by decide)).symm.trans h) | rfl), fun h => absurd (hcl 8 ((putL_ne (i := 0) (by decide)).symm.trans h) 0 (by decide)) (by rw [hLi]; decide), fun h => absurd (hcl 9 ((putL_ne (i := 0) (by decide)).symm.trans h) 0 (by decide)) (by rw [hLi]; decide), fun h => absurd (hcl 10 ((putL_ne (i := 0) (by decide)).symm.trans h) 0 (by decide)) (by rw [hLi]; decide)⟩
        · refine wpOp_doG 1 (by rfl) (by rfl) ?_
          go_wp2_with fail
          refine (who_any ⟨#[99]⟩ wx).mono ?_
          rintro e9 wn ⟨rfl, hb⟩
          show I (putL L 1) _ _
          exact (HI.out (putL L 1) _ _).2 ⟨_, _, _, _, _, _, _, _, _, _, vo9, q9, rfl, HS.out.later hb, E0.out.later hb, fun h h' => (E1.out ((putL_ne (i := 1) (by decide)).symm.trans h) ((putL_ne (i := 1) (by decide)).symm.trans h')).later hb, below_next E2.out hb, E3.out.later hb, fun h => (by first | exact F0.out ((putL_ne (i := 1) (by decide)).symm.trans h) | rfl), fun _ => rfl, fun h => absurd (hcl 2 ((putL_ne (i := 1) (by decide)).symm.trans h) 1 (by decide)) (by rw [hLi]; decide), fun h => absurd (hcl 3 ((putL_ne (i := 1) (by decide)).symm.trans h) 1 (by decide)) (by rw [hLi]; decide), fun h => absurd (hcl 4 ((putL_ne (i := 1) (by decide)).symm.trans h) 1 (by decide)) (by rw [hLi]; decide), fun h => absurd (hcl 5 ((putL_ne (i := 1) (by decide)).symm.trans h) 1 (by decide)) (by rw [hLi]; decide), fun h => absurd (hcl 6 ((putL_ne (i := 1) (by decide)).symm.trans h) 1 (by decide)) (by rw [hLi]; decide), fun h => (by first | exact F7.out ((putL_ne (i := 1) (by decide)).symm.trans h) | rfl), fun h => absurd (hcl 8 ((putL_ne (i := 1) (by decide)).symm.trans h) 1 (by decide)) (by rw [hLi]; decide), fun h => absurd (hcl 9 ((putL_ne (i := 1) (by decide)).symm.trans h) 1 (by decide)) (by rw [hLi]; decide), fun h => absurd (hcl 10 ((putL_ne (i := 1) (by decide)).symm.trans h) 1 (by decide)) (by rw [hLi]; decide)⟩
        · have f0 := F0.out (hanc 0 (by decide))
          have f1 := F1.out (hanc 1 (by decide))
          have g0 := f0
          have g1 := f1
          subst g0 g1
          refine wpOp_doG 2 (by rfl) (by rfl) ?_
          go_wp2_with fail
          refine (HK.out.yes 8 (noV, ak) cC 2 nilS [] wx (HT.out.later HS.out) (vsl_nil0 _) sz0 (by decide) HM.out mayRC (okX_8 _)).mono ?_
          rintro e9 wn ⟨vo, rfl, ho9, hb⟩
          have ho9 := ho9.base HS.out.size
          rw [ou_rd ak cC] at ho9
          rw [nx_rd ak cC]
          show I (putL L 2) _ _
          exact (HI.out (putL L 2) _ _).2 ⟨_, _, _, _, _, _, _, _, _, _, vo, q9, rfl, HS.out.later hb, E0.out.later hb, fun h h' => (E1.out ((putL_ne (i := 2) (by decide)).symm.trans h) ((putL_ne (i := 2) (by decide)).symm.trans h')).later hb, below_next E2.out hb, E3.out.later hb, fun h => (by first | exact F0.out ((putL_ne (i := 2) (by decide)).symm.trans h) | rfl), fun h => (by first | exact F1.out ((putL_ne (i := 2) (by decide)).symm.trans h) | rfl), fun _ => ⟨rfl, ho9⟩, fun h => absurd (hcl 3 ((putL_ne (i := 2) (by decide)).symm.trans h) 2 (by decide)) (by rw [hLi]; decide), fun h => absurd (hcl 4 ((putL_ne (i := 2) (by decide)).symm.trans h) 2 (by decide)) (by rw [hLi]; decide), fun h => absurd (hcl 5 ((putL_ne (i := 2) (by decide)).symm.trans h) 2 (by decide)) (by rw [hLi]; decide), fun h => absurd (hcl 6 ((putL_ne (i := 2) (by decide)).symm.trans h) 2 (by decide)) (by rw [hLi]; decide), fun h => (by first | exact F7.out ((putL_ne (i := 2) (by decide)).symm.trans h) | rfl), fun h => absurd (hcl 8 ((putL_ne (i := 2) (by decide)).symm.trans h) 2 (by decide)) (by rw [hLi]; decide), fun h => absurd (hcl 9 ((putL_ne (i := 2) (by decide)).symm.trans h) 2 (by decide)) (by rw [hLi]; decide), fun h => absurd (hcl 10 ((putL_ne (i := 2) (by decide)).symm.trans h) 2 (by decide)) (by rw [hLi]; decide)⟩
        · have f0 := F0.out (hanc 0 (by decide))
          have f1 := F1.out (hanc 1 (by decide))
          have f2 := F2.out (hanc 2 (by decide))
          have f := f2.1
          subst f
          refine YieldsIf.wpOp (S := fun _ => True) (v := .tuple #[.agg (stH 8 (noV, ak) nilS).toArray, vo9, .bool true]) (by rfl) (.inl ⟨rfl, fun w _ => rfl⟩) trivial ?_
          simp only [Act.put, List.setIfInBounds_toArray, List.set_cons_zero, List.set_cons_succ]
          have hb : Below wx.heap.size wx wx := Below.refl _ _
          show I (putL L 3) _ _
          exact (HI.out (putL L 3) _ _).2 ⟨_, _, _, _, _, _, _, _, _, _, vo9, q9, rfl, HS.out.later hb, E0.out.later hb, fun h h' => (E1.out ((putL_ne (i := 3) (by decide)).symm.trans h) ((putL_ne (i := 3) (by decide)).symm.trans h')).later hb, below_next E2.out hb, E3.out.later hb, fun h => (by first | exact F0.out ((putL_ne (i := 3) (by decide)).symm.trans h) | rfl), fun h => (by first | exact F1.out ((putL_ne (i := 3) (by decide)).symm.trans h) | rfl), fun h => (fun q => ⟨(by first | exact q.1 | rfl), q.2.later hb⟩) (F2.out ((putL_ne (i := 3) (by decide)).symm.trans h)), fun _ => rfl, fun h => absurd (hcl 4 ((putL_ne (i := 3) (by decide)).symm.trans h) 3 (by decide)) (by rw [hLi]; decide), fun h => absurd (hcl 5 ((putL_ne (i := 3) (by decide)).symm.trans h) 3 (by decide)) (by rw [hLi]; decide), fun h => absurd (hcl 6 ((putL_ne (i := 3) (by decide)).symm.trans h) 3 (by decide)) (by rw [hLi]; decide), fun h => (by first | exact F7.out ((putL_ne (i := 3) (by decide)).symm.trans h) | rfl), fun h => absurd (hcl 8 ((putL_ne (i := 3) (by decide)).symm.trans h) 3 (by decide)) (by rw [hLi]; decide), fun h => absurd (hcl 9 ((putL_ne (i := 3) (by decide)).symm.trans h) 3 (by decide)) (by rw [hLi]; decide), fun h => absurd (hcl 10 ((putL_ne (i := 3) (by decide)).symm.trans h) 3 (by decide)) (by rw [hLi]; decide)⟩
        · have f0 := F0.out (hanc 0 (by decide))
          have f1 := F1.out (hanc 1 (by decide))
          have f2 := F2.out (hanc 2 (by decide))
          have f3 := F3.out (hanc 3 (by decide))
          have f := f3
          subst f
          refine YieldsIf.wpOp (S := fun _ => True) (v := .agg (stH 8 (noV, ak) nilS).toArray) (by rfl) (.inl ⟨rfl, fun w _ => by go_simp⟩) trivial ?_
          simp only [Act.put, List.setIfInBounds_toArray, List.set_cons_zero, List.set_cons_succ]
          have hb : Below wx.heap.size wx wx := Below.refl _ _
          show I (putL L 4) _ _
          exact (HI.out (putL L 4) _ _).2 ⟨_, _, _, _, _, _, _, _, _, _, vo9, q9, rfl, HS.out.later hb, E0.out.later hb, fun h h' => (E1.out ((putL_ne (i := 4) (by decide)).symm.trans h) ((putL_ne (i := 4) (by decide)).symm.trans h')).later hb, below_next E2.out hb, E3.out.later hb, fun h => (by first | exact F0.out ((putL_ne (i := 4) (by decide)).symm.trans h) | rfl), fun h => (by first | exact F1.out ((putL_ne (i := 4) (by decide)).symm.trans h) | rfl), fun h => (fun q => ⟨(by first | exact q.1 | rfl), q.2.later hb⟩) (F2.out ((putL_ne (i := 4) (by decide)).symm.trans h)), fun h => (by first | exact F3.out ((putL_ne (i := 4) (by decide)).symm.trans h) | rfl), fun _ => rfl, fun h => (by first | exact F5.out ((putL_ne (i := 4) (by decide)).symm.trans h) | rfl), fun h => (by first | exact F6.out ((putL_ne (i := 4) (by decide)).symm.trans h) | rfl), fun h => (by first | exact F7.out ((putL_ne (i := 4) (by decide)).symm.trans h) | rfl), fun h => absurd (hcl 8 ((putL_ne (i := 4) (by decide)).symm.trans h) 4 (by decide)) (by rw [hLi]; decide), fun h => absurd (hcl 9 ((putL_ne (i := 4) (by decide)).symm.trans h) 4 (by decide)) (by rw [hLi]; decide), fun h => absurd (hcl 10 ((putL_ne (i := 4) (by decide)).symm.trans h) 4 (by decide)) (by rw [hLi]; decide)⟩
        · have f0 := F0.out (hanc 0 (by decide))
          have f1 := F1.out (hanc 1 (by decide))
          have f2 := F2.out (hanc 2 (by decide))
          have f3 := F3.out (hanc 3 (by decide))
          have f := f3
          subst f
          refine YieldsIf.wpOp (S := fun _ => True) (v := vo9) (by rfl) (.inl ⟨rfl, fun w _ => by go_simp⟩) trivial ?_
          simp only [Act.put, List.setIfInBounds_toArray, List.set_cons_zero, List.set_cons_succ]
          have hb : Below wx.heap.size wx wx := Below.refl _ _
          show I (putL L 5) _ _
          exact (HI.out (putL L 5) _ _).2 ⟨_, _, _, _, _, _, _, _, _, _, vo9, q9, rfl, HS.out.later hb, E0.out.later hb, fun h h' => (E1.out ((putL_ne (i := 5) (by decide)).symm.trans h) ((putL_ne (i := 5) (by decide)).symm.trans h')).later hb, below_next E2.out hb, E3.out.later hb, fun h => (by first | exact F0.out ((putL_ne (i := 5) (by decide)).symm.trans h) | rfl), fun h => (by first | exact F1.out ((putL_ne (i := 5) (by decide)).symm.trans h) | rfl), fun h => (fun q => ⟨(by first | exact q.1 | rfl), q.2.later hb⟩) (F2.out ((putL_ne (i := 5) (by decide)).symm.trans h)), fun h => (by first | exact F3.out ((putL_ne (i := 5) (by decide)).symm.trans h) | rfl), fun h => (by first | exact F4.out ((putL_ne (i := 5) (by decide)).symm.trans h) | rfl), fun _ => rfl, fun h => (by first | exact F6.out ((putL_ne (i := 5) (by decide)).symm.trans h) | rfl), fun h => (by first | exact F7.out ((putL_ne (i := 5) (by decide)).symm.trans h) | rfl), fun h => (fun q => q.later hb) (F8.out ((putL_ne (i := 5) (by decide)).symm.trans h)), fun h => absurd (hcl 9 ((putL_ne (i := 5) (by decide)).symm.trans h) 5 (by decide)) (by rw [hLi]; decide), fun h => (by first | exact F10.out ((putL_ne (i := 5) (by decide)).symm.trans h) | rfl)⟩
        · have f0 := F0.out (hanc 0 (by decide))
          have f1 := F1.out (hanc 1 (by decide))
          have f2 := F2.out (hanc 2 (by decide))
          have f3 := F3.out (hanc 3 (by decide))
          have f := f3
          subst f
          refine YieldsIf.wpOp (S := fun _ => True) (v := .bool true) (by rfl) (.inl ⟨rfl, fun w _ => by go_simp⟩) trivial ?_
          simp only [Act.put, List.setIfInBounds_toArray, List.set_cons_zero, List.set_cons_succ]
          have hb : Below wx.heap.size wx wx := Below.refl _ _
          show I (putL L 6) _ _
          exact (HI.out (putL L 6) _ _).2 ⟨_, _, _, _, _, _, _, _, _, _, vo9, q9, rfl, HS.out.later hb, E0.out.later hb, fun h h' => (E1.out ((putL_ne (i := 6) (by decide)).symm.trans h) ((putL_ne (i := 6) (by decide)).symm.trans h')).later hb, below_next E2.out hb, E3.out.later hb, fun h => (by first | exact F0.out ((putL_ne (i := 6) (by decide)).symm.trans h) | rfl), fun h => (by first | exact F1.out ((putL_ne (i := 6) (by decide)).symm.trans h) | rfl), fun h => (fun q => ⟨(by first | exact q.1 | rfl), q.2.later hb⟩) (F2.out ((putL_ne (i := 6) (by decide)).symm.trans h)), fun h => (by first | exact F3.out ((putL_ne (i := 6) (by decide)).symm.trans h) | rfl), fun h => (by first | exact F4.out ((putL_ne (i := 6) (by decide)).symm.trans h) | rfl), fun h => (by first | exact F5.out ((putL_ne (i := 6) (by decide)).symm.trans h) | rfl), fun _ => rfl, fun h => (by first | exact F7.out ((putL_ne (i := 6) (by decide)).symm.trans h) | rfl), fun h => (fun q => q.later hb) (F8.out ((putL_ne (i := 6) (by decide)).symm.trans h)), fun h => (by first | exact F9.out ((putL_ne (i := 6) (by decide)).symm.trans h) | rfl), fun h => absurd (hcl 10 ((putL_ne (i := 6) (by decide)).symm.trans h) 6 (by decide)) (by rw [hLi]; decide)⟩
        · refine wpOp_doG 7 (by rfl) (by rfl) ?_
          go_wp2_with fail
          have BO := Blk.new wx (stC 0 noV nilS) 28
          have hb := below_box wx (.cells (stC 0 noV nilS).toArray 28)
          change Blk (wx.alloc (.cells #[.int .i64 0, .int .i64 0, .int .i64 0, .string ⟨#[]⟩, .int .i64 0, .slice none 0 0] 28)) _ _ _ at BO
          change Below _ wx (wx.alloc (.cells #[.int .i64 0, .int .i64 0, .int .i64 0, .string ⟨#[]⟩, .int .i64 0, .slice none 0 0] 28)) at hb
          show I (putL L 7) _ _
          exact (HI.out (putL L 7) _ _).2 ⟨_, _, _, _, _, _, _, _, _, _, vo9, wx.heap.size, rfl, HS.out.later hb, E0.out.later hb, fun _ _ => BO, below_next E2.out hb, E3.out.later hb, fun h => (by first | exact F0.out ((putL_ne (i := 7) (by decide)).symm.trans h) | rfl), fun h => (by first | exact F1.out ((putL_ne (i := 7) (by decide)).symm.trans h) | rfl), fun h => (fun q => ⟨(by first | exact q.1 | rfl), q.2.later hb⟩) (F2.out ((putL_ne (i := 7) (by decide)).symm.trans h)), fun h => (by first | exact F3.out ((putL_ne (i := 7) (by decide)).symm.trans h) | rfl), fun h => (by first | exact F4.out ((putL_ne (i := 7) (by decide)).symm.trans h) | rfl), fun h => (by first | exact F5.out ((putL_ne (i := 7) (by decide)).symm.trans h) | rfl), fun h => (by first | exact F6.out ((putL_ne (i := 7) (by decide)).symm.trans h) | rfl), fun _ => ⟨rfl, HS.out.size, E2.out.size⟩, fun h => absurd (hcl 8 ((putL_ne (i := 7) (by decide)).symm.trans h) 7 (by decide)) (by rw [hLi]; decide), fun h => absurd (hcl 9 ((putL_ne (i := 7) (by decide)).symm.trans h) 7 (by decide)) (by rw [hLi]; decide), fun h => absurd (hcl 10 ((putL_ne (i := 7) (by decide)).symm.trans h) 7 (by decide)) (by rw [hLi]; decide)⟩
        · have f0 := F0.out (hanc 0 (by decide))
          have f1 := F1.out (hanc 1 (by decide))
          have f2 := F2.out (hanc 2 (by decide))
          have f3 := F3.out (hanc 3 (by decide))
          have f4 := F4.out (hanc 4 (by decide))
          have f7 := F7.out (hanc 7 (by decide))
          have BS := E1.out (hanc 7 (by decide)) hLi
          have f := f4
          subst f
          obtain ⟨fa, hq9⟩ := f7
          subst fa
          refine wpOp_doG 8 (by rfl) (by rfl) ?_
          refine wpo_storeB 28 (.tmp 11) (.tmp 83) q9 0 (stH 8 (noV, ak) nilS) (stC 0 noV nilS) 28 infoSt (show 0 + 6 ≤ 6 by decide) (stH_one _ _ rfl) rfl rfl rfl BS ?_
          intro wn BP ho
          replace BP : Blk wn q9 (stH 8 (noV, ak) nilS) 28 := BP
          simp only [Act.put, List.setIfInBounds_toArray, List.set_cons_zero, List.set_cons_succ]
          show I (putL L 8) _ _
          exact (HI.out (putL L 8) _ _).2 ⟨_, _, _, _, _, _, _, _, _, _, vo9, q9, rfl, below_oth HS.out ho hq9.1 hq9.1 HS.out.size, E0.out.oth ho (by have := HZ9.out; have := hq9.2; omega), fun _ h => (by rw [putL_self] at h; cases h), below_oth E2.out ho hq9.2 hq9.2 E2.out.size, E3.out.oth ho (by have := HT9.out; have := hq9.2; omega), fun h => (by first | exact F0.out ((putL_ne (i := 8) (by decide)).symm.trans h) | rfl), fun h => (by first | exact F1.out ((putL_ne (i := 8) (by decide)).symm.trans h) | rfl), fun h => (fun q => ⟨(by first | exact q.1 | rfl), q.2.oth ho BS (by decide)⟩) (F2.out ((putL_ne (i := 8) (by decide)).symm.trans h)), fun h => (by first | exact F3.out ((putL_ne (i := 8) (by decide)).symm.trans h) | rfl), fun h => (by first | exact F4.out ((putL_ne (i := 8) (by decide)).symm.trans h) | rfl), fun h => (by first | exact F5.out ((putL_ne (i := 8) (by decide)).symm.trans h) | rfl), fun h => (by first | exact F6.out ((putL_ne (i := 8) (by decide)).symm.trans h) | rfl), fun h => (by first | exact F7.out ((putL_ne (i := 8) (by decide)).symm.trans h) | rfl), fun _ => ⟨BP, hq9.1⟩, fun h => absurd (hcl 9 ((putL_ne (i := 8) (by decide)).symm.trans h) 8 (by decide)) (by rw [hLi]; decide), fun h => absurd (hcl 10 ((putL_ne (i := 8) (by decide)).symm.trans h) 8 (by decide)) (by rw [hLi]; decide)⟩
        · have f0 := F0.out (hanc 0 (by decide))
          have f1 := F1.out (hanc 1 (by decide))
          have f2 := F2.out (hanc 2 (by decide))
          have f3 := F3.out (hanc 3 (by decide))
          have f4 := F4.out (hanc 4 (by decide))
          have f5 := F5.out (hanc 5 (by decide))
          have f7 := F7.out (hanc 7 (by decide))
          have f8 := F8.out (hanc 8 (by decide))
          refine YieldsIf.wpOp (S := fun _ => True) (v := t84) (by rfl) (.inl ⟨rfl, fun w _ => rfl⟩) trivial ?_
          simp only [Act.put, List.setIfInBounds_toArray, List.set_cons_zero, List.set_cons_succ]
          have hb : Below wx.heap.size wx wx := Below.refl _ _
          show I (putL L 9) _ _
          exact (HI.out (putL L 9) _ _).2 ⟨_, _, _, _, _, _, _, _, _, _, vo9, q9, rfl, HS.out.later hb, E0.out.later hb, fun h h' => (E1.out ((putL_ne (i := 9) (by decide)).symm.trans h) ((putL_ne (i := 9) (by decide)).symm.trans h')).later hb, below_next E2.out hb, E3.out.later hb, fun h => (by first | exact F0.out ((putL_ne (i := 9) (by decide)).symm.trans h) | rfl), fun h => (by first | exact F1.out ((putL_ne (i := 9) (by decide)).symm.trans h) | rfl), fun h => (fun q => ⟨(by first | exact q.1 | rfl), q.2.later hb⟩) (F2.out ((putL_ne (i := 9) (by decide)).symm.trans h)), fun h => (by first | exact F3.out ((putL_ne (i := 9) (by decide)).symm.trans h) | rfl), fun h => (by first | exact F4.out ((putL_ne (i := 9) (by decide)).symm.trans h) | rfl), fun h => (by first | exact F5.out ((putL_ne (i := 9) (by decide)).symm.trans h) | rfl), fun h => (by first | exact F6.out ((putL_ne (i := 9) (by decide)).symm.trans h) | rfl), fun h => (by first | exact F7.out ((putL_ne (i := 9) (by decide)).symm.trans h) | rfl), fun h => (fun q => q.later hb) (F8.out ((putL_ne (i := 9) (by decide)).symm.trans h)), fun _ => f5, fun h => (by first | exact F10.out ((putL_ne (i := 9) (by decide)).symm.trans h) | rfl)⟩
        · have f0 := F0.out (hanc 0 (by decide))
          have f1 := F1.out (hanc 1 (by decide))
          have f2 := F2.out (hanc 2 (by decide))
          have f3 := F3.out (hanc 3 (by decide))
          have f4 := F4.out (hanc 4 (by decide))
          have f6 := F6.out (hanc 6 (by decide))
          have f7 := F7.out (hanc 7 (by decide))
          have f8 := F8.out (hanc 8 (by decide))
          refine YieldsIf.wpOp (S := fun _ => True) (v := t85) (by rfl) (.inl ⟨rfl, fun w _ => rfl⟩) trivial ?_
          simp only [Act.put, List.setIfInBounds_toArray, List.set_cons_zero, List.set_cons_succ]
          have hb : Below wx.heap.size wx wx := Below.refl _ _
          show I (putL L 10) _ _
          exact (HI.out (putL L 10) _ _).2 ⟨_, _, _, _, _, _, _, _, _, _, vo9, q9, rfl, HS.out.later hb, E0.out.later hb, fun h h' => (E1.out ((putL_ne (i := 10) (by decide)).symm.trans h) ((putL_ne (i := 10) (by decide)).symm.trans h')).later hb, below_next E2.out hb, E3.out.later hb, fun h => (by first | exact F0.out ((putL_ne (i := 10) (by decide)).symm.trans h) | rfl), fun h => (by first | exact F1.out ((putL_ne (i := 10) (by decide)).symm.trans h) | rfl), fun h => (fun q => ⟨(by first | exact q.1 | rfl), q.2.later hb⟩) (F2.out ((putL_ne (i := 10) (by decide)).symm.trans h)), fun h => (by first | exact F3.out ((putL_ne (i := 10) (by decide)).symm.trans h) | rfl), fun h => (by first | exact F4.out ((putL_ne (i := 10) (by decide)).symm.trans h) | rfl), fun h => (by first | exact F5.out ((putL_ne (i := 10) (by decide)).symm.trans h) | rfl), fun h => (by first | exact F6.out ((putL_ne (i := 10) (by decide)).symm.trans h) | rfl), fun h => (by first | exact F7.out ((putL_ne (i := 10) (by decide)).symm.trans h) | rfl), fun h => (fun q => q.later hb) (F8.out ((putL_ne (i := 10) (by decide)).symm.trans h)), fun h => (by first | exact F9.out ((putL_ne (i := 10) (by decide)).symm.trans h) | rfl), fun _ => f6⟩
      · intro L act wx hall hIa
        obtain ⟨t80, t81, t82, t79, t83, t84, t85, t11, t12, t13, vo9, q9, rfl, HS, E0, E1, E2, E3, F0, F1, F2, F3, F4, F5, F6, F7, F8, F9, F10⟩ := (HI.out _ _ _).1 hIa
        have f0 := F0.out (hall 0 (by decide))
        have f1 := F1.out (hall 1 (by decide))
        have f2 := F2.out (hall 2 (by decide))
        have f3 := F3.out (hall 3 (by decide))
        have f4 := F4.out (hall 4 (by decide))
        have f5 := F5.out (hall 5 (by decide))
        have f6 := F6.out (hall 6 (by decide))
        have f7 := F7.out (hall 7 (by decide))
        have f8 := F8.out (hall 8 (by decide))
        have f9 := F9.out (hall 9 (by decide))
        have f10 := F10.out (hall 10 (by decide))
        clear hIa HI F0 F1 F2 F3 F4 F5 F6 F7 F8 F9 F10
        show K9 _ _
        apply hK9
        clear hK9
        have ho := f2.2
        rw [← f9] at ho
        have HO1 : Hid (OwnV wx w.heap.size t12 [vN' ak]) := ho
        have g13 : Hid (t13 = .bool true) := f10
        have HPb : Hid (Below w.heap.size w wx ∧ Hh 8 w wx t (noV, ak)) := ⟨HS.out, E3.out⟩
        clear ho E0 E1 E2 E3 HS HZ9 f0 f1 f2 f3 f4 f5 f6 f7 f8 f9 f10
        generalize wx = w5 at HPb HO1 ⊢
        have HZ9 : Hid (t < w5.heap.size) := HPb.out.2.s.lt
        go_wp2_with fail
        rename_i K9 hK9
        obtain ⟨I, hI⟩ : ∃ I : (Nat → Bool) → Act → World → Prop, ∀ L act wx, I L act wx ↔ (fun (L : Nat → Bool) (act : Act) (wx : World) => ∃ (t87 : Value) (t88 : Value) (t89 : Value) (t86 : Value) (t90 : Value) (t91 : Value) (t92 : Value) (t14 : Value) (t15 : Value) (t16 : Value) (vo9 : Value) (q9 : Nat), act = ⟨#[Value.slice (some ⟨b, o, none⟩) k c, Value.int .u8 (r : Int), undef, undef, Value.bool false, Value.pointer (some ⟨z, 0, none⟩), Value.bool true, Value.pointer (some ⟨t, 0, none⟩), Value.int .u64 sk, u9, u10, t11, t12, t13, t14, t15, t16, undef, Value.bool true, Value.bool false, Value.slice (some ⟨b, o, none⟩) k c, Value.int .i64 (k : Int), Value.bool (decide ((60 : Int) < (k : Int))), Value.bool (decide ((60 : Int) < (k : Int))), Value.slice (some ⟨b, o, none⟩) k c, Value.int .i64 (k : Int), Value.bool false, Value.bool (decide ((60 : Int) < (k : Int))), Value.tuple #[Value.agg #[Value.int .i64 8, Value.int .i64 0, Value.int .i64 0, Value.string noB, Value.int .i64 0, nilS], Value.bool true], Value.tuple #[Value.agg #[Value.int .i64 8, Value.int .i64 0, Value.int .i64 0, Value.string noB, Value.int .i64 0, nilS], Value.bool true], Value.agg #[Value.int .i64 8, Value.int .i64 0, Value.int .i64 0, Value.string noB, Value.int .i64 0, nilS], Value.bool true, Value.agg #[Value.int .i64 8, Value.int .i64 0, Value.int .i64 0, Value.string noB, Value.int .i64 0, Value.slice none 0 0], Value.slice (some ⟨b, o, none⟩) k c, Value.int .i64 (k : Int), Value.int .i64 (k : Int), Value.bool false, u37, u38, u39, u40, u41, u42, u43, u44, u45, u46, u47, u48, u49, u50, u51, u52, u53, u54, u55, u56, u57, u58, u59, u60, u61, u62, u63, u64, u65, u66, u67, u68, u69, u70, u71, u72, u73, u74, u75, u76, u77, u78, t79, t80, t81, t82, t83, t84, t85, t86, t87, t88, t89, t90, t91, t92, undef, undef, undef, undef, undef, undef, undef, undef, undef, undef, undef, undef, undef, undef, undef, undef, undef, undef], []⟩ ∧ Hid (StW w wx) ∧ Hid (Hh 8 w wx t (noV, ak)) ∧ Hid (L 7 = true → L 8 = false → Blk wx q9 (stC 0 noV nilS) 28) ∧ Hid (Stay w5 wx) ∧ Hid (OwnV wx w.heap.size t12 [vN' ak]) ∧ Hid (L 0 = true → t87 = .agg (stH 8 (noV, ak) nilS).toArray) ∧ Hid (L 1 = true → t88 = .agg #[.int .i64 2, .int .i64 0, .string ⟨#[99]⟩]) ∧ Hid (L 2 = true → t89 = .tuple #[.agg (stH 8 (noV, ak) nilS).toArray, vo9, .bool true] ∧ OwnV wx w.heap.size vo9 [vN' ak]) ∧ Hid (L 3 = true → t86 = .tuple #[.agg (stH 8 (noV, ak) nilS).toArray, vo9, .bool true]) ∧ Hid (L 4 = true → t90 = .agg (stH 8 (noV, ak) nilS).toArray) ∧ Hid (L 5 = true → t91 = vo9) ∧ Hid (L 6 = true → t92 = .bool true) ∧ Hid (L 7 = true → t14 = .pointer (some ⟨q9, 0, none⟩) ∧ w.heap.size ≤ q9 ∧ w5.heap.size ≤ q9) ∧ Hid (L 8 = true → Hh 8 w wx q9 (noV, ak)) ∧ Hid (L 9 = true → t15 = vo9) ∧ Hid (L 10 = true → t16 = .bool true)) L act wx := ⟨_, fun _ _ _ => Iff.rfl⟩
        dsimp only at hI
        have HI : Hid (∀ L act wx, I L act wx ↔ _) := hI
        clear hI
        refine wp_region_inv mixed [[], [], [0, 1], [0, 1, 2], [0, 1, 2, 3], [0, 1, 2, 3], [0, 1, 2, 3], [], [0, 1, 2, 3, 4, 7], [0, 1, 2, 3, 4, 5, 7, 8], [0, 1, 2, 3, 4, 6, 7, 8]] (by kernel_rfl) I ?_ ?_ ?_
        · refine (HI.out _ _ _).2 ⟨_, _, _, _, _, _, _, _, _, _, undef, 0, rfl, ?_, ?_, ?_, ?_, ?_, fun h => Bool.noConfusion h, fun h => Bool.noConfusion h, fun h => Bool.noConfusion h, fun h => Bool.noConfusion h, fun h => Bool.noConfusion h, fun h => Bool.noConfusion h, fun h => Bool.noConfusion h, fun h => Bool.noConfusion h, fun h => Bool.noConfusion h, fun h => Bool.noConfusion h, fun h => Bool.noConfusion h⟩
          · exact below_next HPb.out.1 (Stay.drew _)
          · exact HPb.out.2.later (Stay.drew _)
          · exact fun h => Bool.noConfusion h
          · exact Stay.drew _
          · exact HO1.out.later (Stay.drew _)
        · intro i hi L act wx hIa hLi hcl hanc
          obtain ⟨t87, t88, t89, t86, t90, t91, t92, t14, t15, t16, vo9, q9, rfl, HS, E0, E1, E2, E3, F0, F1, F2, F3, F4, F5, F6, F7, F8, F9, F10⟩ := (HI.out _ _ _).1 hIa
          clear hIa
          have hi' : i = 0 ∨ i = 1 ∨ i = 2 ∨ i = 3 ∨ i = 4 ∨ i = 5 ∨ i = 6 ∨ i = 7 ∨ i = 8 ∨ i = 9 ∨ i = 10 := by have hi : i < 11 := hi; omega
          clear hi
          rcases hi' with rfl | rfl | rfl | rfl | rfl | rfl | rfl | rfl | rfl | rfl | rfl
          · have hz := E0.out
            refine wpOp_doG 0 (by rfl) (by rfl) ?_
            refine wp_load_mid 28 (.tmp 7) rfl t 0 rfl (stH 8 (noV, ak) nilS) _ (Blk.all hz.s) Tryd.underlying28 rfl infoSt ?_
            simp only [Act.put, List.setIfInBounds_toArray, List.set_cons_zero, List.set_cons_succ]
            have hb : Below wx.heap.size wx wx := Below.refl _ _
            show I (putL L 0) _ _
            exact (HI.out (putL L 0) _ _).2 ⟨_, _, _, _, _, _, _, _, _, _, vo9, q9, rfl, HS.out.later hb, E0.out.later hb, fun h h' => (E1.out ((putL_ne (i := 0) (by decide)).symm.trans h) ((putL_ne (i := 0) (by decide)).symm.trans h')).later hb, below_next E2.out hb, E3.out.later hb, fun _ => rfl, fun h => (by first | exact F1.out ((putL_ne (i := 0) (by decide)).symm.trans h) | rfl), fun h => absurd (hcl 2 ((putL_ne (i := 0) (by decide)).symm.trans h) 0 (by decide)) (by rw [hLi]; decide), fun h => absurd (hcl 3 ((putL_ne (i := 0) (by decide)).symm.trans h) 0 (by decide)) (by rw [hLi]; decide), fun h => absurd (hcl 4 ((putL_ne (i := 0) (by decide)).symm.trans h) 0 (by decide)) (by rw [hLi]; decide), fun h => absurd (hcl 5 ((putL_ne (i := 0) (by decide)).symm.trans h) 0 (by decide)) (by rw [hLi]; decide), fun h => absurd (hcl 6 ((putL_ne (i := 0) (by decide)).symm.trans h) 0 (by decide)) (by rw [hLi]; decide), fun h => (by first | exact F7.out ((putL_ne (i := 0) (by decide)).symm.trans h) | rfl), fun h => absurd (hcl 8 ((putL_ne (i := 0) (by decide)).symm.trans h) 0 (by decide)) (by rw [hLi]; decide), fun h => absurd (hcl 9 ((putL_ne (i := 0) (by decide)).symm.trans h) 0 (by decide)) (by rw [hLi]; decide), fun h => absurd (hcl 10 ((putL_ne (i := 0) (by decide)).symm.trans h) 0 (by decide)) (by rw [hLi]; decide)⟩
          · refine wpOp_doG 1 (by rfl) (by rfl) ?_
            go_wp2_with fail
            refine (who_any ⟨#[99]⟩ wx).mono ?_
            rintro e9 wn ⟨rfl, hb⟩
            show I (putL L 1) _ _
            exact (HI.out (putL L 1) _ _).2 ⟨_, _, _, _, _, _, _, _, _, _, vo9, q9, rfl, HS.out.later hb, E0.out.later hb, fun h h' => (E1.out ((putL_ne (i := 1) (by decide)).symm.trans h) ((putL_ne (i := 1) (by decide)).symm.trans h')).later hb, below_next E2.out hb, E3.out.later hb, fun h => (by first | exact F0.out ((putL_ne (i := 1) (by decide)).symm.trans h) | rfl), fun _ => rfl, fun h => absurd (hcl 2 ((putL_ne (i := 1) (by decide)).symm.trans h) 1 (by decide)) (by rw [hLi]; decide), fun h => absurd (hcl 3 ((putL_ne (i := 1) (by decide)).symm.trans h) 1 (by decide)) (by rw [hLi]; decide), fun h => absurd (hcl 4 ((putL_ne (i := 1) (by decide)).symm.trans h) 1 (by decide)) (by rw [hLi]; decide), fun h => absurd (hcl 5 ((putL_ne (i := 1) (by decide)).symm.trans h) 1 (by decide)) (by rw [hLi]; decide), fun h => absurd (hcl 6 ((putL_ne (i := 1) (by decide)).symm.trans h) 1 (by decide)) (by rw [hLi]; decide), fun h => (by first | exact F7.out ((putL_ne (i := 1) (by decide)).symm.trans h) | rfl), fun h => absurd (hcl 8 ((putL_ne (i := 1) (by decide)).symm.trans h) 1 (by decide)) (by rw [hLi]; decide), fun h => absurd (hcl 9 ((putL_ne (i := 1) (by decide)).symm.trans h) 1 (by decide)) (by rw [hLi]; decide), fun h => absurd (hcl 10 ((putL_ne (i := 1) (by decide)).symm.trans h) 1 (by decide)) (by rw [hLi]; decide)⟩
          · have f0 := F0.out (hanc 0 (by decide))
            have f1 := F1.out (hanc 1 (by decide))
            have g0 := f0
            have g1 := f1
            subst g0 g1
            refine wpOp_doG 2 (by rfl) (by rfl) ?_
            go_wp2_with fail
            refine (HK.out.yes 8 (noV, ak) cC 2 nilS [] wx (HT.out.later HS.out) (vsl_nil0 _) sz0 (by decide) HM.out mayRC (okX_8 _)).mono ?_
            rintro e9 wn ⟨vo, rfl, ho9, hb⟩
            have ho9 := ho9.base HS.out.size
            rw [ou_rd ak cC] at ho9
            rw [nx_rd ak cC]
            show I (putL L 2) _ _
            exact (HI.out (putL L 2) _ _).2 ⟨_, _, _, _, _, _, _, _, _, _, vo, q9, rfl, HS.out.later hb, E0.out.later hb, fun h h' => (E1.out ((putL_ne (i := 2) (by decide)).symm.trans h) ((putL_ne (i := 2) (by decide)).symm.trans h')).later hb, below_next E2.out hb, E3.out.later hb, fun h => (by first | exact F0.out ((putL_ne (i := 2) (by decide)).symm.trans h) | rfl), fun h => (by first | exact F1.out ((putL_ne (i := 2) (by decide)).symm.trans h) | rfl), fun _ => ⟨rfl, ho9⟩, fun h => absurd (hcl 3 ((putL_ne (i := 2) (by decide)).symm.trans h) 2 (by decide)) (by rw [hLi]; decide), fun h => absurd (hcl 4 ((putL_ne (i := 2) (by decide)).symm.trans h) 2 (by decide)) (by rw [hLi]; decide), fun h => absurd (hcl 5 ((putL_ne (i := 2) (by decide)).symm.trans h) 2 (by decide)) (by rw [hLi]; decide), fun h => absurd (hcl 6 ((putL_ne (i := 2) (by decide)).symm.trans h) 2 (by decide)) (by rw [hLi]; decide), fun h => (by first | exact F7.out ((putL_ne (i := 2) (by decide)).symm.trans h) | rfl), fun h => absurd (hcl 8 ((putL_ne (i := 2) (by decide)).symm.trans h) 2 (by decide)) (by rw [hLi]; decide), fun h => absurd (hcl 9 ((putL_ne (i := 2) (by decide)).symm.trans h) 2 (by decide)) (by rw [hLi]; decide), fun h => absurd (hcl 10 ((putL_ne (i := 2) (by decide)).symm.trans h) 2 (by decide)) (by rw [hLi]; decide)⟩
          · have f0 := F0.out (hanc 0 (by decide))
            have f1 := F1.out (hanc 1 (by decide))
            have f2 := F2.out (hanc 2 (by decide))
            have f := f2.1
            subst f
            refine YieldsIf.wpOp (S := fun _ => True) (v := .tuple #[.agg (stH 8 (noV, ak) nilS).toArray, vo9, .bool true]) (by rfl) (.inl ⟨rfl, fun w _ => rfl⟩) trivial ?_
            simp only [Act.put, List.setIfInBounds_toArray, List.set_cons_zero, List.set_cons_succ]
            have hb : Below wx.heap.size wx wx := Below.refl _ _
            show I (putL L 3) _ _
            exact (HI.out (putL L 3) _ _).2 ⟨_, _, _, _, _, _, _, _, _, _, vo9, q9, rfl, HS.out.later hb, E0.out.later hb, fun h h' => (E1.out ((putL_ne (i := 3) (by decide)).symm.trans h) ((putL_ne (i := 3) (by decide)).symm.trans h')).later hb, below_next E2.out hb, E3.out.later hb, fun h => (by first | exact F0.out ((putL_ne (i := 3) (by decide)).symm.trans h) | rfl), fun h => (by first | exact F1.out ((putL_ne (i := 3) (by decide)).symm.trans h) | rfl), fun h => (fun q => ⟨(by first | exact q.1 | rfl), q.2.later hb⟩) (F2.out ((putL_ne (i := 3) (by decide)).symm.trans h)), fun _ => rfl, fun h => absurd (hcl 4 ((putL_ne (i := 3) (by decide)).symm.trans h) 3 (by decide)) (by rw [hLi]; decide), fun h => absurd (hcl 5 ((putL_ne (i := 3) (by decide)).symm.trans h) 3 (by decide)) (by rw [hLi]; decide), fun h => absurd (hcl 6 ((putL_ne (i := 3) (by decide)).symm.trans h) 3 (by decide)) (by rw [hLi]; decide), fun h => (by first | exact F7.out ((putL_ne (i := 3) (by decide)).symm.trans h) | rfl), fun h => absurd (hcl 8 ((putL_ne (i := 3) (by decide)).symm.trans h) 3 (by decide)) (by rw [hLi]; decide), fun h => absurd (hcl 9 ((putL_ne (i := 3) (by decide)).symm.trans h) 3 (by decide)) (by rw [hLi]; decide), fun h => absurd (hcl 10 ((putL_ne (i := 3) (by decide)).symm.trans h) 3 (by decide)) (by rw [hLi]; decide)⟩
          · have f0 := F0.out (hanc 0 (by decide))
            have f1 := F1.out (hanc 1 (by decide))
            have f2 := F2.out (hanc 2 (by decide))
            have f3 := F3.out (hanc 3 (by decide))
            have f := f3
            subst f
            refine YieldsIf.wpOp (S := fun _ => True) (v := .agg (stH 8 (noV, ak) nilS).toArray) (by rfl) (.inl ⟨rfl, fun w _ => by go_simp⟩) trivial ?_
            simp only [Act.put, List.setIfInBounds_toArray, List.set_cons_zero, List.set_cons_succ]
            have hb : Below wx.heap.size wx wx := Below.refl _ _
            show I (putL L 4) _ _
            exact (HI.out (putL L 4) _ _).2 ⟨_, _, _, _, _, _, _, _, _, _, vo9, q9, rfl, HS.out.later hb, E0.out.later hb, fun h h' => (E1.out ((putL_ne (i := 4) (by decide)).symm.trans h) ((putL_ne (i := 4) (by decide)).symm.trans h')).later hb, below_next E2.out hb, E3.out.later hb, fun h => (by first | exact F0.out ((putL_ne (i := 4) (by decide)).symm.trans h) | rfl), fun h => (by first | exact F1.out ((putL_ne (i := 4) (by decide)).symm.trans h) | rfl), fun h => (fun q => ⟨(by first | exact q.1 | rfl), q.2.later hb⟩) (F2.out ((putL_ne (i := 4) (by decide)).symm.trans h)), fun h => (by first | exact F3.out ((putL_ne (i := 4) (by decide)).symm.trans h) | rfl), fun _ => rfl, fun h => (by first | exact F5.out ((putL_ne (i := 4) (by decide)).symm.trans h) | rfl), fun h => (by first | exact F6.out ((putL_ne (i := 4) (by decide)).symm.trans h) | rfl), fun h => (by first | exact F7.out ((putL_ne (i := 4) (by decide)).symm.trans h) | rfl), fun h => absurd (hcl 8 ((putL_ne (i := 4) (by decide)).symm.trans h) 4 (by decide)) (by rw [hLi]; decide), fun h => absurd (hcl 9 ((putL_ne (i := 4) (by decide)).symm.trans h) 4 (by decide)) (by rw [hLi]; decide), fun h => absurd (hcl 10 ((putL_ne (i := 4) (by decide)).symm.trans h) 4 (by decide)) (by rw [hLi]; decide)⟩
          · have f0 := F0.out (hanc 0 (by decide))
            have f1 := F1.out (hanc 1 (by decide))
            have f2 := F2.out (hanc 2 (by decide))
            have f3 := F3.out (hanc 3 (by decide))
            have f := f3
            subst f
            refine YieldsIf.wpOp (S := fun _ => True) (v := vo9) (by rfl) (.inl ⟨rfl, fun w _ => by go_simp⟩) trivial ?_
            simp only [Act.put, List.setIfInBounds_toArray, List.set_cons_zero, List.set_cons_succ]
            have hb : Below wx.heap.size wx wx := Below.refl _ _
            show I (putL L 5) _ _
            exact (HI.out (putL L 5) _ _).2 ⟨_, _, _, _, _, _, _, _, _, _, vo9, q9, rfl, HS.out.later hb, E0.out.later hb, fun h h' => (E1.out ((putL_ne (i := 5) (by decide)).symm.trans h) ((putL_ne (i := 5) (by decide)).symm.trans h')).later hb, below_next E2.out hb, E3.out.later hb, fun h => (by first | exact F0.out ((putL_ne (i := 5) (by decide)).symm.trans h) | rfl), fun h => (by first | exact F1.out ((putL_ne (i := 5) (by decide)).symm.trans h) | rfl), fun h => (fun q => ⟨(by first | exact q.1 | rfl), q.2.later hb⟩) (F2.out ((putL_ne (i := 5) (by decide)).symm.trans h)), fun h => (by first | exact F3.out ((putL_ne (i := 5) (by decide)).symm.trans h) | rfl), fun h => (by first | exact F4.out ((putL_ne (i := 5) (by decide)).symm.trans h) | rfl), fun _ => rfl, fun h => (by first | exact F6.out ((putL_ne (i := 5) (by decide)).symm.trans h) | rfl), fun h => (by first | exact F7.out ((putL_ne (i := 5) (by decide)).symm.trans h) | rfl), fun h => (fun q => q.later hb) (F8.out ((putL_ne (i := 5) (by decide)).symm.trans h)), fun h => absurd (hcl 9 ((putL_ne (i := 5) (by decide)).symm.trans h) 5 (by decide)) (by rw [hLi]; decide), fun h => (by first | exact F10.out ((putL_ne (i := 5) (by decide)).symm.trans h) | rfl)⟩
          · have f0 := F0.out (hanc 0 (by decide))
            have f1 := F1.out (hanc 1 (by decide))
            have f2 := F2.out (hanc 2 (by decide))
            have f3 := F3.out (hanc 3 (by decide))
            have f := f3
            subst f
            refine YieldsIf.wpOp (S := fun _ => True) (v := .bool true) (by rfl) (.inl ⟨rfl, fun w _ => by go_simp⟩) trivial ?_
            simp only [Act.put, List.setIfInBounds_toArray, List.set_cons_zero, List.set_cons_succ]
            have hb : Below wx.heap.size wx wx := Below.refl _ _
            show I (putL L 6) _ _
            exact (HI.out (putL L 6) _ _).2 ⟨_, _, _, _, _, _, _, _, _, _, vo9, q9, rfl, HS.out.later hb, E0.out.later hb, fun h h' => (E1.out ((putL_ne (i := 6) (by decide)).symm.trans h) ((putL_ne (i := 6) (by decide)).symm.trans h')).later hb, below_next E2.out hb, E3.out.later hb, fun h => (by first | exact F0.out ((putL_ne (i := 6) (by decide)).symm.trans h) | rfl), fun h => (by first | exact F1.out ((putL_ne (i := 6) (by decide)).symm.trans h) | rfl), fun h => (fun q => ⟨(by first | exact q.1 | rfl), q.2.later hb⟩) (F2.out ((putL_ne (i := 6) (by decide)).symm.trans h)), fun h => (by first | exact F3.out ((putL_ne (i := 6) (by decide)).symm.trans h) | rfl), fun h => (by first | exact F4.out ((putL_ne (i := 6) (by decide)).symm.trans h) | rfl), fun h => (by first | exact F5.out ((putL_ne (i := 6) (by decide)).symm.trans h) | rfl), fun _ => rfl, fun h => (by first | exact F7.out ((putL_ne (i := 6) (by decide)).symm.trans h) | rfl), fun h => (fun q => q.later hb) (F8.out ((putL_ne (i := 6) (by decide)).symm.trans h)), fun h => (by first | exact F9.out ((putL_ne (i := 6) (by decide)).symm.trans h) | rfl), fun h => absurd (hcl 10 ((putL_ne (i := 6) (by decide)).symm.trans h) 6 (by decide)) (by rw [hLi]; decide)⟩
          · refine wpOp_doG 7 (by rfl) (by rfl) ?_
            go_wp2_with fail
            have BO := Blk.new wx (stC 0 noV nilS) 28
            have hb := below_box wx (.cells (stC 0 noV nilS).toArray 28)
            change Blk (wx.alloc (.cells #[.int .i64 0, .int .i64 0, .int .i64 0, .string ⟨#[]⟩, .int .i64 0, .slice none 0 0] 28)) _ _ _ at BO
            change Below _ wx (wx.alloc (.cells #[.int .i64 0, .int .i64 0, .int .i64 0, .string ⟨#[]⟩, .int .i64 0, .slice none 0 0] 28)) at hb
            show I (putL L 7) _ _
            exact (HI.out (putL L 7) _ _).2 ⟨_, _, _, _, _, _, _, _, _, _, vo9, wx.heap.size, rfl, HS.out.later hb, E0.out.later hb, fun _ _ => BO, below_next E2.out hb, E3.out.later hb, fun h => (by first | exact F0.out ((putL_ne (i := 7) (by decide)).symm.trans h) | rfl), fun h => (by first | exact F1.out ((putL_ne (i := 7) (by decide)).symm.trans h) | rfl), fun h => (fun q => ⟨(by first | exact q.1 | rfl), q.2.later hb⟩) (F2.out ((putL_ne (i := 7) (by decide)).symm.trans h)), fun h => (by first | exact F3.out ((putL_ne (i := 7) (by decide)).symm.trans h) | rfl), fun h => (by first | exact F4.out ((putL_ne (i := 7) (by decide)).symm.trans h) | rfl), fun h => (by first | exact F5.out ((putL_ne (i := 7) (by decide)).symm.trans h) | rfl), fun h => (by first | exact F6.out ((putL_ne (i := 7) (by decide)).symm.trans h) | rfl), fun _ => ⟨rfl, HS.out.size, E2.out.size⟩, fun h => absurd (hcl 8 ((putL_ne (i := 7) (by decide)).symm.trans h) 7 (by decide)) (by rw [hLi]; decide), fun h => absurd (hcl 9 ((putL_ne (i := 7) (by decide)).symm.trans h) 7 (by decide)) (by rw [hLi]; decide), fun h => absurd (hcl 10 ((putL_ne (i := 7) (by decide)).symm.trans h) 7 (by decide)) (by rw [hLi]; decide)⟩
          · have f0 := F0.out (hanc 0 (by decide))
            have f1 := F1.out (hanc 1 (by decide))
            have f2 := F2.out (hanc 2 (by decide))
            have f3 := F3.out (hanc 3 (by decide))
            have f4 := F4.out (hanc 4 (by decide))
            have f7 := F7.out (hanc 7 (by decide))
            have BS := E1.out (hanc 7 (by decide)) hLi
            have f := f4
            subst f
            obtain ⟨fa, hq9⟩ := f7
            subst fa
            refine wpOp_doG 8 (by rfl) (by rfl) ?_
            refine wpo_storeB 28 (.tmp 14) (.tmp 90) q9 0 (stH 8 (noV, ak) nilS) (stC 0 noV nilS) 28 infoSt (show 0 + 6 ≤ 6 by decide) (stH_one _ _ rfl) rfl rfl rfl BS ?_
            intro wn BP ho
            replace BP : Blk wn q9 (stH 8 (noV, ak) nilS) 28 := BP
            simp only [Act.put, List.setIfInBounds_toArray, List.set_cons_zero, List.set_cons_succ]
            show I (putL L 8) _ _
            exact (HI.out (putL L 8) _ _).2 ⟨_, _, _, _, _, _, _, _, _, _, vo9, q9, rfl, below_oth HS.out ho hq9.1 hq9.1 HS.out.size, E0.out.oth ho (by have := HZ9.out; have := hq9.2; omega), fun _ h => (by rw [putL_self] at h; cases h), below_oth E2.out ho hq9.2 hq9.2 E2.out.size, E3.out.oth ho BS (by decide), fun h => (by first | exact F0.out ((putL_ne (i := 8) (by decide)).symm.trans h) | rfl), fun h => (by first | exact F1.out ((putL_ne (i := 8) (by decide)).symm.trans h) | rfl), fun h => (fun q => ⟨(by first | exact q.1 | rfl), q.2.oth ho BS (by decide)⟩) (F2.out ((putL_ne (i := 8) (by decide)).symm.trans h)), fun h => (by first | exact F3.out ((putL_ne (i := 8) (by decide)).symm.trans h) | rfl), fun h => (by first | exact F4.out ((putL_ne (i := 8) (by decide)).symm.trans h) | rfl), fun h => (by first | exact F5.out ((putL_ne (i := 8) (by decide)).symm.trans h) | rfl), fun h => (by first | exact F6.out ((putL_ne (i := 8) (by decide)).symm.trans h) | rfl), fun h => (by first | exact F7.out ((putL_ne (i := 8) (by decide)).symm.trans h) | rfl), fun _ => ⟨BP, hq9.1⟩, fun h => absurd (hcl 9 ((putL_ne (i := 8) (by decide)).symm.trans h) 8 (by decide)) (by rw [hLi]; decide), fun h => absurd (hcl 10 ((putL_ne (i := 8) (by decide)).symm.trans h) 8 (by decide)) (by rw [hLi]; decide)⟩
          · have f0 := F0.out (hanc 0 (by decide))
            have f1 := F1.out (hanc 1 (by decide))
            have f2 := F2.out (hanc 2 (by decide))
            have f3 := F3.out (hanc 3 (by decide))
            have f4 := F4.out (hanc 4 (by decide))
            have f5 := F5.out (hanc 5 (by decide))
            have f7 := F7.out (hanc 7 (by decide))
            have f8 := F8.out (hanc 8 (by decide))
            refine YieldsIf.wpOp (S := fun _ => True) (v := t91) (by rfl) (.inl ⟨rfl, fun w _ => rfl⟩) trivial ?_
            simp only [Act.put, List.setIfInBounds_toArray, List.set_cons_zero, List.set_cons_succ]
            have hb : Below wx.heap.size wx wx := Below.refl _ _
            show I (putL L 9) _ _
            exact (HI.out (putL L 9) _ _).2 ⟨_, _, _, _, _, _, _, _, _, _, vo9, q9, rfl, HS.out.later hb, E0.out.later hb, fun h h' => (E1.out ((putL_ne (i := 9) (by decide)).symm.trans h) ((putL_ne (i := 9) (by decide)).symm.trans h')).later hb, below_next E2.out hb, E3.out.later hb, fun h => (by first | exact F0.out ((putL_ne (i := 9) (by decide)).symm.trans h) | rfl), fun h => (by first | exact F1.out ((putL_ne (i := 9) (by decide)).symm.trans h) | rfl), fun h => (fun q => ⟨(by first | exact q.1 | rfl), q.2.later hb⟩) (F2.out ((putL_ne (i := 9) (by decide)).symm.trans h)), fun h => (by first | exact F3.out ((putL_ne (i := 9) (by decide)).symm.trans h) | rfl), fun h => (by first | exact F4.out ((putL_ne (i := 9) (by decide)).symm.trans h) | rfl), fun h => (by first | exact F5.out ((putL_ne (i := 9) (by decide)).symm.trans h) | rfl), fun h => (by first | exact F6.out ((putL_ne (i := 9) (by decide)).symm.trans h) | rfl), fun h => (by first | exact F7.out ((putL_ne (i := 9) (by decide)).symm.trans h) | rfl), fun h => (fun q => q.later hb) (F8.out ((putL_ne (i := 9) (by decide)).symm.trans h)), fun _ => f5, fun h => (by first | exact F10.out ((putL_ne (i := 9) (by decide)).symm.trans h) | rfl)⟩
          · have f0 := F0.out (hanc 0 (by decide))
            have f1 := F1.out (hanc 1 (by decide))
            have f2 := F2.out (hanc 2 (by decide))
            have f3 := F3.out (hanc 3 (by decide))
            have f4 := F4.out (hanc 4 (by decide))
            have f6 := F6.out (hanc 6 (by decide))
            have f7 := F7.out (hanc 7 (by decide))
            have f8 := F8.out (hanc 8 (by decide))
            refine YieldsIf.wpOp (S := fun _ => True) (v := t92) (by rfl) (.inl ⟨rfl, fun w _ => rfl⟩) trivial ?_
            simp only [Act.put, List.setIfInBounds_toArray, List.set_cons_zero, List.set_cons_succ]
            have hb : Below wx.heap.size wx wx := Below.refl _ _
            show I (putL L 10) _ _
            exact (HI.out (putL L 10) _ _).2 ⟨_, _, _, _, _, _, _, _, _, _, vo9, q9, rfl, HS.out.later hb, E0.out.later hb, fun h h' => (E1.out ((putL_ne (i := 10) (by decide)).symm.trans h) ((putL_ne (i := 10) (by decide)).symm.trans h')).later hb, below_next E2.out hb, E3.out.later hb, fun h => (by first | exact F0.out ((putL_ne (i := 10) (by decide)).symm.trans h) | rfl), fun h => (by first | exact F1.out ((putL_ne (i := 10) (by decide)).symm.trans h) | rfl), fun h => (fun q => ⟨(by first | exact q.1 | rfl), q.2.later hb⟩) (F2.out ((putL_ne (i := 10) (by decide)).symm.trans h)), fun h => (by first | exact F3.out ((putL_ne (i := 10) (by decide)).symm.trans h) | rfl), fun h => (by first | exact F4.out ((putL_ne (i := 10) (by decide)).symm.trans h) | rfl), fun h => (by first | exact F5.out ((putL_ne (i := 10) (by decide)).symm.trans h) | rfl), fun h => (by first | exact F6.out ((putL_ne (i := 10) (by decide)).symm.trans h) | rfl), fun h => (by first | exact F7.out ((putL_ne (i := 10) (by decide)).symm.trans h) | rfl), fun h => (fun q => q.later hb) (F8.out ((putL_ne (i := 10) (by decide)).symm.trans h)), fun h => (by first | exact F9.out ((putL_ne (i := 10) (by decide)).symm.trans h) | rfl), fun _ => f6⟩
        · intro L act wx hall hIa
          obtain ⟨t87, t88, t89, t86, t90, t91, t92, t14, t15, t16, vo9, q9, rfl, HS, E0, E1, E2, E3, F0, F1, F2, F3, F4, F5, F6, F7, F8, F9, F10⟩ := (HI.out _ _ _).1 hIa
          have f0 := F0.out (hall 0 (by decide))
          have f1 := F1.out (hall 1 (by decide))
          have f2 := F2.out (hall 2 (by decide))
          have f3 := F3.out (hall 3 (by decide))
          have f4 := F4.out (hall 4 (by decide))
          have f5 := F5.out (hall 5 (by decide))
          have f6 := F6.out (hall 6 (by decide))
          have f7 := F7.out (hall 7 (by decide))
          have f8 := F8.out (hall 8 (by decide))
          have f9 := F9.out (hall 9 (by decide))
          have f10 := F10.out (hall 10 (by decide))
          clear hIa HI F0 F1 F2 F3 F4 F5 F6 F7 F8 F9 F10
          show K9 _ _
          apply hK9
          clear hK9
          have ho := f2.2
          rw [← f9] at ho
          have HO3 : Hid (OwnV wx w.heap.size t15 [vN' ak]) := ho
          have HO2 : Hid (OwnV wx w.heap.size t12 [vN' ak]) := E3.out
          have g16 : Hid (t16 = .bool true) := f10
          have HB9 : Hid (Below w.heap.size w wx) := HS.out
          clear ho E0 E1 E2 E3 HS f0 f1 f2 f3 f4 f5 f6 f7 f8 f9 f10
          generalize wx = w6 at HB9 HO2 HO3 ⊢
          have h13 := g13.out
          have h16 := g16.out
          subst h13 h16
          clear g13 g16
          go_wp2_with fail
          have hw : wrap64 sk = ak := HSA.out
          have hy := own_one w6 w.heap.size HB9.out.size (vN' (wrap64 sk))
          have bx := below_box w6 (.cells (encV (vN' (wrap64 sk))).toArray 25)
          have HO2x := HO2.out.later bx
          have HO3x := HO3.out.later bx
          have HBx : Below w.heap.size w _ := below_next HB9.out bx
          change OwnV (w6.alloc (.cells #[.int .i64 1, .int .i64 (wrap64 sk), .string ⟨#[]⟩] 25)) _ _ _ at hy HO2x HO3x
          change Below _ w (w6.alloc (.cells #[.int .i64 1, .int .i64 (wrap64 sk), .string ⟨#[]⟩] 25)) at HBx
          clear bx
          generalize w6.alloc (.cells #[.int .i64 1, .int .i64 (wrap64 sk), .string ⟨#[]⟩] 25) = w7 at hy HO2x HO3x HBx ⊢
          rw [hw] at hy
          have HY : Hid (VSl w7 (.slice (some ⟨w6.heap.size, 0, none⟩) 1 1) [vN' ak]) := hy.vsl
          have HO3y : Hid (VSl w7 t15 [vN' ak]) := HO3x.vsl
          have HBy : Hid (Below w.heap.size w w7) := HBx
          refine (same_any t12 _ [vN' ak] [vN' ak] w7 HO2x.vsl HY.out (by simp)).mono ?_
          rintro e w8 ⟨rfl, hb8⟩
          rw [sameL_self]
          have HB8 : Hid (Below w7.heap.size w7 w8) := hb8
          clear hb8 hy HO2x HO3x HBx hw
          go_wp2_with fail
          refine (same_any t15 _ [vN' ak] [vN' ak] w8 (HO3y.out.later HB8.out) (HY.out.later HB8.out) (by simp)).mono ?_
          rintro e w9 ⟨rfl, hb9⟩
          rw [sameL_self]
          go_wp2
          go_ret
          exact ⟨rfl, below_next (below_next HBy.out HB8.out) hb9⟩
end Go.Proofs.YtpboleifllcehaaDoor
