/- The walk of BagTurns, on what is asked of New and Step. Conditions: the table of signs lies in memory. -/
import Derived.Test.YtgiefgmhjcjabaaDoorGI
import Derived.Test.YtgiefgmhjcjabaaDoorUK
import Derived.OrdersHeld
namespace Go.Proofs.YtgiefgmhjcjabaaDoor
open Go.RowKit Go.PlainAid Ln Go.Sort
set_option linter.unusedVariables false
set_option linter.unusedSimpArgs false

/-- a state of a set lies here, its list a row that the call owns -/
structure Hs (w wr : World) (z : Nat) (vl : Value) (L : List Val) : Prop where
  s : Blk wr z (stC 3 noV vl) 28
  l : OwnV wr w.heap.size vl L
  z : w.heap.size ≤ z
theorem Hs.later {w wr wn : World} {z : Nat} {vl : Value} {L : List Val} (h : Hs w wr z vl L) (hb : Below wr.heap.size wr wn) : Hs w wn z vl L := ⟨h.s.later hb, h.l.later hb, h.z⟩
theorem Hs.oth {w wr wn : World} {z p : Nat} {vl : Value} {L : List Val} {c : List Value} (h : Hs w wr z vl L) (ho : Oth p p wr wn) (hb : Blk wr p c 28) (hp : z ≠ p) : Hs w wn z vl L := ⟨h.s.oth ho hp hp, h.l.oth ho hb (by decide), h.z⟩
/-- what lay stays -/
def StW (w wx : World) : Prop := Below w.heap.size w wx
theorem StW.later {w wx wy : World} (h : StW w wx) (hb : Below wx.heap.size wx wy) : StW w wy := below_next h hb
theorem may_add {y : Val} (h : nV y = true) : mayD 3 ⟨vN 1, 4, [y]⟩ = true := by
  have e1 : nV (vN 1) = true := by kernel_rfl
  have e2 : fi 3 4 = true := by kernel_rfl
  have e3 : (fr 3 4).inn = [2] := by kernel_rfl
  show (nV (vN 1) && (fi 3 4 && fitsL (fr 3 4).inn [y])) = true
  rw [e1, e2, e3, Bool.true_and, Bool.true_and]
  refine fitsL_all rfl fun i hi => ?_
  have e : i = 0 := by simpa using hi
  subst e
  rw [show nth [2] 0 = 2 from rfl, takesB_n (by decide)]
  exact h
theorem may_del {y : Val} (h : nV y = true) : mayD 3 ⟨vN 1, 5, [y]⟩ = true := by
  have e1 : nV (vN 1) = true := by kernel_rfl
  have e2 : fi 3 5 = true := by kernel_rfl
  have e3 : (fr 3 5).inn = [2] := by kernel_rfl
  show (nV (vN 1) && (fi 3 5 && fitsL (fr 3 5).inn [y])) = true
  rw [e1, e2, e3, Bool.true_and, Bool.true_and]
  refine fitsL_all rfl fun i hi => ?_
  have e : i = 0 := by simpa using hi
  subst e
  rw [show nth [2] 0 = 2 from rfl, takesB_n (by decide)]
  exact h
theorem nx_add (l : List Val) (y : Val) : nxB l ⟨vN 1, 4, [y]⟩ = addB y l := nxB_4 rfl
theorem nx_del (l : List Val) (y : Val) : nxB l ⟨vN 1, 5, [y]⟩ = delB y l := nxB_5 rfl
theorem addAll_len (xs : List Val) : (addAll xs).length ≤ xs.length := by
  refine list_snoc (p := fun xs => (addAll xs).length ≤ xs.length) (Nat.le_refl _) (fun l a ih => ?_) xs
  rw [addAll_snoc, List.length_append]
  have := insL_len1 a (addAll l)
  simp; omega
theorem take_nvT (xs : List Val) (k : Nat) (h : k < xs.length) : xs.take (k + 1) = xs.take k ++ [nv xs k] := by
  rw [List.take_add_one, List.getElem?_eq_getElem h, nv_eq xs k h]; rfl
theorem addK_next {xs : List Val} {k : Nat} (h : k < xs.length) : addAll (xs.take (k + 1)) = addB (nv xs k) (addAll (xs.take k)) := by rw [take_nvT xs k h, addAll_snoc]
theorem turn_len (xs : List Val) (b : Nat) : (turn xs b).length = xs.length := by unfold turn; rw [List.length_map, List.length_range]
theorem turn_nv (xs : List Val) (b k : Nat) (h : k < xs.length) : nv (turn xs b) k = nv xs ((k + b) % xs.length) := by
  rw [nv_eq _ k (by rw [turn_len]; exact h)]
  unfold turn
  rw [List.getElem_map, List.getElem_range]
/-- all that stays while another state is made -/
def Rs (w wr : World) (z7 : Nat) (va : Value) (q9 : Nat) (vc : Value) (LA : List Val) (q11 : Nat) (v9 : Val) : Prop := Hs w wr z7 va LA ∧ Hs w wr q9 vc LA ∧ Blk wr q11 (encV v9) 25
theorem Rs.later {w wr wn : World} {z7 q9 q11 : Nat} {va vc : Value} {LA : List Val} {v9 : Val} (h : Rs w wr z7 va q9 vc LA q11 v9) (hb : Below wr.heap.size wr wn) : Rs w wn z7 va q9 vc LA q11 v9 := ⟨h.1.later hb, h.2.1.later hb, h.2.2.later hb⟩
theorem Rs.oth {w wr wn : World} {z7 q9 q11 p : Nat} {va vc : Value} {LA : List Val} {v9 : Val} {c : List Value} (h : Rs w wr z7 va q9 vc LA q11 v9) (ho : Oth p p wr wn) (hb : Blk wr p c 28) (h1 : z7 ≠ p) (h2 : q9 ≠ p) (h3 : q11 ≠ p) : Rs w wn z7 va q9 vc LA q11 v9 := ⟨h.1.oth ho hb h1, h.2.1.oth ho hb h2, h.2.2.oth ho h3 h3⟩
def S28 (w : World) (q : Nat) (e : Val) (wx : World) : Prop := Below w.heap.size w wx ∧ Blk wx q (encV e) 25
theorem S28.later {w wx wy : World} {q : Nat} {e : Val} (h : S28 w q e wx) (hb : Below wx.heap.size wx wy) : S28 w q e wy := ⟨below_next h.1 hb, h.2.later hb⟩
def L1 (w wr : World) (z : Nat) (L : List Val) : Prop := ∃ vl, Hs w wr z vl L
def L2 (w wr : World) (z : Nat) (La Lb : List Val) : Prop := ∃ va vb, Hs w wr z va La ∧ Hs w wr (z + 1) vb Lb
theorem at_range {w : World} {b o : Nat} {x : Val} (h : At w b o x) : w.rangeAt b o (encV x) := by
  intro j u hj
  rcases j with _ | _ | _ | j
  · simp [encV] at hj; subst hj; exact h.1
  · simp [encV] at hj; subst hj; exact h.2.1
  · simp [encV] at hj; subst hj; exact h.2.2
  · simp [encV] at hj
/-- all but x, of the first k -/
def butK (xs : List Val) (x : Val) (k : Nat) : List Val := (xs.take k).filter fun y => decide (y ≠ x)
theorem butK_next {xs : List Val} {x : Val} {k : Nat} (h : k < xs.length) : butK xs x (k + 1) = if nv xs k = x then butK xs x k else butK xs x k ++ [nv xs k] := by
  unfold butK
  rw [take_nvT xs k h, List.filter_append]
  by_cases e : nv xs k = x
  · rw [if_pos e]; simp [e]
  · rw [if_neg e]; simp [e]
set_option maxRecDepth 100000 in
set_option maxHeartbeats 40000000 in
theorem law_turnsB (K : BagOK) (v : Value) (xs : List Val) (by' : Int) (w : World) (ht : Tb w) (hv : VSl w v xs) (hb0 : 0 ≤ by') (hb1 : by' < 256) : Calls Tryd.prog 5 #[v, .int .u8 by'] w fun e w' => e = .returned (.bool true) ∧ Below w.heap.size w w' := by
  have mixed : Tryd.prog.follows .mixedOrders = true := by kernel_rfl
  obtain ⟨bn, hbn⟩ : ∃ bn : Nat, by' = (bn : Int) := ⟨by'.toNat, by omega⟩
  subst hbn
  have hbn : bn < 256 := by omega
  have HBn : Hid (bn < 256) := hbn
  clear hb0 hb1 hbn
  have HT : Hid (Tb w) := ht
  have HV : Hid (VSl w v xs) := hv
  have HW : Hid (∀ w', Below w.heap.size w w' → Calls Tryd.prog 6 #[] w' fun e w'' => e = .returned (.bool true) ∧ Below w'.heap.size w' w'') := fun w' hb => wakes_anyB K w' (ht.later hb)
  have HK : Hid BagOK := K
  clear ht hv K
  obtain ⟨a, c, rfl, hc1, hc2, _⟩ := HV.out.form
  obtain ⟨n, hn⟩ : ∃ n, xs.length = n := ⟨_, rfl⟩
  have HN : Hid (xs.length = n) := hn
  rw [hn] at hc1 HV ⊢
  clear hn
  by_cases h30 : 30 < n
  · have h30' : (30 : Int) < (n : Int) := by omega
    go_enter Tryd.func5, Tryd.ntmps5
    go_wp2_with (go_at_call 6; refine (HW.out _ (Below.refl _ _)).mono ?_; rintro e w1 ⟨rfl, hb1⟩)
    go_ret
    exact ⟨rfl, hb1⟩
  have h30' : ¬ (30 : Int) < (n : Int) := by omega
  go_enter Tryd.func5, Tryd.ntmps5
  go_wp2_with (go_at_call 6; refine (HW.out _ (Below.refl _ _)).mono ?_; rintro e w1 ⟨rfl, hb1⟩)
  have HB1 : Hid (Below w.heap.size w w1) := hb1
  clear hb1 HW
  -- they are names, their texts short
  go_loopw [29] (fun i wr => ∃ k : Nat, k ≤ n ∧ i = .int .i64 (k : Int) ∧ (∀ j, j < k → nV (nv xs j) = true ∧ (nv xs j).2.2.size ≤ 100) ∧ Below w.heap.size w wr) (fun i wr => n - (intOf i).toNat)
  case atStart => exact ⟨0, by omega, rfl, fun j h => absurd h (Nat.not_lt_zero j), HB1.out⟩
  case round =>
    obtain ⟨k, hk, rfl, hall, hbw⟩ := hrel
    have HA : Hid (∀ j, j < k → nV (nv xs j) = true ∧ (nv xs j).2.2.size ≤ 100) := hall
    have HB : Hid (Below w.heap.size w wr) := hbw
    clear hall hbw HB1
    by_cases hlt : k < n
    · have hlt' : (k : Int) < (n : Int) := by omega
      obtain ⟨b, o, c', hv1, hbl, _, hat⟩ := vsl_first HV.out (by rw [HN.out]; omega)
      injection hv1 with hv1 hv2 hv3
      subst hv1 hv3
      clear hv2
      obtain ⟨c0, c1, c2⟩ := (hat k (by rw [HN.out]; exact hlt)).later hbl HB.out
      obtain ⟨y, hy⟩ : ∃ y, nv xs k = y := ⟨_, rfl⟩
      have HY : Hid (nv xs k = y) := hy
      rw [hy] at c0 c1 c2
      clear hy hat hbl
      have bx := below_box wr (.cells (encV y).toArray 25)
      have HB2 : Hid (Below w.heap.size w (wr.alloc (.cells (encV y).toArray 25))) := below_next HB.out bx
      change Hid (Below _ w (wr.alloc (.cells #[.int .i64 y.1, .int .i64 y.2.1, .string y.2.2] 25))) at HB2
      clear HB bx
      by_cases hsz : 100 < y.2.2.size
      · have hsz' : (100 : Int) < (y.2.2.size : Int) := by omega
        go_wp2
        go_ret
        exact ⟨rfl, HB2.out⟩
      have hsz' : ¬ (100 : Int) < (y.2.2.size : Int) := by omega
      have hNm := fun w => name_any y.1 y.2.1 y.2.2 w (by omega)
      cases hny : nameB y.1 y.2.1 y.2.2
      · rw [hny] at hNm
        go_wp2_with (go_at_call 18; refine (hNm _).mono ?_; rintro e w7 ⟨rfl, hb7⟩)
        go_ret
        exact ⟨rfl, below_next HB2.out hb7⟩
      rw [hny] at hNm
      have HNy : Hid (nV y = true) := hny
      have HSy : Hid (y.2.2.size ≤ 100) := Nat.le_of_not_lt hsz
      clear hny
      go_wp2_with (go_at_call 18; refine (hNm _).mono ?_; rintro e w7 ⟨rfl, hb7⟩)
      go_roundw
      case rel =>
        refine ⟨k + 1, by omega, by go_num, fun j hj => ?_, below_next HB2.out hb7⟩
        by_cases e : j = k
        · subst e; rw [HY.out]; exact ⟨HNy.out, HSy.out⟩
        · exact HA.out j (by omega)
      case measure => simp [intOf]; omega
    · have e : k = n := by omega
      subst e
      have hN := fun w => HK.out.new 3 w
      rw [if_pos (by kernel_rfl), show ownB 3 = true by kernel_rfl] at hN
      simp only [stC, noV] at hN
      go_wp2_with (go_at_call 7; refine (hN _).mono ?_; rintro e w2 ⟨rfl, hb2⟩)
      clear hN
      have hb2' : Below w.heap.size w w2 := below_next HB.out hb2
      have T := two_laid w2 (stC 3 noV nilS) (stC 3 noV nilS) 28 28
      have HB3 : Hid (Below w.heap.size w ((w2.alloc (.cells (stC 3 noV nilS).toArray 28)).alloc (.cells (stC 3 noV nilS).toArray 28))) := below_next hb2' T.2.2
      have HA0 : Hid (Hs w ((w2.alloc (.cells (stC 3 noV nilS).toArray 28)).alloc (.cells (stC 3 noV nilS).toArray 28)) w2.heap.size nilS []) := ⟨T.1, OwnV.nil _ _, hb2'.size⟩
      have HA1 : Hid (Hs w ((w2.alloc (.cells (stC 3 noV nilS).toArray 28)).alloc (.cells (stC 3 noV nilS).toArray 28)) (w2.heap.size + 1) nilS []) := ⟨T.2.1, OwnV.nil _ _, Nat.le_succ_of_le hb2'.size⟩
      change Hid (Below _ w ((w2.alloc (.cells #[.int .i64 3, .int .i64 0, .int .i64 0, .string noB, .int .i64 0, .slice none 0 0] 28)).alloc (.cells #[.int .i64 3, .int .i64 0, .int .i64 0, .string noB, .int .i64 0, .slice none 0 0] 28))) at HB3
      change Hid (Hs w ((w2.alloc (.cells #[.int .i64 3, .int .i64 0, .int .i64 0, .string noB, .int .i64 0, .slice none 0 0] 28)).alloc (.cells #[.int .i64 3, .int .i64 0, .int .i64 0, .string noB, .int .i64 0, .slice none 0 0] 28)) _ _ _) at HA0 HA1
      clear T hb2 hb2' HB
      generalize (w2.alloc (.cells #[.int .i64 3, .int .i64 0, .int .i64 0, .string noB, .int .i64 0, .slice none 0 0] 28)).alloc (.cells #[.int .i64 3, .int .i64 0, .int .i64 0, .string noB, .int .i64 0, .slice none 0 0] 28) = w3 at HB3 HA0 HA1 ⊢
      obtain ⟨z7, hz7⟩ : ∃ z7, w2.heap.size = z7 := ⟨_, rfl⟩
      rw [hz7] at HA0 HA1
      simp only [hz7]
      clear hz7
      go_loopw [50] (fun i wr => ∃ j : Nat, j ≤ k ∧ i = .int .i64 (j : Int) ∧ L2 w wr z7 (addAll (xs.take j)) (addAll ((turn xs bn).take j)) ∧ Below w.heap.size w wr) (fun i wr => k - (intOf i).toNat)
      case atStart => exact ⟨0, by omega, rfl, ⟨nilS, nilS, HA0.out, HA1.out⟩, HB3.out⟩
      case round =>
        obtain ⟨j, hj, rfl, ⟨va, vb, hsa, hsb⟩, hbw⟩ := hrel
        have HSa : Hid (Hs w wr z7 va (addAll (xs.take j))) := hsa
        have HSb : Hid (Hs w wr (z7 + 1) vb (addAll ((turn xs bn).take j))) := hsb
        have HB : Hid (Below w.heap.size w wr) := hbw
        clear hsa hsb hbw HA0 HA1 HB3
        by_cases hlt2 : j < k
        · have hlt2' : (j : Int) < (k : Int) := by omega
          have hjm : (j : Int) + 1 ≤ 9223372036854775807 := by omega
          obtain ⟨b, o, c', hv1, hbl, _, hat⟩ := vsl_first HV.out (by rw [HN.out]; omega)
          injection hv1 with hv1 hv2 hv3
          subst hv1 hv3
          clear hv2
          have HAt : Hid (∀ wx, StW w wx → ∀ i, i < k → wx.rangeAt b (o + i * 3) (encV (nv xs i))) := fun wx hx i hi => at_range ((hat i (by rw [HN.out]; exact hi)).later hbl hx)
          clear hat hbl
          go_wp2_with fail
          rename_i K9 hK9
          have HSz : Hid (∀ i, i < k → nV (nv xs i) = true ∧ (nv xs i).2.2.size ≤ 100) := HA
          have hle : Hid (Below w.heap.size w wr) := HB
          obtain ⟨y, hy⟩ : ∃ y, nv xs j = y := ⟨_, rfl⟩
          have HYs : Hid (nV y = true ∧ y.2.2.size ≤ 100) := by rw [← hy]; exact HA.out j hlt2
          have HEl : Hid (∀ wx, StW w wx → wx.rangeAt b (o + j * 3) (encV y)) := by rw [← hy]; exact fun wx hx => HAt.out wx hx j hlt2
          obtain ⟨La, hLa⟩ : ∃ L, addAll (xs.take j) = L := ⟨_, rfl⟩
          obtain ⟨La9, hLa9⟩ : ∃ L, addAll (xs.take (j + 1)) = L := ⟨_, rfl⟩
          have HNxA : Hid (addB y La = La9) := by show _ = _; rw [← hLa, ← hLa9, ← hy]; exact (addK_next (by rw [HN.out]; exact hlt2)).symm
          have HSrtA : Hid (Srt La) := by rw [← hLa]; exact addAll_srt _
          have HLnA : Hid (La.length ≤ 1000) := by
            have h := addAll_len (xs.take j)
            rw [hLa, List.length_take] at h
            exact (by omega : La.length ≤ 1000)
          obtain ⟨Lb, hLb⟩ : ∃ L, addAll ((turn xs bn).take j) = L := ⟨_, rfl⟩
          have HLa9 : Hid (addAll (xs.take (j + 1)) = La9) := hLa9
          have HLb : Hid (addAll ((turn xs bn).take j) = Lb) := hLb
          obtain ⟨m9, hm9⟩ : ∃ m9, (j + bn) % k = m9 := ⟨_, rfl⟩
          obtain ⟨s6, hs6⟩ : ∃ s6, j + bn = s6 := ⟨_, rfl⟩
          have hm9k : m9 < k := by rw [← hm9]; exact Nat.mod_lt _ (by omega)
          obtain ⟨y2, hy2⟩ : ∃ y2, nv xs m9 = y2 := ⟨_, rfl⟩
          have HYt : Hid (nV y2 = true ∧ y2.2.2.size ≤ 100) := by rw [← hy2]; exact HA.out m9 hm9k
          have HEt : Hid (∀ wx, StW w wx → wx.rangeAt b (o + m9 * 3) (encV y2)) := by rw [← hy2]; exact fun wx hx => HAt.out wx hx m9 hm9k
          obtain ⟨Lb9, hLb9⟩ : ∃ L, addAll ((turn xs bn).take (j + 1)) = L := ⟨_, rfl⟩
          have HLb9 : Hid (addAll ((turn xs bn).take (j + 1)) = Lb9) := hLb9
          have HNxB : Hid (addB y2 Lb = Lb9) := by
            show _ = _
            rw [← hLb, ← hLb9, ← hy2, ← hm9, addK_next (by rw [turn_len, HN.out]; exact hlt2), turn_nv xs bn j (by rw [HN.out]; exact hlt2), HN.out]
          have HSrtB : Hid (Srt Lb) := by rw [← hLb]; exact addAll_srt _
          have HLnB : Hid (Lb.length ≤ 1000) := by
            have h := addAll_len ((turn xs bn).take j)
            rw [hLb, List.length_take, turn_len, HN.out] at h
            exact (by omega : Lb.length ≤ 1000)
          have hs6i : (j : Int) + (bn : Int) = (s6 : Int) := by omega
          have hk0 : ((k : Int) == 0) = false := by simp; omega
          have hmod : (s6 : Int) % (k : Int) = (m9 : Int) := by rw [← hm9, ← hs6]; exact (Int.natCast_emod _ _).symm
          have hmod' : (s6 : Int).tmod (k : Int) = (m9 : Int) := by rw [Int.tmod_eq_emod_of_nonneg (by omega)]; exact hmod
          have hs6b : (s6 : Int) ≤ 9223372036854775807 := by have := HBn.out; omega
          have hm9i : (m9 : Int) < (k : Int) := by omega
          clear hm9 hs6 hy2 hLb9
          rw [hLa] at HSa
          rw [hLb] at HSb
          clear hLa hLa9 hLb hy
          have tail16 : ∀ (w' : World) (al9 : Option Addr) (cl9 nl9 : Nat), Hs w w' z7 (.slice al9 nl9 cl9) La9 → Hs w w' (z7 + 1) vb Lb → StW w w' → ∀ t53 t54 t55 t56 t57 t58 t59 t60 t61 t62 t63 t64 : Value, K9 ⟨#[Value.slice (some ⟨b, o, none⟩) k c, Value.int IntKind.u8 (bn : Int), undef, undef, u4, undef, u6, Value.pointer (some ⟨z7, 0, none⟩), Value.bool true, Value.pointer (some ⟨z7 + 1, 0, none⟩), Value.int IntKind.i64 (j : Int), undef, undef, undef, undef, undef, undef, undef, undef, undef, undef, undef, Value.bool true, Value.bool false, Value.slice (some ⟨b, o, none⟩) k c, Value.int IntKind.i64 (k : Int), Value.bool (decide (30 < (k : Int))), Value.slice (some ⟨b, o, none⟩) k c, Value.int IntKind.i64 (k : Int), Value.int IntKind.i64 (k : Int), Value.bool false, u31, u32, u33, u34, u35, u36, u37, u38, u39, u40, u41, u42, Value.tuple #[Value.agg #[Value.int IntKind.i64 3, Value.int IntKind.i64 0, Value.int IntKind.i64 0, Value.string noB, Value.int IntKind.i64 0, nilS], Value.bool true], Value.tuple #[Value.agg #[Value.int IntKind.i64 3, Value.int IntKind.i64 0, Value.int IntKind.i64 0, Value.string noB, Value.int IntKind.i64 0, nilS], Value.bool true], Value.agg #[Value.int IntKind.i64 3, Value.int IntKind.i64 0, Value.int IntKind.i64 0, Value.string noB, Value.int IntKind.i64 0, nilS], Value.bool true, Value.agg #[Value.int IntKind.i64 3, Value.int IntKind.i64 0, Value.int IntKind.i64 0, Value.string noB, Value.int IntKind.i64 0, Value.slice none 0 0], Value.slice (some ⟨b, o, none⟩) k c, Value.int IntKind.i64 (k : Int), Value.int IntKind.i64 (j : Int), Value.bool true, Value.int IntKind.i64 (j : Int), t53, t54, t55, t56, t57, t58, t59, t60, t61, t62, t63, t64, u65, u66, u67, u68, u69, u70, u71, u72, u73, u74, u75, u76, u77, u78, u79, u80, u81, u82, u83, undef, undef, undef, undef, undef, undef, undef, undef, undef, undef, undef, undef, undef, undef, undef, undef, undef, undef, undef, undef, undef, undef, undef, undef, undef, undef, undef, undef, undef, undef, undef, undef, undef, undef, undef, undef, undef, undef, undef, undef, undef, undef, undef, undef, undef, undef, undef, undef, undef, undef, undef, undef, undef, undef, undef, undef, undef, undef, undef, undef, undef, undef, undef, undef, undef, undef, undef, undef, undef, undef, undef, undef, undef, undef, undef], []⟩ w' := by
            intro w' al9 cl9 nl9 HN9 HO9 HS9 t53 t54 t55 t56 t57 t58 t59 t60 t61 t62 t63 t64
            apply hK9
            clear hK9 K9
            go_wp2_with fail
            rename_i K9 hK9
            obtain ⟨va9, hva9⟩ : ∃ va9, Value.slice al9 nl9 cl9 = va9 := ⟨_, rfl⟩
            rw [hva9] at HN9
            have HZa0 : Hid (Hs w w' z7 va9 La9) := HN9
            have HZb0 : Hid (Hs w w' (z7 + 1) vb Lb) := HO9
            have HS0 : Hid (StW w w') := HS9
            clear hva9 HN9 HO9 HS9
            have tail17 : ∀ (w' : World) (al9 : Option Addr) (cl9 nl9 : Nat), Hs w w' (z7 + 1) (.slice al9 nl9 cl9) Lb9 → Hs w w' z7 va9 La9 → StW w w' → ∀ t65 t66 t67 t68 t69 t70 t71 t72 t73 t74 t75 t76 t77 t78 t79 t80 t81 t82 : Value, K9 ⟨#[Value.slice (some ⟨b, o, none⟩) k c, Value.int IntKind.u8 (bn : Int), undef, undef, u4, undef, u6, Value.pointer (some ⟨z7, 0, none⟩), Value.bool true, Value.pointer (some ⟨z7 + 1, 0, none⟩), Value.int IntKind.i64 (j : Int), undef, undef, undef, undef, undef, undef, undef, undef, undef, undef, undef, Value.bool true, Value.bool false, Value.slice (some ⟨b, o, none⟩) k c, Value.int IntKind.i64 (k : Int), Value.bool (decide (30 < (k : Int))), Value.slice (some ⟨b, o, none⟩) k c, Value.int IntKind.i64 (k : Int), Value.int IntKind.i64 (k : Int), Value.bool false, u31, u32, u33, u34, u35, u36, u37, u38, u39, u40, u41, u42, Value.tuple #[Value.agg #[Value.int IntKind.i64 3, Value.int IntKind.i64 0, Value.int IntKind.i64 0, Value.string noB, Value.int IntKind.i64 0, nilS], Value.bool true], Value.tuple #[Value.agg #[Value.int IntKind.i64 3, Value.int IntKind.i64 0, Value.int IntKind.i64 0, Value.string noB, Value.int IntKind.i64 0, nilS], Value.bool true], Value.agg #[Value.int IntKind.i64 3, Value.int IntKind.i64 0, Value.int IntKind.i64 0, Value.string noB, Value.int IntKind.i64 0, nilS], Value.bool true, Value.agg #[Value.int IntKind.i64 3, Value.int IntKind.i64 0, Value.int IntKind.i64 0, Value.string noB, Value.int IntKind.i64 0, Value.slice none 0 0], Value.slice (some ⟨b, o, none⟩) k c, Value.int IntKind.i64 (k : Int), Value.int IntKind.i64 (j : Int), Value.bool true, Value.int IntKind.i64 (j : Int), t53, t54, t55, t56, t57, t58, t59, t60, t61, t62, t63, t64, t65, t66, t67, t68, t69, t70, t71, t72, t73, t74, t75, t76, t77, t78, t79, t80, t81, t82, u83, undef, undef, undef, undef, undef, undef, undef, undef, undef, undef, undef, undef, undef, undef, undef, undef, undef, undef, undef, undef, undef, undef, undef, undef, undef, undef, undef, undef, undef, undef, undef, undef, undef, undef, undef, undef, undef, undef, undef, undef, undef, undef, undef, undef, undef, undef, undef, undef, undef, undef, undef, undef, undef, undef, undef, undef, undef, undef, undef, undef, undef, undef, undef, undef, undef, undef, undef, undef, undef, undef, undef, undef, undef, undef, undef], []⟩ w' := by
              intro w' al9 cl9 nl9 HN9 HO9 HS9 t65 t66 t67 t68 t69 t70 t71 t72 t73 t74 t75 t76 t77 t78 t79 t80 t81 t82
              apply hK9
              clear hK9 K9
              go_wp2_with fail
              go_roundw
              case rel => exact ⟨j + 1, by omega, by go_num, ⟨_, _, by rw [HLa9.out]; exact HO9, by rw [HLb9.out]; exact HN9⟩, HS9⟩
              case measure => simp [intOf]; omega
            have HTl17 : Hid (∀ (w' : World) (al9 : Option Addr) (cl9 nl9 : Nat), Hs w w' (z7 + 1) (.slice al9 nl9 cl9) Lb9 → Hs w w' z7 va9 La9 → StW w w' → ∀ t65 t66 t67 t68 t69 t70 t71 t72 t73 t74 t75 t76 t77 t78 t79 t80 t81 t82 : Value, K9 ⟨#[Value.slice (some ⟨b, o, none⟩) k c, Value.int IntKind.u8 (bn : Int), undef, undef, u4, undef, u6, Value.pointer (some ⟨z7, 0, none⟩), Value.bool true, Value.pointer (some ⟨z7 + 1, 0, none⟩), Value.int IntKind.i64 (j : Int), undef, undef, undef, undef, undef, undef, undef, undef, undef, undef, undef, Value.bool true, Value.bool false, Value.slice (some ⟨b, o, none⟩) k c, Value.int IntKind.i64 (k : Int), Value.bool (decide (30 < (k : Int))), Value.slice (some ⟨b, o, none⟩) k c, Value.int IntKind.i64 (k : Int), Value.int IntKind.i64 (k : Int), Value.bool false, u31, u32, u33, u34, u35, u36, u37, u38, u39, u40, u41, u42, Value.tuple #[Value.agg #[Value.int IntKind.i64 3, Value.int IntKind.i64 0, Value.int IntKind.i64 0, Value.string noB, Value.int IntKind.i64 0, nilS], Value.bool true], Value.tuple #[Value.agg #[Value.int IntKind.i64 3, Value.int IntKind.i64 0, Value.int IntKind.i64 0, Value.string noB, Value.int IntKind.i64 0, nilS], Value.bool true], Value.agg #[Value.int IntKind.i64 3, Value.int IntKind.i64 0, Value.int IntKind.i64 0, Value.string noB, Value.int IntKind.i64 0, nilS], Value.bool true, Value.agg #[Value.int IntKind.i64 3, Value.int IntKind.i64 0, Value.int IntKind.i64 0, Value.string noB, Value.int IntKind.i64 0, Value.slice none 0 0], Value.slice (some ⟨b, o, none⟩) k c, Value.int IntKind.i64 (k : Int), Value.int IntKind.i64 (j : Int), Value.bool true, Value.int IntKind.i64 (j : Int), t53, t54, t55, t56, t57, t58, t59, t60, t61, t62, t63, t64, t65, t66, t67, t68, t69, t70, t71, t72, t73, t74, t75, t76, t77, t78, t79, t80, t81, t82, u83, undef, undef, undef, undef, undef, undef, undef, undef, undef, undef, undef, undef, undef, undef, undef, undef, undef, undef, undef, undef, undef, undef, undef, undef, undef, undef, undef, undef, undef, undef, undef, undef, undef, undef, undef, undef, undef, undef, undef, undef, undef, undef, undef, undef, undef, undef, undef, undef, undef, undef, undef, undef, undef, undef, undef, undef, undef, undef, undef, undef, undef, undef, undef, undef, undef, undef, undef, undef, undef, undef, undef, undef, undef, undef, undef], []⟩ w') := tail17
            clear tail17 hK9
            refine wp_region_held (S := StW w) mixed ?_
            have HZa : Hs w { w' with drawn := w'.drawn + 1 } z7 va9 La9 := HZa0.out.later (Stay.drew w')
            have HZb : Hs w { w' with drawn := w'.drawn + 1 } (z7 + 1) vb Lb := HZb0.out.later (Stay.drew w')
            have HS : StW w { w' with drawn := w'.drawn + 1 } := below_next HS0.out (Stay.drew w')
            generalize ({ w' with drawn := w'.drawn + 1 } : World) = n0 at HZa HZb HS ⊢
            refine takeH 2 68 (.slice (some ⟨b, o, none⟩) k c) rfl rfl (by kernel_rfl) (by kernel_rfl) (by kernel_rfl) (fun c a w h => h) (.inl ⟨rfl, fun w _ => rfl⟩) HS ?_
            simp only [List.setIfInBounds_toArray, List.set_cons_zero, List.set_cons_succ]
            refine takeH 3 69 (.int .i64 (j : Int)) rfl rfl (by kernel_rfl) (by kernel_rfl) (by kernel_rfl) (fun c a w h => h) (.inl ⟨rfl, fun w _ => rfl⟩) HS ?_
            simp only [List.setIfInBounds_toArray, List.set_cons_zero, List.set_cons_succ]
            refine takeH 4 70 (.int .u8 (bn : Int)) rfl rfl (by kernel_rfl) (by kernel_rfl) (by kernel_rfl) (fun c a w h => h) (.inl ⟨rfl, fun w _ => rfl⟩) HS ?_
            simp only [List.setIfInBounds_toArray, List.set_cons_zero, List.set_cons_succ]
            refine takeH 5 71 (.int .i64 (bn : Int)) rfl rfl (by kernel_rfl) (by kernel_rfl) (by kernel_rfl) (fun c a w h => h) (.inl ⟨rfl, fun w _ => by go_simp; exact IntWalk.i64_in _ ⟨by omega, by have := HBn.out; omega⟩⟩) HS ?_
            simp only [List.setIfInBounds_toArray, List.set_cons_zero, List.set_cons_succ]
            refine takeH 6 72 (.int .i64 (s6 : Int)) rfl rfl (by kernel_rfl) (by kernel_rfl) (by kernel_rfl) (fun c a w h => h) (.inl ⟨rfl, fun w _ => by go_simp; exact IntWalk.i64_in _ ⟨by omega, hs6b⟩⟩) HS ?_
            simp only [List.setIfInBounds_toArray, List.set_cons_zero, List.set_cons_succ]
            refine takeH 7 73 (.slice (some ⟨b, o, none⟩) k c) rfl rfl (by kernel_rfl) (by kernel_rfl) (by kernel_rfl) (fun c a w h => h) (.inl ⟨rfl, fun w _ => rfl⟩) HS ?_
            simp only [List.setIfInBounds_toArray, List.set_cons_zero, List.set_cons_succ]
            refine takeH 8 74 (.int .i64 (k : Int)) rfl rfl (by kernel_rfl) (by kernel_rfl) (by kernel_rfl) (fun c a w h => h) (.inl ⟨rfl, fun w _ => by go_simp⟩) HS ?_
            simp only [List.setIfInBounds_toArray, List.set_cons_zero, List.set_cons_succ]
            refine takeH 9 75 (.int .i64 (m9 : Int)) rfl rfl (by kernel_rfl) (by kernel_rfl) (by kernel_rfl) (fun c a w h => h) (.inl ⟨rfl, fun w _ => by go_simp; omega⟩) HS ?_
            simp only [List.setIfInBounds_toArray, List.set_cons_zero, List.set_cons_succ]
            refine takeH 10 76 (.pointer (some ⟨b, o + m9 * 3, none⟩)) rfl rfl (by kernel_rfl) (by kernel_rfl) (by kernel_rfl) (fun c a w h => h) (.inl ⟨rfl, fun w _ => by go_simp⟩) HS ?_
            simp only [List.setIfInBounds_toArray, List.set_cons_zero, List.set_cons_succ]
            refine takeH 11 77 (.agg #[.int .i64 y2.1, .int .i64 y2.2.1, .string y2.2.2]) rfl rfl (by kernel_rfl) (by kernel_rfl) (by kernel_rfl) (fun c a w h => h) (yieldsIf_load_mid rfl 25 (.tmp 76) rfl b (o + m9 * 3) rfl (encV y2) _ (fun wx hx => HEt.out wx hx) Tryd.underlying25 rfl infoVv) HS ?_
            simp only [List.setIfInBounds_toArray, List.set_cons_zero, List.set_cons_succ]
            refine wpAnyH_all (rs := [0, 1, 12]) (by kernel_rfl) (by simp) (fun i hi => ?_)
            simp only [List.mem_cons, List.not_mem_nil, or_false] at hi
            rcases hi with rfl | rfl | rfl
            · refine wpOp_doG 0 (by rfl) (by rfl) ?_
              refine wp_load_mid 28 (.tmp 9) rfl (z7 + 1) 0 rfl (stC 3 noV vb) _ (Blk.all HZb.s) Tryd.underlying28 rfl infoSt ?_
              simp only [Act.put, List.setIfInBounds_toArray, List.set_cons_zero, List.set_cons_succ]
              obtain ⟨wq1, hnw⟩ : ∃ n, n = n0 := ⟨_, rfl⟩
              subst hnw
              have hb : Below wq1.heap.size wq1 wq1 := Below.refl _ _
              refine ⟨HS.later hb, ?_⟩
              replace HS := HS.later hb
              replace HZb := HZb.later hb
              replace HZa := HZa.later hb
              clear hb
              refine wpAnyH_all (rs := [1, 12]) (by kernel_rfl) (by simp) (fun i hi => ?_)
              simp only [List.mem_cons, List.not_mem_nil, or_false] at hi
              rcases hi with rfl | rfl
              · refine wpOp_doG 1 (by rfl) (by rfl) ?_
                go_wp2_with fail
                refine (num_any 1 wq1).mono ?_
                rintro e wq2 ⟨rfl, hb⟩
                refine ⟨HS.later hb, ?_⟩
                replace HS := HS.later hb
                replace HZb := HZb.later hb
                replace HZa := HZa.later hb
                clear hb
                refine wpAnyH_all (rs := [12]) (by kernel_rfl) (by simp) (fun i hi => ?_)
                obtain rfl : i = 12 := by simpa using hi
                refine wpOp_doG 12 (by rfl) (by rfl) ?_
                go_wp2_with fail
                have HV9 := (own_one wq2 wq2.heap.size (Nat.le_refl _) y2).vsl
                have hb := below_box wq2 (.cells (encV y2).toArray 25)
                obtain ⟨q8, hq8⟩ : ∃ q8, wq2.heap.size = q8 := ⟨_, rfl⟩
                change VSl (wq2.alloc (.cells #[.int .i64 y2.1, .int .i64 y2.2.1, .string y2.2.2] 25)) _ _ at HV9
                change Below _ wq2 (wq2.alloc (.cells #[.int .i64 y2.1, .int .i64 y2.2.1, .string y2.2.2] 25)) at hb
                generalize wq2.alloc (.cells #[.int .i64 y2.1, .int .i64 y2.2.1, .string y2.2.2] 25) = wq3 at HV9 hb ⊢
                simp only [hq8] at HV9 ⊢
                clear hq8
                refine ⟨HS.later hb, ?_⟩
                replace HS := HS.later hb
                replace HZb := HZb.later hb
                replace HZa := HZa.later hb
                clear hb
                refine wpAnyH_all (rs := [13]) (by kernel_rfl) (by simp) (fun i hi => ?_)
                obtain rfl : i = 13 := by simpa using hi
                refine wpOp_doG 13 (by rfl) (by rfl) ?_
                go_wp2_with fail
                refine (HK.out.yes w.heap.size (vN 1) vb Lb 4 (.slice (some ⟨q8, 0, none⟩) 1 1) [y2] wq3 HS.size (HT.out.later HS) HZb.l HSrtB.out HLnB.out HV9 (sz1 _ (by have := HYt.out.2; omega)) (Nat.zero_le _) (may_add HYt.out.1)).mono ?_
                rintro e wq4 ⟨vo, vl9, rfl, -, hl9, -, hb⟩
                rw [nx_add] at hl9
                rw [HNxB.out] at hl9
                obtain ⟨al9, cl9, hf9⟩ := hl9.form
                obtain ⟨nl9, hn9⟩ : ∃ nl9, (Lb9).length = nl9 := ⟨_, rfl⟩
                rw [hn9] at hf9
                subst hf9
                clear hn9
                refine ⟨HS.later hb, ?_⟩
                replace HS := HS.later hb
                replace HZb := HZb.later hb
                replace HZa := HZa.later hb
                replace HV9 := HV9.later hb
                clear hb
                clear HV9
                refine takeH 14 65 (.tuple #[.agg (stC 3 noV (.slice al9 nl9 cl9)).toArray, vo, .bool true]) rfl rfl (by kernel_rfl) (by kernel_rfl) (by kernel_rfl) (fun c a w h => h) (.inl ⟨rfl, fun w _ => rfl⟩) HS ?_
                simp only [List.setIfInBounds_toArray, List.set_cons_zero, List.set_cons_succ]
                refine takeH 15 80 (.agg (stC 3 noV (.slice al9 nl9 cl9)).toArray) rfl rfl (by kernel_rfl) (by kernel_rfl) (by kernel_rfl) (fun c a w h => h) (.inl ⟨rfl, fun w _ => by go_simp⟩) HS ?_
                simp only [List.setIfInBounds_toArray, List.set_cons_zero, List.set_cons_succ]
                refine takeH 16 81 (vo) rfl rfl (by kernel_rfl) (by kernel_rfl) (by kernel_rfl) (fun c a w h => h) (.inl ⟨rfl, fun w _ => by go_simp⟩) HS ?_
                simp only [List.setIfInBounds_toArray, List.set_cons_zero, List.set_cons_succ]
                refine takeH 17 82 (.bool true) rfl rfl (by kernel_rfl) (by kernel_rfl) (by kernel_rfl) (fun c a w h => h) (.inl ⟨rfl, fun w _ => by go_simp⟩) HS ?_
                simp only [List.setIfInBounds_toArray, List.set_cons_zero, List.set_cons_succ]
                refine wpAnyH_all (rs := [18]) (by kernel_rfl) (by simp) (fun i hi => ?_)
                obtain rfl : i = 18 := by simpa using hi
                refine wpOp_doG 18 (by rfl) (by rfl) ?_
                refine wpo_storeB 28 (.tmp 9) (.tmp 80) (z7 + 1) 0 (stC 3 noV (.slice al9 nl9 cl9)) (stC 3 noV vb) 28 infoSt (show 0 + 6 ≤ 6 by decide) (stC_one _ _ rfl) rfl rfl rfl HZb.s ?_
                intro wq5 BP ho
                replace BP : Blk wq5 (z7 + 1) (stC 3 noV (.slice al9 nl9 cl9)) 28 := BP
                have HN9 : Hs w wq5 (z7 + 1) (.slice al9 nl9 cl9) Lb9 := ⟨BP, hl9.oth ho HZb.s (by decide), HZb.z⟩
                have HO9 : Hs w wq5 z7 va9 La9 := HZa.oth ho HZb.s (by omega)
                have HS9 : StW w wq5 := below_oth HS ho HZb.z HZb.z HS.size
                refine ⟨HS9, ?_⟩
                refine wpAnyH_done (by kernel_rfl) ?_ _
                show K9 _ _
                try simp only [Act.put, List.getElem_toArray, List.getElem_cons_succ, List.getElem_cons_zero]
                exact HTl17.out wq5 al9 cl9 nl9 HN9 HO9 HS9 _ _ _ _ _ _ _ _ _ _ _ _ _ _ _ _ _ _
              · refine wpOp_doG 12 (by rfl) (by rfl) ?_
                go_wp2_with fail
                have HV9 := (own_one wq1 wq1.heap.size (Nat.le_refl _) y2).vsl
                have hb := below_box wq1 (.cells (encV y2).toArray 25)
                obtain ⟨q8, hq8⟩ : ∃ q8, wq1.heap.size = q8 := ⟨_, rfl⟩
                change VSl (wq1.alloc (.cells #[.int .i64 y2.1, .int .i64 y2.2.1, .string y2.2.2] 25)) _ _ at HV9
                change Below _ wq1 (wq1.alloc (.cells #[.int .i64 y2.1, .int .i64 y2.2.1, .string y2.2.2] 25)) at hb
                generalize wq1.alloc (.cells #[.int .i64 y2.1, .int .i64 y2.2.1, .string y2.2.2] 25) = wq6 at HV9 hb ⊢
                simp only [hq8] at HV9 ⊢
                clear hq8
                refine ⟨HS.later hb, ?_⟩
                replace HS := HS.later hb
                replace HZb := HZb.later hb
                replace HZa := HZa.later hb
                clear hb
                refine wpAnyH_all (rs := [1]) (by kernel_rfl) (by simp) (fun i hi => ?_)
                obtain rfl : i = 1 := by simpa using hi
                refine wpOp_doG 1 (by rfl) (by rfl) ?_
                go_wp2_with fail
                refine (num_any 1 wq6).mono ?_
                rintro e wq7 ⟨rfl, hb⟩
                refine ⟨HS.later hb, ?_⟩
                replace HS := HS.later hb
                replace HZb := HZb.later hb
                replace HZa := HZa.later hb
                replace HV9 := HV9.later hb
                clear hb
                refine wpAnyH_all (rs := [13]) (by kernel_rfl) (by simp) (fun i hi => ?_)
                obtain rfl : i = 13 := by simpa using hi
                refine wpOp_doG 13 (by rfl) (by rfl) ?_
                go_wp2_with fail
                refine (HK.out.yes w.heap.size (vN 1) vb Lb 4 (.slice (some ⟨q8, 0, none⟩) 1 1) [y2] wq7 HS.size (HT.out.later HS) HZb.l HSrtB.out HLnB.out HV9 (sz1 _ (by have := HYt.out.2; omega)) (Nat.zero_le _) (may_add HYt.out.1)).mono ?_
                rintro e wq8 ⟨vo, vl9, rfl, -, hl9, -, hb⟩
                rw [nx_add] at hl9
                rw [HNxB.out] at hl9
                obtain ⟨al9, cl9, hf9⟩ := hl9.form
                obtain ⟨nl9, hn9⟩ : ∃ nl9, (Lb9).length = nl9 := ⟨_, rfl⟩
                rw [hn9] at hf9
                subst hf9
                clear hn9
                refine ⟨HS.later hb, ?_⟩
                replace HS := HS.later hb
                replace HZb := HZb.later hb
                replace HZa := HZa.later hb
                replace HV9 := HV9.later hb
                clear hb
                clear HV9
                refine takeH 14 65 (.tuple #[.agg (stC 3 noV (.slice al9 nl9 cl9)).toArray, vo, .bool true]) rfl rfl (by kernel_rfl) (by kernel_rfl) (by kernel_rfl) (fun c a w h => h) (.inl ⟨rfl, fun w _ => rfl⟩) HS ?_
                simp only [List.setIfInBounds_toArray, List.set_cons_zero, List.set_cons_succ]
                refine takeH 15 80 (.agg (stC 3 noV (.slice al9 nl9 cl9)).toArray) rfl rfl (by kernel_rfl) (by kernel_rfl) (by kernel_rfl) (fun c a w h => h) (.inl ⟨rfl, fun w _ => by go_simp⟩) HS ?_
                simp only [List.setIfInBounds_toArray, List.set_cons_zero, List.set_cons_succ]
                refine takeH 16 81 (vo) rfl rfl (by kernel_rfl) (by kernel_rfl) (by kernel_rfl) (fun c a w h => h) (.inl ⟨rfl, fun w _ => by go_simp⟩) HS ?_
                simp only [List.setIfInBounds_toArray, List.set_cons_zero, List.set_cons_succ]
                refine takeH 17 82 (.bool true) rfl rfl (by kernel_rfl) (by kernel_rfl) (by kernel_rfl) (fun c a w h => h) (.inl ⟨rfl, fun w _ => by go_simp⟩) HS ?_
                simp only [List.setIfInBounds_toArray, List.set_cons_zero, List.set_cons_succ]
                refine wpAnyH_all (rs := [18]) (by kernel_rfl) (by simp) (fun i hi => ?_)
                obtain rfl : i = 18 := by simpa using hi
                refine wpOp_doG 18 (by rfl) (by rfl) ?_
                refine wpo_storeB 28 (.tmp 9) (.tmp 80) (z7 + 1) 0 (stC 3 noV (.slice al9 nl9 cl9)) (stC 3 noV vb) 28 infoSt (show 0 + 6 ≤ 6 by decide) (stC_one _ _ rfl) rfl rfl rfl HZb.s ?_
                intro wq9 BP ho
                replace BP : Blk wq9 (z7 + 1) (stC 3 noV (.slice al9 nl9 cl9)) 28 := BP
                have HN9 : Hs w wq9 (z7 + 1) (.slice al9 nl9 cl9) Lb9 := ⟨BP, hl9.oth ho HZb.s (by decide), HZb.z⟩
                have HO9 : Hs w wq9 z7 va9 La9 := HZa.oth ho HZb.s (by omega)
                have HS9 : StW w wq9 := below_oth HS ho HZb.z HZb.z HS.size
                refine ⟨HS9, ?_⟩
                refine wpAnyH_done (by kernel_rfl) ?_ _
                show K9 _ _
                try simp only [Act.put, List.getElem_toArray, List.getElem_cons_succ, List.getElem_cons_zero]
                exact HTl17.out wq9 al9 cl9 nl9 HN9 HO9 HS9 _ _ _ _ _ _ _ _ _ _ _ _ _ _ _ _ _ _
            · refine wpOp_doG 1 (by rfl) (by rfl) ?_
              go_wp2_with fail
              refine (num_any 1 n0).mono ?_
              rintro e wq10 ⟨rfl, hb⟩
              refine ⟨HS.later hb, ?_⟩
              replace HS := HS.later hb
              replace HZb := HZb.later hb
              replace HZa := HZa.later hb
              clear hb
              refine wpAnyH_all (rs := [0, 12]) (by kernel_rfl) (by simp) (fun i hi => ?_)
              simp only [List.mem_cons, List.not_mem_nil, or_false] at hi
              rcases hi with rfl | rfl
              · refine wpOp_doG 0 (by rfl) (by rfl) ?_
                refine wp_load_mid 28 (.tmp 9) rfl (z7 + 1) 0 rfl (stC 3 noV vb) _ (Blk.all HZb.s) Tryd.underlying28 rfl infoSt ?_
                simp only [Act.put, List.setIfInBounds_toArray, List.set_cons_zero, List.set_cons_succ]
                obtain ⟨wq11, hnw⟩ : ∃ n, n = wq10 := ⟨_, rfl⟩
                subst hnw
                have hb : Below wq11.heap.size wq11 wq11 := Below.refl _ _
                refine ⟨HS.later hb, ?_⟩
                replace HS := HS.later hb
                replace HZb := HZb.later hb
                replace HZa := HZa.later hb
                clear hb
                refine wpAnyH_all (rs := [12]) (by kernel_rfl) (by simp) (fun i hi => ?_)
                obtain rfl : i = 12 := by simpa using hi
                refine wpOp_doG 12 (by rfl) (by rfl) ?_
                go_wp2_with fail
                have HV9 := (own_one wq11 wq11.heap.size (Nat.le_refl _) y2).vsl
                have hb := below_box wq11 (.cells (encV y2).toArray 25)
                obtain ⟨q8, hq8⟩ : ∃ q8, wq11.heap.size = q8 := ⟨_, rfl⟩
                change VSl (wq11.alloc (.cells #[.int .i64 y2.1, .int .i64 y2.2.1, .string y2.2.2] 25)) _ _ at HV9
                change Below _ wq11 (wq11.alloc (.cells #[.int .i64 y2.1, .int .i64 y2.2.1, .string y2.2.2] 25)) at hb
                generalize wq11.alloc (.cells #[.int .i64 y2.1, .int .i64 y2.2.1, .string y2.2.2] 25) = wq12 at HV9 hb ⊢
                simp only [hq8] at HV9 ⊢
                clear hq8
                refine ⟨HS.later hb, ?_⟩
                replace HS := HS.later hb
                replace HZb := HZb.later hb
                replace HZa := HZa.later hb
                clear hb
                refine wpAnyH_all (rs := [13]) (by kernel_rfl) (by simp) (fun i hi => ?_)
                obtain rfl : i = 13 := by simpa using hi
                refine wpOp_doG 13 (by rfl) (by rfl) ?_
                go_wp2_with fail
                refine (HK.out.yes w.heap.size (vN 1) vb Lb 4 (.slice (some ⟨q8, 0, none⟩) 1 1) [y2] wq12 HS.size (HT.out.later HS) HZb.l HSrtB.out HLnB.out HV9 (sz1 _ (by have := HYt.out.2; omega)) (Nat.zero_le _) (may_add HYt.out.1)).mono ?_
                rintro e wq13 ⟨vo, vl9, rfl, -, hl9, -, hb⟩
                rw [nx_add] at hl9
                rw [HNxB.out] at hl9
                obtain ⟨al9, cl9, hf9⟩ := hl9.form
                obtain ⟨nl9, hn9⟩ : ∃ nl9, (Lb9).length = nl9 := ⟨_, rfl⟩
                rw [hn9] at hf9
                subst hf9
                clear hn9
                refine ⟨HS.later hb, ?_⟩
                replace HS := HS.later hb
                replace HZb := HZb.later hb
                replace HZa := HZa.later hb
                replace HV9 := HV9.later hb
                clear hb
                clear HV9
                refine takeH 14 65 (.tuple #[.agg (stC 3 noV (.slice al9 nl9 cl9)).toArray, vo, .bool true]) rfl rfl (by kernel_rfl) (by kernel_rfl) (by kernel_rfl) (fun c a w h => h) (.inl ⟨rfl, fun w _ => rfl⟩) HS ?_
                simp only [List.setIfInBounds_toArray, List.set_cons_zero, List.set_cons_succ]
                refine takeH 15 80 (.agg (stC 3 noV (.slice al9 nl9 cl9)).toArray) rfl rfl (by kernel_rfl) (by kernel_rfl) (by kernel_rfl) (fun c a w h => h) (.inl ⟨rfl, fun w _ => by go_simp⟩) HS ?_
                simp only [List.setIfInBounds_toArray, List.set_cons_zero, List.set_cons_succ]
                refine takeH 16 81 (vo) rfl rfl (by kernel_rfl) (by kernel_rfl) (by kernel_rfl) (fun c a w h => h) (.inl ⟨rfl, fun w _ => by go_simp⟩) HS ?_
                simp only [List.setIfInBounds_toArray, List.set_cons_zero, List.set_cons_succ]
                refine takeH 17 82 (.bool true) rfl rfl (by kernel_rfl) (by kernel_rfl) (by kernel_rfl) (fun c a w h => h) (.inl ⟨rfl, fun w _ => by go_simp⟩) HS ?_
                simp only [List.setIfInBounds_toArray, List.set_cons_zero, List.set_cons_succ]
                refine wpAnyH_all (rs := [18]) (by kernel_rfl) (by simp) (fun i hi => ?_)
                obtain rfl : i = 18 := by simpa using hi
                refine wpOp_doG 18 (by rfl) (by rfl) ?_
                refine wpo_storeB 28 (.tmp 9) (.tmp 80) (z7 + 1) 0 (stC 3 noV (.slice al9 nl9 cl9)) (stC 3 noV vb) 28 infoSt (show 0 + 6 ≤ 6 by decide) (stC_one _ _ rfl) rfl rfl rfl HZb.s ?_
                intro wq14 BP ho
                replace BP : Blk wq14 (z7 + 1) (stC 3 noV (.slice al9 nl9 cl9)) 28 := BP
                have HN9 : Hs w wq14 (z7 + 1) (.slice al9 nl9 cl9) Lb9 := ⟨BP, hl9.oth ho HZb.s (by decide), HZb.z⟩
                have HO9 : Hs w wq14 z7 va9 La9 := HZa.oth ho HZb.s (by omega)
                have HS9 : StW w wq14 := below_oth HS ho HZb.z HZb.z HS.size
                refine ⟨HS9, ?_⟩
                refine wpAnyH_done (by kernel_rfl) ?_ _
                show K9 _ _
                try simp only [Act.put, List.getElem_toArray, List.getElem_cons_succ, List.getElem_cons_zero]
                exact HTl17.out wq14 al9 cl9 nl9 HN9 HO9 HS9 _ _ _ _ _ _ _ _ _ _ _ _ _ _ _ _ _ _
              · refine wpOp_doG 12 (by rfl) (by rfl) ?_
                go_wp2_with fail
                have HV9 := (own_one wq10 wq10.heap.size (Nat.le_refl _) y2).vsl
                have hb := below_box wq10 (.cells (encV y2).toArray 25)
                obtain ⟨q8, hq8⟩ : ∃ q8, wq10.heap.size = q8 := ⟨_, rfl⟩
                change VSl (wq10.alloc (.cells #[.int .i64 y2.1, .int .i64 y2.2.1, .string y2.2.2] 25)) _ _ at HV9
                change Below _ wq10 (wq10.alloc (.cells #[.int .i64 y2.1, .int .i64 y2.2.1, .string y2.2.2] 25)) at hb
                generalize wq10.alloc (.cells #[.int .i64 y2.1, .int .i64 y2.2.1, .string y2.2.2] 25) = wq15 at HV9 hb ⊢
                simp only [hq8] at HV9 ⊢
                clear hq8
                refine ⟨HS.later hb, ?_⟩
                replace HS := HS.later hb
                replace HZb := HZb.later hb
                replace HZa := HZa.later hb
                clear hb
                refine wpAnyH_all (rs := [0]) (by kernel_rfl) (by simp) (fun i hi => ?_)
                obtain rfl : i = 0 := by simpa using hi
                refine wpOp_doG 0 (by rfl) (by rfl) ?_
                refine wp_load_mid 28 (.tmp 9) rfl (z7 + 1) 0 rfl (stC 3 noV vb) _ (Blk.all HZb.s) Tryd.underlying28 rfl infoSt ?_
                simp only [Act.put, List.setIfInBounds_toArray, List.set_cons_zero, List.set_cons_succ]
                obtain ⟨wq16, hnw⟩ : ∃ n, n = wq15 := ⟨_, rfl⟩
                subst hnw
                have hb : Below wq16.heap.size wq16 wq16 := Below.refl _ _
                refine ⟨HS.later hb, ?_⟩
                replace HS := HS.later hb
                replace HZb := HZb.later hb
                replace HZa := HZa.later hb
                replace HV9 := HV9.later hb
                clear hb
                refine wpAnyH_all (rs := [13]) (by kernel_rfl) (by simp) (fun i hi => ?_)
                obtain rfl : i = 13 := by simpa using hi
                refine wpOp_doG 13 (by rfl) (by rfl) ?_
                go_wp2_with fail
                refine (HK.out.yes w.heap.size (vN 1) vb Lb 4 (.slice (some ⟨q8, 0, none⟩) 1 1) [y2] wq16 HS.size (HT.out.later HS) HZb.l HSrtB.out HLnB.out HV9 (sz1 _ (by have := HYt.out.2; omega)) (Nat.zero_le _) (may_add HYt.out.1)).mono ?_
                rintro e wq17 ⟨vo, vl9, rfl, -, hl9, -, hb⟩
                rw [nx_add] at hl9
                rw [HNxB.out] at hl9
                obtain ⟨al9, cl9, hf9⟩ := hl9.form
                obtain ⟨nl9, hn9⟩ : ∃ nl9, (Lb9).length = nl9 := ⟨_, rfl⟩
                rw [hn9] at hf9
                subst hf9
                clear hn9
                refine ⟨HS.later hb, ?_⟩
                replace HS := HS.later hb
                replace HZb := HZb.later hb
                replace HZa := HZa.later hb
                replace HV9 := HV9.later hb
                clear hb
                clear HV9
                refine takeH 14 65 (.tuple #[.agg (stC 3 noV (.slice al9 nl9 cl9)).toArray, vo, .bool true]) rfl rfl (by kernel_rfl) (by kernel_rfl) (by kernel_rfl) (fun c a w h => h) (.inl ⟨rfl, fun w _ => rfl⟩) HS ?_
                simp only [List.setIfInBounds_toArray, List.set_cons_zero, List.set_cons_succ]
                refine takeH 15 80 (.agg (stC 3 noV (.slice al9 nl9 cl9)).toArray) rfl rfl (by kernel_rfl) (by kernel_rfl) (by kernel_rfl) (fun c a w h => h) (.inl ⟨rfl, fun w _ => by go_simp⟩) HS ?_
                simp only [List.setIfInBounds_toArray, List.set_cons_zero, List.set_cons_succ]
                refine takeH 16 81 (vo) rfl rfl (by kernel_rfl) (by kernel_rfl) (by kernel_rfl) (fun c a w h => h) (.inl ⟨rfl, fun w _ => by go_simp⟩) HS ?_
                simp only [List.setIfInBounds_toArray, List.set_cons_zero, List.set_cons_succ]
                refine takeH 17 82 (.bool true) rfl rfl (by kernel_rfl) (by kernel_rfl) (by kernel_rfl) (fun c a w h => h) (.inl ⟨rfl, fun w _ => by go_simp⟩) HS ?_
                simp only [List.setIfInBounds_toArray, List.set_cons_zero, List.set_cons_succ]
                refine wpAnyH_all (rs := [18]) (by kernel_rfl) (by simp) (fun i hi => ?_)
                obtain rfl : i = 18 := by simpa using hi
                refine wpOp_doG 18 (by rfl) (by rfl) ?_
                refine wpo_storeB 28 (.tmp 9) (.tmp 80) (z7 + 1) 0 (stC 3 noV (.slice al9 nl9 cl9)) (stC 3 noV vb) 28 infoSt (show 0 + 6 ≤ 6 by decide) (stC_one _ _ rfl) rfl rfl rfl HZb.s ?_
                intro wq18 BP ho
                replace BP : Blk wq18 (z7 + 1) (stC 3 noV (.slice al9 nl9 cl9)) 28 := BP
                have HN9 : Hs w wq18 (z7 + 1) (.slice al9 nl9 cl9) Lb9 := ⟨BP, hl9.oth ho HZb.s (by decide), HZb.z⟩
                have HO9 : Hs w wq18 z7 va9 La9 := HZa.oth ho HZb.s (by omega)
                have HS9 : StW w wq18 := below_oth HS ho HZb.z HZb.z HS.size
                refine ⟨HS9, ?_⟩
                refine wpAnyH_done (by kernel_rfl) ?_ _
                show K9 _ _
                try simp only [Act.put, List.getElem_toArray, List.getElem_cons_succ, List.getElem_cons_zero]
                exact HTl17.out wq18 al9 cl9 nl9 HN9 HO9 HS9 _ _ _ _ _ _ _ _ _ _ _ _ _ _ _ _ _ _
            · refine wpOp_doG 12 (by rfl) (by rfl) ?_
              go_wp2_with fail
              have HV9 := (own_one n0 n0.heap.size (Nat.le_refl _) y2).vsl
              have hb := below_box n0 (.cells (encV y2).toArray 25)
              obtain ⟨q8, hq8⟩ : ∃ q8, n0.heap.size = q8 := ⟨_, rfl⟩
              change VSl (n0.alloc (.cells #[.int .i64 y2.1, .int .i64 y2.2.1, .string y2.2.2] 25)) _ _ at HV9
              change Below _ n0 (n0.alloc (.cells #[.int .i64 y2.1, .int .i64 y2.2.1, .string y2.2.2] 25)) at hb
              generalize n0.alloc (.cells #[.int .i64 y2.1, .int .i64 y2.2.1, .string y2.2.2] 25) = wq19 at HV9 hb ⊢
              simp only [hq8] at HV9 ⊢
              clear hq8
              refine ⟨HS.later hb, ?_⟩
              replace HS := HS.later hb
              replace HZb := HZb.later hb
              replace HZa := HZa.later hb
              clear hb
              refine wpAnyH_all (rs := [0, 1]) (by kernel_rfl) (by simp) (fun i hi => ?_)
              simp only [List.mem_cons, List.not_mem_nil, or_false] at hi
              rcases hi with rfl | rfl
              · refine wpOp_doG 0 (by rfl) (by rfl) ?_
                refine wp_load_mid 28 (.tmp 9) rfl (z7 + 1) 0 rfl (stC 3 noV vb) _ (Blk.all HZb.s) Tryd.underlying28 rfl infoSt ?_
                simp only [Act.put, List.setIfInBounds_toArray, List.set_cons_zero, List.set_cons_succ]
                obtain ⟨wq20, hnw⟩ : ∃ n, n = wq19 := ⟨_, rfl⟩
                subst hnw
                have hb : Below wq20.heap.size wq20 wq20 := Below.refl _ _
                refine ⟨HS.later hb, ?_⟩
                replace HS := HS.later hb
                replace HZb := HZb.later hb
                replace HZa := HZa.later hb
                replace HV9 := HV9.later hb
                clear hb
                refine wpAnyH_all (rs := [1]) (by kernel_rfl) (by simp) (fun i hi => ?_)
                obtain rfl : i = 1 := by simpa using hi
                refine wpOp_doG 1 (by rfl) (by rfl) ?_
                go_wp2_with fail
                refine (num_any 1 wq20).mono ?_
                rintro e wq21 ⟨rfl, hb⟩
                refine ⟨HS.later hb, ?_⟩
                replace HS := HS.later hb
                replace HZb := HZb.later hb
                replace HZa := HZa.later hb
                replace HV9 := HV9.later hb
                clear hb
                refine wpAnyH_all (rs := [13]) (by kernel_rfl) (by simp) (fun i hi => ?_)
                obtain rfl : i = 13 := by simpa using hi
                refine wpOp_doG 13 (by rfl) (by rfl) ?_
                go_wp2_with fail
                refine (HK.out.yes w.heap.size (vN 1) vb Lb 4 (.slice (some ⟨q8, 0, none⟩) 1 1) [y2] wq21 HS.size (HT.out.later HS) HZb.l HSrtB.out HLnB.out HV9 (sz1 _ (by have := HYt.out.2; omega)) (Nat.zero_le _) (may_add HYt.out.1)).mono ?_
                rintro e wq22 ⟨vo, vl9, rfl, -, hl9, -, hb⟩
                rw [nx_add] at hl9
                rw [HNxB.out] at hl9
                obtain ⟨al9, cl9, hf9⟩ := hl9.form
                obtain ⟨nl9, hn9⟩ : ∃ nl9, (Lb9).length = nl9 := ⟨_, rfl⟩
                rw [hn9] at hf9
                subst hf9
                clear hn9
                refine ⟨HS.later hb, ?_⟩
                replace HS := HS.later hb
                replace HZb := HZb.later hb
                replace HZa := HZa.later hb
                replace HV9 := HV9.later hb
                clear hb
                clear HV9
                refine takeH 14 65 (.tuple #[.agg (stC 3 noV (.slice al9 nl9 cl9)).toArray, vo, .bool true]) rfl rfl (by kernel_rfl) (by kernel_rfl) (by kernel_rfl) (fun c a w h => h) (.inl ⟨rfl, fun w _ => rfl⟩) HS ?_
                simp only [List.setIfInBounds_toArray, List.set_cons_zero, List.set_cons_succ]
                refine takeH 15 80 (.agg (stC 3 noV (.slice al9 nl9 cl9)).toArray) rfl rfl (by kernel_rfl) (by kernel_rfl) (by kernel_rfl) (fun c a w h => h) (.inl ⟨rfl, fun w _ => by go_simp⟩) HS ?_
                simp only [List.setIfInBounds_toArray, List.set_cons_zero, List.set_cons_succ]
                refine takeH 16 81 (vo) rfl rfl (by kernel_rfl) (by kernel_rfl) (by kernel_rfl) (fun c a w h => h) (.inl ⟨rfl, fun w _ => by go_simp⟩) HS ?_
                simp only [List.setIfInBounds_toArray, List.set_cons_zero, List.set_cons_succ]
                refine takeH 17 82 (.bool true) rfl rfl (by kernel_rfl) (by kernel_rfl) (by kernel_rfl) (fun c a w h => h) (.inl ⟨rfl, fun w _ => by go_simp⟩) HS ?_
                simp only [List.setIfInBounds_toArray, List.set_cons_zero, List.set_cons_succ]
                refine wpAnyH_all (rs := [18]) (by kernel_rfl) (by simp) (fun i hi => ?_)
                obtain rfl : i = 18 := by simpa using hi
                refine wpOp_doG 18 (by rfl) (by rfl) ?_
                refine wpo_storeB 28 (.tmp 9) (.tmp 80) (z7 + 1) 0 (stC 3 noV (.slice al9 nl9 cl9)) (stC 3 noV vb) 28 infoSt (show 0 + 6 ≤ 6 by decide) (stC_one _ _ rfl) rfl rfl rfl HZb.s ?_
                intro wq23 BP ho
                replace BP : Blk wq23 (z7 + 1) (stC 3 noV (.slice al9 nl9 cl9)) 28 := BP
                have HN9 : Hs w wq23 (z7 + 1) (.slice al9 nl9 cl9) Lb9 := ⟨BP, hl9.oth ho HZb.s (by decide), HZb.z⟩
                have HO9 : Hs w wq23 z7 va9 La9 := HZa.oth ho HZb.s (by omega)
                have HS9 : StW w wq23 := below_oth HS ho HZb.z HZb.z HS.size
                refine ⟨HS9, ?_⟩
                refine wpAnyH_done (by kernel_rfl) ?_ _
                show K9 _ _
                try simp only [Act.put, List.getElem_toArray, List.getElem_cons_succ, List.getElem_cons_zero]
                exact HTl17.out wq23 al9 cl9 nl9 HN9 HO9 HS9 _ _ _ _ _ _ _ _ _ _ _ _ _ _ _ _ _ _
              · refine wpOp_doG 1 (by rfl) (by rfl) ?_
                go_wp2_with fail
                refine (num_any 1 wq19).mono ?_
                rintro e wq24 ⟨rfl, hb⟩
                refine ⟨HS.later hb, ?_⟩
                replace HS := HS.later hb
                replace HZb := HZb.later hb
                replace HZa := HZa.later hb
                replace HV9 := HV9.later hb
                clear hb
                refine wpAnyH_all (rs := [0]) (by kernel_rfl) (by simp) (fun i hi => ?_)
                obtain rfl : i = 0 := by simpa using hi
                refine wpOp_doG 0 (by rfl) (by rfl) ?_
                refine wp_load_mid 28 (.tmp 9) rfl (z7 + 1) 0 rfl (stC 3 noV vb) _ (Blk.all HZb.s) Tryd.underlying28 rfl infoSt ?_
                simp only [Act.put, List.setIfInBounds_toArray, List.set_cons_zero, List.set_cons_succ]
                obtain ⟨wq25, hnw⟩ : ∃ n, n = wq24 := ⟨_, rfl⟩
                subst hnw
                have hb : Below wq25.heap.size wq25 wq25 := Below.refl _ _
                refine ⟨HS.later hb, ?_⟩
                replace HS := HS.later hb
                replace HZb := HZb.later hb
                replace HZa := HZa.later hb
                replace HV9 := HV9.later hb
                clear hb
                refine wpAnyH_all (rs := [13]) (by kernel_rfl) (by simp) (fun i hi => ?_)
                obtain rfl : i = 13 := by simpa using hi
                refine wpOp_doG 13 (by rfl) (by rfl) ?_
                go_wp2_with fail
                refine (HK.out.yes w.heap.size (vN 1) vb Lb 4 (.slice (some ⟨q8, 0, none⟩) 1 1) [y2] wq25 HS.size (HT.out.later HS) HZb.l HSrtB.out HLnB.out HV9 (sz1 _ (by have := HYt.out.2; omega)) (Nat.zero_le _) (may_add HYt.out.1)).mono ?_
                rintro e wq26 ⟨vo, vl9, rfl, -, hl9, -, hb⟩
                rw [nx_add] at hl9
                rw [HNxB.out] at hl9
                obtain ⟨al9, cl9, hf9⟩ := hl9.form
                obtain ⟨nl9, hn9⟩ : ∃ nl9, (Lb9).length = nl9 := ⟨_, rfl⟩
                rw [hn9] at hf9
                subst hf9
                clear hn9
                refine ⟨HS.later hb, ?_⟩
                replace HS := HS.later hb
                replace HZb := HZb.later hb
                replace HZa := HZa.later hb
                replace HV9 := HV9.later hb
                clear hb
                clear HV9
                refine takeH 14 65 (.tuple #[.agg (stC 3 noV (.slice al9 nl9 cl9)).toArray, vo, .bool true]) rfl rfl (by kernel_rfl) (by kernel_rfl) (by kernel_rfl) (fun c a w h => h) (.inl ⟨rfl, fun w _ => rfl⟩) HS ?_
                simp only [List.setIfInBounds_toArray, List.set_cons_zero, List.set_cons_succ]
                refine takeH 15 80 (.agg (stC 3 noV (.slice al9 nl9 cl9)).toArray) rfl rfl (by kernel_rfl) (by kernel_rfl) (by kernel_rfl) (fun c a w h => h) (.inl ⟨rfl, fun w _ => by go_simp⟩) HS ?_
                simp only [List.setIfInBounds_toArray, List.set_cons_zero, List.set_cons_succ]
                refine takeH 16 81 (vo) rfl rfl (by kernel_rfl) (by kernel_rfl) (by kernel_rfl) (fun c a w h => h) (.inl ⟨rfl, fun w _ => by go_simp⟩) HS ?_
                simp only [List.setIfInBounds_toArray, List.set_cons_zero, List.set_cons_succ]
                refine takeH 17 82 (.bool true) rfl rfl (by kernel_rfl) (by kernel_rfl) (by kernel_rfl) (fun c a w h => h) (.inl ⟨rfl, fun w _ => by go_simp⟩) HS ?_
                simp only [List.setIfInBounds_toArray, List.set_cons_zero, List.set_cons_succ]
                refine wpAnyH_all (rs := [18]) (by kernel_rfl) (by simp) (fun i hi => ?_)
                obtain rfl : i = 18 := by simpa using hi
                refine wpOp_doG 18 (by rfl) (by rfl) ?_
                refine wpo_storeB 28 (.tmp 9) (.tmp 80) (z7 + 1) 0 (stC 3 noV (.slice al9 nl9 cl9)) (stC 3 noV vb) 28 infoSt (show 0 + 6 ≤ 6 by decide) (stC_one _ _ rfl) rfl rfl rfl HZb.s ?_
                intro wq27 BP ho
                replace BP : Blk wq27 (z7 + 1) (stC 3 noV (.slice al9 nl9 cl9)) 28 := BP
                have HN9 : Hs w wq27 (z7 + 1) (.slice al9 nl9 cl9) Lb9 := ⟨BP, hl9.oth ho HZb.s (by decide), HZb.z⟩
                have HO9 : Hs w wq27 z7 va9 La9 := HZa.oth ho HZb.s (by omega)
                have HS9 : StW w wq27 := below_oth HS ho HZb.z HZb.z HS.size
                refine ⟨HS9, ?_⟩
                refine wpAnyH_done (by kernel_rfl) ?_ _
                show K9 _ _
                try simp only [Act.put, List.getElem_toArray, List.getElem_cons_succ, List.getElem_cons_zero]
                exact HTl17.out wq27 al9 cl9 nl9 HN9 HO9 HS9 _ _ _ _ _ _ _ _ _ _ _ _ _ _ _ _ _ _
          have HTl16 : Hid (∀ (w' : World) (al9 : Option Addr) (cl9 nl9 : Nat), Hs w w' z7 (.slice al9 nl9 cl9) La9 → Hs w w' (z7 + 1) vb Lb → StW w w' → ∀ t53 t54 t55 t56 t57 t58 t59 t60 t61 t62 t63 t64 : Value, K9 ⟨#[Value.slice (some ⟨b, o, none⟩) k c, Value.int IntKind.u8 (bn : Int), undef, undef, u4, undef, u6, Value.pointer (some ⟨z7, 0, none⟩), Value.bool true, Value.pointer (some ⟨z7 + 1, 0, none⟩), Value.int IntKind.i64 (j : Int), undef, undef, undef, undef, undef, undef, undef, undef, undef, undef, undef, Value.bool true, Value.bool false, Value.slice (some ⟨b, o, none⟩) k c, Value.int IntKind.i64 (k : Int), Value.bool (decide (30 < (k : Int))), Value.slice (some ⟨b, o, none⟩) k c, Value.int IntKind.i64 (k : Int), Value.int IntKind.i64 (k : Int), Value.bool false, u31, u32, u33, u34, u35, u36, u37, u38, u39, u40, u41, u42, Value.tuple #[Value.agg #[Value.int IntKind.i64 3, Value.int IntKind.i64 0, Value.int IntKind.i64 0, Value.string noB, Value.int IntKind.i64 0, nilS], Value.bool true], Value.tuple #[Value.agg #[Value.int IntKind.i64 3, Value.int IntKind.i64 0, Value.int IntKind.i64 0, Value.string noB, Value.int IntKind.i64 0, nilS], Value.bool true], Value.agg #[Value.int IntKind.i64 3, Value.int IntKind.i64 0, Value.int IntKind.i64 0, Value.string noB, Value.int IntKind.i64 0, nilS], Value.bool true, Value.agg #[Value.int IntKind.i64 3, Value.int IntKind.i64 0, Value.int IntKind.i64 0, Value.string noB, Value.int IntKind.i64 0, Value.slice none 0 0], Value.slice (some ⟨b, o, none⟩) k c, Value.int IntKind.i64 (k : Int), Value.int IntKind.i64 (j : Int), Value.bool true, Value.int IntKind.i64 (j : Int), t53, t54, t55, t56, t57, t58, t59, t60, t61, t62, t63, t64, u65, u66, u67, u68, u69, u70, u71, u72, u73, u74, u75, u76, u77, u78, u79, u80, u81, u82, u83, undef, undef, undef, undef, undef, undef, undef, undef, undef, undef, undef, undef, undef, undef, undef, undef, undef, undef, undef, undef, undef, undef, undef, undef, undef, undef, undef, undef, undef, undef, undef, undef, undef, undef, undef, undef, undef, undef, undef, undef, undef, undef, undef, undef, undef, undef, undef, undef, undef, undef, undef, undef, undef, undef, undef, undef, undef, undef, undef, undef, undef, undef, undef, undef, undef, undef, undef, undef, undef, undef, undef, undef, undef, undef, undef], []⟩ w') := tail16
          clear tail16 hK9
          refine wp_region_held (S := StW w) mixed ?_
          have HZa : Hs w { wr with drawn := wr.drawn + 1 } z7 va La := HSa.out.later (Stay.drew wr)
          have HZb : Hs w { wr with drawn := wr.drawn + 1 } (z7 + 1) vb Lb := HSb.out.later (Stay.drew wr)
          have HS : StW w { wr with drawn := wr.drawn + 1 } := below_next HB.out (Stay.drew wr)
          generalize ({ wr with drawn := wr.drawn + 1 } : World) = n0 at HZa HZb HS ⊢
          refine takeH 2 56 (.slice (some ⟨b, o, none⟩) k c) rfl rfl (by kernel_rfl) (by kernel_rfl) (by kernel_rfl) (fun c a w h => h) (.inl ⟨rfl, fun w _ => rfl⟩) HS ?_
          simp only [List.setIfInBounds_toArray, List.set_cons_zero, List.set_cons_succ]
          refine takeH 3 57 (.int .i64 (j : Int)) rfl rfl (by kernel_rfl) (by kernel_rfl) (by kernel_rfl) (fun c a w h => h) (.inl ⟨rfl, fun w _ => rfl⟩) HS ?_
          simp only [List.setIfInBounds_toArray, List.set_cons_zero, List.set_cons_succ]
          refine takeH 4 58 (.pointer (some ⟨b, o + j * 3, none⟩)) rfl rfl (by kernel_rfl) (by kernel_rfl) (by kernel_rfl) (fun c a w h => h) (.inl ⟨rfl, fun w _ => by go_simp⟩) HS ?_
          simp only [List.setIfInBounds_toArray, List.set_cons_zero, List.set_cons_succ]
          refine takeH 5 59 (.agg #[.int .i64 y.1, .int .i64 y.2.1, .string y.2.2]) rfl rfl (by kernel_rfl) (by kernel_rfl) (by kernel_rfl) (fun c a w h => h) (yieldsIf_load_mid rfl 25 (.tmp 58) rfl b (o + j * 3) rfl (encV y) _ (fun wx hx => HEl.out wx hx) Tryd.underlying25 rfl infoVv) HS ?_
          simp only [List.setIfInBounds_toArray, List.set_cons_zero, List.set_cons_succ]
          refine wpAnyH_all (rs := [0, 1, 6]) (by kernel_rfl) (by simp) (fun i hi => ?_)
          simp only [List.mem_cons, List.not_mem_nil, or_false] at hi
          rcases hi with rfl | rfl | rfl
          · refine wpOp_doG 0 (by rfl) (by rfl) ?_
            refine wp_load_mid 28 (.tmp 7) rfl z7 0 rfl (stC 3 noV va) _ (Blk.all HZa.s) Tryd.underlying28 rfl infoSt ?_
            simp only [Act.put, List.setIfInBounds_toArray, List.set_cons_zero, List.set_cons_succ]
            obtain ⟨wq1, hnw⟩ : ∃ n, n = n0 := ⟨_, rfl⟩
            subst hnw
            have hb : Below wq1.heap.size wq1 wq1 := Below.refl _ _
            refine ⟨HS.later hb, ?_⟩
            replace HS := HS.later hb
            replace HZa := HZa.later hb
            replace HZb := HZb.later hb
            clear hb
            refine wpAnyH_all (rs := [1, 6]) (by kernel_rfl) (by simp) (fun i hi => ?_)
            simp only [List.mem_cons, List.not_mem_nil, or_false] at hi
            rcases hi with rfl | rfl
            · refine wpOp_doG 1 (by rfl) (by rfl) ?_
              go_wp2_with fail
              refine (num_any 1 wq1).mono ?_
              rintro e wq2 ⟨rfl, hb⟩
              refine ⟨HS.later hb, ?_⟩
              replace HS := HS.later hb
              replace HZa := HZa.later hb
              replace HZb := HZb.later hb
              clear hb
              refine wpAnyH_all (rs := [6]) (by kernel_rfl) (by simp) (fun i hi => ?_)
              obtain rfl : i = 6 := by simpa using hi
              refine wpOp_doG 6 (by rfl) (by rfl) ?_
              go_wp2_with fail
              have HV9 := (own_one wq2 wq2.heap.size (Nat.le_refl _) y).vsl
              have hb := below_box wq2 (.cells (encV y).toArray 25)
              obtain ⟨q8, hq8⟩ : ∃ q8, wq2.heap.size = q8 := ⟨_, rfl⟩
              change VSl (wq2.alloc (.cells #[.int .i64 y.1, .int .i64 y.2.1, .string y.2.2] 25)) _ _ at HV9
              change Below _ wq2 (wq2.alloc (.cells #[.int .i64 y.1, .int .i64 y.2.1, .string y.2.2] 25)) at hb
              generalize wq2.alloc (.cells #[.int .i64 y.1, .int .i64 y.2.1, .string y.2.2] 25) = wq3 at HV9 hb ⊢
              simp only [hq8] at HV9 ⊢
              clear hq8
              refine ⟨HS.later hb, ?_⟩
              replace HS := HS.later hb
              replace HZa := HZa.later hb
              replace HZb := HZb.later hb
              clear hb
              refine wpAnyH_all (rs := [7]) (by kernel_rfl) (by simp) (fun i hi => ?_)
              obtain rfl : i = 7 := by simpa using hi
              refine wpOp_doG 7 (by rfl) (by rfl) ?_
              go_wp2_with fail
              refine (HK.out.yes w.heap.size (vN 1) va La 4 (.slice (some ⟨q8, 0, none⟩) 1 1) [y] wq3 HS.size (HT.out.later HS) HZa.l HSrtA.out HLnA.out HV9 (sz1 _ (by have := HYs.out.2; omega)) (Nat.zero_le _) (may_add HYs.out.1)).mono ?_
              rintro e wq4 ⟨vo, vl9, rfl, -, hl9, -, hb⟩
              rw [nx_add] at hl9
              rw [HNxA.out] at hl9
              obtain ⟨al9, cl9, hf9⟩ := hl9.form
              obtain ⟨nl9, hn9⟩ : ∃ nl9, (La9).length = nl9 := ⟨_, rfl⟩
              rw [hn9] at hf9
              subst hf9
              clear hn9
              refine ⟨HS.later hb, ?_⟩
              replace HS := HS.later hb
              replace HZa := HZa.later hb
              replace HZb := HZb.later hb
              replace HV9 := HV9.later hb
              clear hb
              clear HV9
              refine takeH 8 53 (.tuple #[.agg (stC 3 noV (.slice al9 nl9 cl9)).toArray, vo, .bool true]) rfl rfl (by kernel_rfl) (by kernel_rfl) (by kernel_rfl) (fun c a w h => h) (.inl ⟨rfl, fun w _ => rfl⟩) HS ?_
              simp only [List.setIfInBounds_toArray, List.set_cons_zero, List.set_cons_succ]
              refine takeH 9 62 (.agg (stC 3 noV (.slice al9 nl9 cl9)).toArray) rfl rfl (by kernel_rfl) (by kernel_rfl) (by kernel_rfl) (fun c a w h => h) (.inl ⟨rfl, fun w _ => by go_simp⟩) HS ?_
              simp only [List.setIfInBounds_toArray, List.set_cons_zero, List.set_cons_succ]
              refine takeH 10 63 (vo) rfl rfl (by kernel_rfl) (by kernel_rfl) (by kernel_rfl) (fun c a w h => h) (.inl ⟨rfl, fun w _ => by go_simp⟩) HS ?_
              simp only [List.setIfInBounds_toArray, List.set_cons_zero, List.set_cons_succ]
              refine takeH 11 64 (.bool true) rfl rfl (by kernel_rfl) (by kernel_rfl) (by kernel_rfl) (fun c a w h => h) (.inl ⟨rfl, fun w _ => by go_simp⟩) HS ?_
              simp only [List.setIfInBounds_toArray, List.set_cons_zero, List.set_cons_succ]
              refine wpAnyH_all (rs := [12]) (by kernel_rfl) (by simp) (fun i hi => ?_)
              obtain rfl : i = 12 := by simpa using hi
              refine wpOp_doG 12 (by rfl) (by rfl) ?_
              refine wpo_storeB 28 (.tmp 7) (.tmp 62) z7 0 (stC 3 noV (.slice al9 nl9 cl9)) (stC 3 noV va) 28 infoSt (show 0 + 6 ≤ 6 by decide) (stC_one _ _ rfl) rfl rfl rfl HZa.s ?_
              intro wq5 BP ho
              replace BP : Blk wq5 z7 (stC 3 noV (.slice al9 nl9 cl9)) 28 := BP
              have HN9 : Hs w wq5 z7 (.slice al9 nl9 cl9) La9 := ⟨BP, hl9.oth ho HZa.s (by decide), HZa.z⟩
              have HO9 : Hs w wq5 (z7 + 1) vb Lb := HZb.oth ho HZa.s (by omega)
              have HS9 : StW w wq5 := below_oth HS ho HZa.z HZa.z HS.size
              refine ⟨HS9, ?_⟩
              refine wpAnyH_done (by kernel_rfl) ?_ _
              show K9 _ _
              try simp only [Act.put, List.getElem_toArray, List.getElem_cons_succ, List.getElem_cons_zero]
              exact HTl16.out wq5 al9 cl9 nl9 HN9 HO9 HS9 _ _ _ _ _ _ _ _ _ _ _ _
            · refine wpOp_doG 6 (by rfl) (by rfl) ?_
              go_wp2_with fail
              have HV9 := (own_one wq1 wq1.heap.size (Nat.le_refl _) y).vsl
              have hb := below_box wq1 (.cells (encV y).toArray 25)
              obtain ⟨q8, hq8⟩ : ∃ q8, wq1.heap.size = q8 := ⟨_, rfl⟩
              change VSl (wq1.alloc (.cells #[.int .i64 y.1, .int .i64 y.2.1, .string y.2.2] 25)) _ _ at HV9
              change Below _ wq1 (wq1.alloc (.cells #[.int .i64 y.1, .int .i64 y.2.1, .string y.2.2] 25)) at hb
              generalize wq1.alloc (.cells #[.int .i64 y.1, .int .i64 y.2.1, .string y.2.2] 25) = wq6 at HV9 hb ⊢
              simp only [hq8] at HV9 ⊢
              clear hq8
              refine ⟨HS.later hb, ?_⟩
              replace HS := HS.later hb
              replace HZa := HZa.later hb
              replace HZb := HZb.later hb
              clear hb
              refine wpAnyH_all (rs := [1]) (by kernel_rfl) (by simp) (fun i hi => ?_)
              obtain rfl : i = 1 := by simpa using hi
              refine wpOp_doG 1 (by rfl) (by rfl) ?_
              go_wp2_with fail
              refine (num_any 1 wq6).mono ?_
              rintro e wq7 ⟨rfl, hb⟩
              refine ⟨HS.later hb, ?_⟩
              replace HS := HS.later hb
              replace HZa := HZa.later hb
              replace HZb := HZb.later hb
              replace HV9 := HV9.later hb
              clear hb
              refine wpAnyH_all (rs := [7]) (by kernel_rfl) (by simp) (fun i hi => ?_)
              obtain rfl : i = 7 := by simpa using hi
              refine wpOp_doG 7 (by rfl) (by rfl) ?_
              go_wp2_with fail
              refine (HK.out.yes w.heap.size (vN 1) va La 4 (.slice (some ⟨q8, 0, none⟩) 1 1) [y] wq7 HS.size (HT.out.later HS) HZa.l HSrtA.out HLnA.out HV9 (sz1 _ (by have := HYs.out.2; omega)) (Nat.zero_le _) (may_add HYs.out.1)).mono ?_
              rintro e wq8 ⟨vo, vl9, rfl, -, hl9, -, hb⟩
              rw [nx_add] at hl9
              rw [HNxA.out] at hl9
              obtain ⟨al9, cl9, hf9⟩ := hl9.form
              obtain ⟨nl9, hn9⟩ : ∃ nl9, (La9).length = nl9 := ⟨_, rfl⟩
              rw [hn9] at hf9
              subst hf9
              clear hn9
              refine ⟨HS.later hb, ?_⟩
              replace HS := HS.later hb
              replace HZa := HZa.later hb
              replace HZb := HZb.later hb
              replace HV9 := HV9.later hb
              clear hb
              clear HV9
              refine takeH 8 53 (.tuple #[.agg (stC 3 noV (.slice al9 nl9 cl9)).toArray, vo, .bool true]) rfl rfl (by kernel_rfl) (by kernel_rfl) (by kernel_rfl) (fun c a w h => h) (.inl ⟨rfl, fun w _ => rfl⟩) HS ?_
              simp only [List.setIfInBounds_toArray, List.set_cons_zero, List.set_cons_succ]
              refine takeH 9 62 (.agg (stC 3 noV (.slice al9 nl9 cl9)).toArray) rfl rfl (by kernel_rfl) (by kernel_rfl) (by kernel_rfl) (fun c a w h => h) (.inl ⟨rfl, fun w _ => by go_simp⟩) HS ?_
              simp only [List.setIfInBounds_toArray, List.set_cons_zero, List.set_cons_succ]
              refine takeH 10 63 (vo) rfl rfl (by kernel_rfl) (by kernel_rfl) (by kernel_rfl) (fun c a w h => h) (.inl ⟨rfl, fun w _ => by go_simp⟩) HS ?_
              simp only [List.setIfInBounds_toArray, List.set_cons_zero, List.set_cons_succ]
              refine takeH 11 64 (.bool true) rfl rfl (by kernel_rfl) (by kernel_rfl) (by kernel_rfl) (fun c a w h => h) (.inl ⟨rfl, fun w _ => by go_simp⟩) HS ?_
              simp only [List.setIfInBounds_toArray, List.set_cons_zero, List.set_cons_succ]
              refine wpAnyH_all (rs := [12]) (by kernel_rfl) (by simp) (fun i hi => ?_)
              obtain rfl : i = 12 := by simpa using hi
              refine wpOp_doG 12 (by rfl) (by rfl) ?_
              refine wpo_storeB 28 (.tmp 7) (.tmp 62) z7 0 (stC 3 noV (.slice al9 nl9 cl9)) (stC 3 noV va) 28 infoSt (show 0 + 6 ≤ 6 by decide) (stC_one _ _ rfl) rfl rfl rfl HZa.s ?_
              intro wq9 BP ho
              replace BP : Blk wq9 z7 (stC 3 noV (.slice al9 nl9 cl9)) 28 := BP
              have HN9 : Hs w wq9 z7 (.slice al9 nl9 cl9) La9 := ⟨BP, hl9.oth ho HZa.s (by decide), HZa.z⟩
              have HO9 : Hs w wq9 (z7 + 1) vb Lb := HZb.oth ho HZa.s (by omega)
              have HS9 : StW w wq9 := below_oth HS ho HZa.z HZa.z HS.size
              refine ⟨HS9, ?_⟩
              refine wpAnyH_done (by kernel_rfl) ?_ _
              show K9 _ _
              try simp only [Act.put, List.getElem_toArray, List.getElem_cons_succ, List.getElem_cons_zero]
              exact HTl16.out wq9 al9 cl9 nl9 HN9 HO9 HS9 _ _ _ _ _ _ _ _ _ _ _ _
          · refine wpOp_doG 1 (by rfl) (by rfl) ?_
            go_wp2_with fail
            refine (num_any 1 n0).mono ?_
            rintro e wq10 ⟨rfl, hb⟩
            refine ⟨HS.later hb, ?_⟩
            replace HS := HS.later hb
            replace HZa := HZa.later hb
            replace HZb := HZb.later hb
            clear hb
            refine wpAnyH_all (rs := [0, 6]) (by kernel_rfl) (by simp) (fun i hi => ?_)
            simp only [List.mem_cons, List.not_mem_nil, or_false] at hi
            rcases hi with rfl | rfl
            · refine wpOp_doG 0 (by rfl) (by rfl) ?_
              refine wp_load_mid 28 (.tmp 7) rfl z7 0 rfl (stC 3 noV va) _ (Blk.all HZa.s) Tryd.underlying28 rfl infoSt ?_
              simp only [Act.put, List.setIfInBounds_toArray, List.set_cons_zero, List.set_cons_succ]
              obtain ⟨wq11, hnw⟩ : ∃ n, n = wq10 := ⟨_, rfl⟩
              subst hnw
              have hb : Below wq11.heap.size wq11 wq11 := Below.refl _ _
              refine ⟨HS.later hb, ?_⟩
              replace HS := HS.later hb
              replace HZa := HZa.later hb
              replace HZb := HZb.later hb
              clear hb
              refine wpAnyH_all (rs := [6]) (by kernel_rfl) (by simp) (fun i hi => ?_)
              obtain rfl : i = 6 := by simpa using hi
              refine wpOp_doG 6 (by rfl) (by rfl) ?_
              go_wp2_with fail
              have HV9 := (own_one wq11 wq11.heap.size (Nat.le_refl _) y).vsl
              have hb := below_box wq11 (.cells (encV y).toArray 25)
              obtain ⟨q8, hq8⟩ : ∃ q8, wq11.heap.size = q8 := ⟨_, rfl⟩
              change VSl (wq11.alloc (.cells #[.int .i64 y.1, .int .i64 y.2.1, .string y.2.2] 25)) _ _ at HV9
              change Below _ wq11 (wq11.alloc (.cells #[.int .i64 y.1, .int .i64 y.2.1, .string y.2.2] 25)) at hb
              generalize wq11.alloc (.cells #[.int .i64 y.1, .int .i64 y.2.1, .string y.2.2] 25) = wq12 at HV9 hb ⊢
              simp only [hq8] at HV9 ⊢
              clear hq8
              refine ⟨HS.later hb, ?_⟩
              replace HS := HS.later hb
              replace HZa := HZa.later hb
              replace HZb := HZb.later hb
              clear hb
              refine wpAnyH_all (rs := [7]) (by kernel_rfl) (by simp) (fun i hi => ?_)
              obtain rfl : i = 7 := by simpa using hi
              refine wpOp_doG 7 (by rfl) (by rfl) ?_
              go_wp2_with fail
              refine (HK.out.yes w.heap.size (vN 1) va La 4 (.slice (some ⟨q8, 0, none⟩) 1 1) [y] wq12 HS.size (HT.out.later HS) HZa.l HSrtA.out HLnA.out HV9 (sz1 _ (by have := HYs.out.2; omega)) (Nat.zero_le _) (may_add HYs.out.1)).mono ?_
              rintro e wq13 ⟨vo, vl9, rfl, -, hl9, -, hb⟩
              rw [nx_add] at hl9
              rw [HNxA.out] at hl9
              obtain ⟨al9, cl9, hf9⟩ := hl9.form
              obtain ⟨nl9, hn9⟩ : ∃ nl9, (La9).length = nl9 := ⟨_, rfl⟩
              rw [hn9] at hf9
              subst hf9
              clear hn9
              refine ⟨HS.later hb, ?_⟩
              replace HS := HS.later hb
              replace HZa := HZa.later hb
              replace HZb := HZb.later hb
              replace HV9 := HV9.later hb
              clear hb
              clear HV9
              refine takeH 8 53 (.tuple #[.agg (stC 3 noV (.slice al9 nl9 cl9)).toArray, vo, .bool true]) rfl rfl (by kernel_rfl) (by kernel_rfl) (by kernel_rfl) (fun c a w h => h) (.inl ⟨rfl, fun w _ => rfl⟩) HS ?_
              simp only [List.setIfInBounds_toArray, List.set_cons_zero, List.set_cons_succ]
              refine takeH 9 62 (.agg (stC 3 noV (.slice al9 nl9 cl9)).toArray) rfl rfl (by kernel_rfl) (by kernel_rfl) (by kernel_rfl) (fun c a w h => h) (.inl ⟨rfl, fun w _ => by go_simp⟩) HS ?_
              simp only [List.setIfInBounds_toArray, List.set_cons_zero, List.set_cons_succ]
              refine takeH 10 63 (vo) rfl rfl (by kernel_rfl) (by kernel_rfl) (by kernel_rfl) (fun c a w h => h) (.inl ⟨rfl, fun w _ => by go_simp⟩) HS ?_
              simp only [List.setIfInBounds_toArray, List.set_cons_zero, List.set_cons_succ]
              refine takeH 11 64 (.bool true) rfl rfl (by kernel_rfl) (by kernel_rfl) (by kernel_rfl) (fun c a w h => h) (.inl ⟨rfl, fun w _ => by go_simp⟩) HS ?_
              simp only [List.setIfInBounds_toArray, List.set_cons_zero, List.set_cons_succ]
              refine wpAnyH_all (rs := [12]) (by kernel_rfl) (by simp) (fun i hi => ?_)
              obtain rfl : i = 12 := by simpa using hi
              refine wpOp_doG 12 (by rfl) (by rfl) ?_
              refine wpo_storeB 28 (.tmp 7) (.tmp 62) z7 0 (stC 3 noV (.slice al9 nl9 cl9)) (stC 3 noV va) 28 infoSt (show 0 + 6 ≤ 6 by decide) (stC_one _ _ rfl) rfl rfl rfl HZa.s ?_
              intro wq14 BP ho
              replace BP : Blk wq14 z7 (stC 3 noV (.slice al9 nl9 cl9)) 28 := BP
              have HN9 : Hs w wq14 z7 (.slice al9 nl9 cl9) La9 := ⟨BP, hl9.oth ho HZa.s (by decide), HZa.z⟩
              have HO9 : Hs w wq14 (z7 + 1) vb Lb := HZb.oth ho HZa.s (by omega)
              have HS9 : StW w wq14 := below_oth HS ho HZa.z HZa.z HS.size
              refine ⟨HS9, ?_⟩
              refine wpAnyH_done (by kernel_rfl) ?_ _
              show K9 _ _
              try simp only [Act.put, List.getElem_toArray, List.getElem_cons_succ, List.getElem_cons_zero]
              exact HTl16.out wq14 al9 cl9 nl9 HN9 HO9 HS9 _ _ _ _ _ _ _ _ _ _ _ _
            · refine wpOp_doG 6 (by rfl) (by rfl) ?_
              go_wp2_with fail
              have HV9 := (own_one wq10 wq10.heap.size (Nat.le_refl _) y).vsl
              have hb := below_box wq10 (.cells (encV y).toArray 25)
              obtain ⟨q8, hq8⟩ : ∃ q8, wq10.heap.size = q8 := ⟨_, rfl⟩
              change VSl (wq10.alloc (.cells #[.int .i64 y.1, .int .i64 y.2.1, .string y.2.2] 25)) _ _ at HV9
              change Below _ wq10 (wq10.alloc (.cells #[.int .i64 y.1, .int .i64 y.2.1, .string y.2.2] 25)) at hb
              generalize wq10.alloc (.cells #[.int .i64 y.1, .int .i64 y.2.1, .string y.2.2] 25) = wq15 at HV9 hb ⊢
              simp only [hq8] at HV9 ⊢
              clear hq8
              refine ⟨HS.later hb, ?_⟩
              replace HS := HS.later hb
              replace HZa := HZa.later hb
              replace HZb := HZb.later hb
              clear hb
              refine wpAnyH_all (rs := [0]) (by kernel_rfl) (by simp) (fun i hi => ?_)
              obtain rfl : i = 0 := by simpa using hi
              refine wpOp_doG 0 (by rfl) (by rfl) ?_
              refine wp_load_mid 28 (.tmp 7) rfl z7 0 rfl (stC 3 noV va) _ (Blk.all HZa.s) Tryd.underlying28 rfl infoSt ?_
              simp only [Act.put, List.setIfInBounds_toArray, List.set_cons_zero, List.set_cons_succ]
              obtain ⟨wq16, hnw⟩ : ∃ n, n = wq15 := ⟨_, rfl⟩
              subst hnw
              have hb : Below wq16.heap.size wq16 wq16 := Below.refl _ _
              refine ⟨HS.later hb, ?_⟩
              replace HS := HS.later hb
              replace HZa := HZa.later hb
              replace HZb := HZb.later hb
              replace HV9 := HV9.later hb
              clear hb
              refine wpAnyH_all (rs := [7]) (by kernel_rfl) (by simp) (fun i hi => ?_)
              obtain rfl : i = 7 := by simpa using hi
              refine wpOp_doG 7 (by rfl) (by rfl) ?_
              go_wp2_with fail
              refine (HK.out.yes w.heap.size (vN 1) va La 4 (.slice (some ⟨q8, 0, none⟩) 1 1) [y] wq16 HS.size (HT.out.later HS) HZa.l HSrtA.out HLnA.out HV9 (sz1 _ (by have := HYs.out.2; omega)) (Nat.zero_le _) (may_add HYs.out.1)).mono ?_
              rintro e wq17 ⟨vo, vl9, rfl, -, hl9, -, hb⟩
              rw [nx_add] at hl9
              rw [HNxA.out] at hl9
              obtain ⟨al9, cl9, hf9⟩ := hl9.form
              obtain ⟨nl9, hn9⟩ : ∃ nl9, (La9).length = nl9 := ⟨_, rfl⟩
              rw [hn9] at hf9
              subst hf9
              clear hn9
              refine ⟨HS.later hb, ?_⟩
              replace HS := HS.later hb
              replace HZa := HZa.later hb
              replace HZb := HZb.later hb
              replace HV9 := HV9.later hb
              clear hb
              clear HV9
              refine takeH 8 53 (.tuple #[.agg (stC 3 noV (.slice al9 nl9 cl9)).toArray, vo, .bool true]) rfl rfl (by kernel_rfl) (by kernel_rfl) (by kernel_rfl) (fun c a w h => h) (.inl ⟨rfl, fun w _ => rfl⟩) HS ?_
              simp only [List.setIfInBounds_toArray, List.set_cons_zero, List.set_cons_succ]
              refine takeH 9 62 (.agg (stC 3 noV (.slice al9 nl9 cl9)).toArray) rfl rfl (by kernel_rfl) (by kernel_rfl) (by kernel_rfl) (fun c a w h => h) (.inl ⟨rfl, fun w _ => by go_simp⟩) HS ?_
              simp only [List.setIfInBounds_toArray, List.set_cons_zero, List.set_cons_succ]
              refine takeH 10 63 (vo) rfl rfl (by kernel_rfl) (by kernel_rfl) (by kernel_rfl) (fun c a w h => h) (.inl ⟨rfl, fun w _ => by go_simp⟩) HS ?_
              simp only [List.setIfInBounds_toArray, List.set_cons_zero, List.set_cons_succ]
              refine takeH 11 64 (.bool true) rfl rfl (by kernel_rfl) (by kernel_rfl) (by kernel_rfl) (fun c a w h => h) (.inl ⟨rfl, fun w _ => by go_simp⟩) HS ?_
              simp only [List.setIfInBounds_toArray, List.set_cons_zero, List.set_cons_succ]
              refine wpAnyH_all (rs := [12]) (by kernel_rfl) (by simp) (fun i hi => ?_)
              obtain rfl : i = 12 := by simpa using hi
              refine wpOp_doG 12 (by rfl) (by rfl) ?_
              refine wpo_storeB 28 (.tmp 7) (.tmp 62) z7 0 (stC 3 noV (.slice al9 nl9 cl9)) (stC 3 noV va) 28 infoSt (show 0 + 6 ≤ 6 by decide) (stC_one _ _ rfl) rfl rfl rfl HZa.s ?_
              intro wq18 BP ho
              replace BP : Blk wq18 z7 (stC 3 noV (.slice al9 nl9 cl9)) 28 := BP
              have HN9 : Hs w wq18 z7 (.slice al9 nl9 cl9) La9 := ⟨BP, hl9.oth ho HZa.s (by decide), HZa.z⟩
              have HO9 : Hs w wq18 (z7 + 1) vb Lb := HZb.oth ho HZa.s (by omega)
              have HS9 : StW w wq18 := below_oth HS ho HZa.z HZa.z HS.size
              refine ⟨HS9, ?_⟩
              refine wpAnyH_done (by kernel_rfl) ?_ _
              show K9 _ _
              try simp only [Act.put, List.getElem_toArray, List.getElem_cons_succ, List.getElem_cons_zero]
              exact HTl16.out wq18 al9 cl9 nl9 HN9 HO9 HS9 _ _ _ _ _ _ _ _ _ _ _ _
          · refine wpOp_doG 6 (by rfl) (by rfl) ?_
            go_wp2_with fail
            have HV9 := (own_one n0 n0.heap.size (Nat.le_refl _) y).vsl
            have hb := below_box n0 (.cells (encV y).toArray 25)
            obtain ⟨q8, hq8⟩ : ∃ q8, n0.heap.size = q8 := ⟨_, rfl⟩
            change VSl (n0.alloc (.cells #[.int .i64 y.1, .int .i64 y.2.1, .string y.2.2] 25)) _ _ at HV9
            change Below _ n0 (n0.alloc (.cells #[.int .i64 y.1, .int .i64 y.2.1, .string y.2.2] 25)) at hb
            generalize n0.alloc (.cells #[.int .i64 y.1, .int .i64 y.2.1, .string y.2.2] 25) = wq19 at HV9 hb ⊢
            simp only [hq8] at HV9 ⊢
            clear hq8
            refine ⟨HS.later hb, ?_⟩
            replace HS := HS.later hb
            replace HZa := HZa.later hb
            replace HZb := HZb.later hb
            clear hb
            refine wpAnyH_all (rs := [0, 1]) (by kernel_rfl) (by simp) (fun i hi => ?_)
            simp only [List.mem_cons, List.not_mem_nil, or_false] at hi
            rcases hi with rfl | rfl
            · refine wpOp_doG 0 (by rfl) (by rfl) ?_
              refine wp_load_mid 28 (.tmp 7) rfl z7 0 rfl (stC 3 noV va) _ (Blk.all HZa.s) Tryd.underlying28 rfl infoSt ?_
              simp only [Act.put, List.setIfInBounds_toArray, List.set_cons_zero, List.set_cons_succ]
              obtain ⟨wq20, hnw⟩ : ∃ n, n = wq19 := ⟨_, rfl⟩
              subst hnw
              have hb : Below wq20.heap.size wq20 wq20 := Below.refl _ _
              refine ⟨HS.later hb, ?_⟩
              replace HS := HS.later hb
              replace HZa := HZa.later hb
              replace HZb := HZb.later hb
              replace HV9 := HV9.later hb
              clear hb
              refine wpAnyH_all (rs := [1]) (by kernel_rfl) (by simp) (fun i hi => ?_)
              obtain rfl : i = 1 := by simpa using hi
              refine wpOp_doG 1 (by rfl) (by rfl) ?_
              go_wp2_with fail
              refine (num_any 1 wq20).mono ?_
              rintro e wq21 ⟨rfl, hb⟩
              refine ⟨HS.later hb, ?_⟩
              replace HS := HS.later hb
              replace HZa := HZa.later hb
              replace HZb := HZb.later hb
              replace HV9 := HV9.later hb
              clear hb
              refine wpAnyH_all (rs := [7]) (by kernel_rfl) (by simp) (fun i hi => ?_)
              obtain rfl : i = 7 := by simpa using hi
              refine wpOp_doG 7 (by rfl) (by rfl) ?_
              go_wp2_with fail
              refine (HK.out.yes w.heap.size (vN 1) va La 4 (.slice (some ⟨q8, 0, none⟩) 1 1) [y] wq21 HS.size (HT.out.later HS) HZa.l HSrtA.out HLnA.out HV9 (sz1 _ (by have := HYs.out.2; omega)) (Nat.zero_le _) (may_add HYs.out.1)).mono ?_
              rintro e wq22 ⟨vo, vl9, rfl, -, hl9, -, hb⟩
              rw [nx_add] at hl9
              rw [HNxA.out] at hl9
              obtain ⟨al9, cl9, hf9⟩ := hl9.form
              obtain ⟨nl9, hn9⟩ : ∃ nl9, (La9).length = nl9 := ⟨_, rfl⟩
              rw [hn9] at hf9
              subst hf9
              clear hn9
              refine ⟨HS.later hb, ?_⟩
              replace HS := HS.later hb
              replace HZa := HZa.later hb
              replace HZb := HZb.later hb
              replace HV9 := HV9.later hb
              clear hb
              clear HV9
              refine takeH 8 53 (.tuple #[.agg (stC 3 noV (.slice al9 nl9 cl9)).toArray, vo, .bool true]) rfl rfl (by kernel_rfl) (by kernel_rfl) (by kernel_rfl) (fun c a w h => h) (.inl ⟨rfl, fun w _ => rfl⟩) HS ?_
              simp only [List.setIfInBounds_toArray, List.set_cons_zero, List.set_cons_succ]
              refine takeH 9 62 (.agg (stC 3 noV (.slice al9 nl9 cl9)).toArray) rfl rfl (by kernel_rfl) (by kernel_rfl) (by kernel_rfl) (fun c a w h => h) (.inl ⟨rfl, fun w _ => by go_simp⟩) HS ?_
              simp only [List.setIfInBounds_toArray, List.set_cons_zero, List.set_cons_succ]
              refine takeH 10 63 (vo) rfl rfl (by kernel_rfl) (by kernel_rfl) (by kernel_rfl) (fun c a w h => h) (.inl ⟨rfl, fun w _ => by go_simp⟩) HS ?_
              simp only [List.setIfInBounds_toArray, List.set_cons_zero, List.set_cons_succ]
              refine takeH 11 64 (.bool true) rfl rfl (by kernel_rfl) (by kernel_rfl) (by kernel_rfl) (fun c a w h => h) (.inl ⟨rfl, fun w _ => by go_simp⟩) HS ?_
              simp only [List.setIfInBounds_toArray, List.set_cons_zero, List.set_cons_succ]
              refine wpAnyH_all (rs := [12]) (by kernel_rfl) (by simp) (fun i hi => ?_)
              obtain rfl : i = 12 := by simpa using hi
              refine wpOp_doG 12 (by rfl) (by rfl) ?_
              refine wpo_storeB 28 (.tmp 7) (.tmp 62) z7 0 (stC 3 noV (.slice al9 nl9 cl9)) (stC 3 noV va) 28 infoSt (show 0 + 6 ≤ 6 by decide) (stC_one _ _ rfl) rfl rfl rfl HZa.s ?_
              intro wq23 BP ho
              replace BP : Blk wq23 z7 (stC 3 noV (.slice al9 nl9 cl9)) 28 := BP
              have HN9 : Hs w wq23 z7 (.slice al9 nl9 cl9) La9 := ⟨BP, hl9.oth ho HZa.s (by decide), HZa.z⟩
              have HO9 : Hs w wq23 (z7 + 1) vb Lb := HZb.oth ho HZa.s (by omega)
              have HS9 : StW w wq23 := below_oth HS ho HZa.z HZa.z HS.size
              refine ⟨HS9, ?_⟩
              refine wpAnyH_done (by kernel_rfl) ?_ _
              show K9 _ _
              try simp only [Act.put, List.getElem_toArray, List.getElem_cons_succ, List.getElem_cons_zero]
              exact HTl16.out wq23 al9 cl9 nl9 HN9 HO9 HS9 _ _ _ _ _ _ _ _ _ _ _ _
            · refine wpOp_doG 1 (by rfl) (by rfl) ?_
              go_wp2_with fail
              refine (num_any 1 wq19).mono ?_
              rintro e wq24 ⟨rfl, hb⟩
              refine ⟨HS.later hb, ?_⟩
              replace HS := HS.later hb
              replace HZa := HZa.later hb
              replace HZb := HZb.later hb
              replace HV9 := HV9.later hb
              clear hb
              refine wpAnyH_all (rs := [0]) (by kernel_rfl) (by simp) (fun i hi => ?_)
              obtain rfl : i = 0 := by simpa using hi
              refine wpOp_doG 0 (by rfl) (by rfl) ?_
              refine wp_load_mid 28 (.tmp 7) rfl z7 0 rfl (stC 3 noV va) _ (Blk.all HZa.s) Tryd.underlying28 rfl infoSt ?_
              simp only [Act.put, List.setIfInBounds_toArray, List.set_cons_zero, List.set_cons_succ]
              obtain ⟨wq25, hnw⟩ : ∃ n, n = wq24 := ⟨_, rfl⟩
              subst hnw
              have hb : Below wq25.heap.size wq25 wq25 := Below.refl _ _
              refine ⟨HS.later hb, ?_⟩
              replace HS := HS.later hb
              replace HZa := HZa.later hb
              replace HZb := HZb.later hb
              replace HV9 := HV9.later hb
              clear hb
              refine wpAnyH_all (rs := [7]) (by kernel_rfl) (by simp) (fun i hi => ?_)
              obtain rfl : i = 7 := by simpa using hi
              refine wpOp_doG 7 (by rfl) (by rfl) ?_
              go_wp2_with fail
              refine (HK.out.yes w.heap.size (vN 1) va La 4 (.slice (some ⟨q8, 0, none⟩) 1 1) [y] wq25 HS.size (HT.out.later HS) HZa.l HSrtA.out HLnA.out HV9 (sz1 _ (by have := HYs.out.2; omega)) (Nat.zero_le _) (may_add HYs.out.1)).mono ?_
              rintro e wq26 ⟨vo, vl9, rfl, -, hl9, -, hb⟩
              rw [nx_add] at hl9
              rw [HNxA.out] at hl9
              obtain ⟨al9, cl9, hf9⟩ := hl9.form
              obtain ⟨nl9, hn9⟩ : ∃ nl9, (La9).length = nl9 := ⟨_, rfl⟩
              rw [hn9] at hf9
              subst hf9
              clear hn9
              refine ⟨HS.later hb, ?_⟩
              replace HS := HS.later hb
              replace HZa := HZa.later hb
              replace HZb := HZb.later hb
              replace HV9 := HV9.later hb
              clear hb
              clear HV9
              refine takeH 8 53 (.tuple #[.agg (stC 3 noV (.slice al9 nl9 cl9)).toArray, vo, .bool true]) rfl rfl (by kernel_rfl) (by kernel_rfl) (by kernel_rfl) (fun c a w h => h) (.inl ⟨rfl, fun w _ => rfl⟩) HS ?_
              simp only [List.setIfInBounds_toArray, List.set_cons_zero, List.set_cons_succ]
              refine takeH 9 62 (.agg (stC 3 noV (.slice al9 nl9 cl9)).toArray) rfl rfl (by kernel_rfl) (by kernel_rfl) (by kernel_rfl) (fun c a w h => h) (.inl ⟨rfl, fun w _ => by go_simp⟩) HS ?_
              simp only [List.setIfInBounds_toArray, List.set_cons_zero, List.set_cons_succ]
              refine takeH 10 63 (vo) rfl rfl (by kernel_rfl) (by kernel_rfl) (by kernel_rfl) (fun c a w h => h) (.inl ⟨rfl, fun w _ => by go_simp⟩) HS ?_
              simp only [List.setIfInBounds_toArray, List.set_cons_zero, List.set_cons_succ]
              refine takeH 11 64 (.bool true) rfl rfl (by kernel_rfl) (by kernel_rfl) (by kernel_rfl) (fun c a w h => h) (.inl ⟨rfl, fun w _ => by go_simp⟩) HS ?_
              simp only [List.setIfInBounds_toArray, List.set_cons_zero, List.set_cons_succ]
              refine wpAnyH_all (rs := [12]) (by kernel_rfl) (by simp) (fun i hi => ?_)
              obtain rfl : i = 12 := by simpa using hi
              refine wpOp_doG 12 (by rfl) (by rfl) ?_
              refine wpo_storeB 28 (.tmp 7) (.tmp 62) z7 0 (stC 3 noV (.slice al9 nl9 cl9)) (stC 3 noV va) 28 infoSt (show 0 + 6 ≤ 6 by decide) (stC_one _ _ rfl) rfl rfl rfl HZa.s ?_
              intro wq27 BP ho
              replace BP : Blk wq27 z7 (stC 3 noV (.slice al9 nl9 cl9)) 28 := BP
              have HN9 : Hs w wq27 z7 (.slice al9 nl9 cl9) La9 := ⟨BP, hl9.oth ho HZa.s (by decide), HZa.z⟩
              have HO9 : Hs w wq27 (z7 + 1) vb Lb := HZb.oth ho HZa.s (by omega)
              have HS9 : StW w wq27 := below_oth HS ho HZa.z HZa.z HS.size
              refine ⟨HS9, ?_⟩
              refine wpAnyH_done (by kernel_rfl) ?_ _
              show K9 _ _
              try simp only [Act.put, List.getElem_toArray, List.getElem_cons_succ, List.getElem_cons_zero]
              exact HTl16.out wq27 al9 cl9 nl9 HN9 HO9 HS9 _ _ _ _ _ _ _ _ _ _ _ _
        · have ej : j = k := by omega
          subst ej
          obtain ⟨LA, hLA⟩ : ∃ L, addAll xs = L := ⟨_, rfl⟩
          have HLA : Hid (addAll xs = LA) := hLA
          have HSA : Hid (Srt LA) := by rw [← hLA]; exact addAll_srt _
          have hlenA : LA.length ≤ 1000 := by
            have h := addAll_len xs
            rw [hLA, HN.out] at h
            omega
          have HLnA : Hid (LA.length ≤ 1000) := hlenA
          have e1 : addAll (xs.take j) = LA := by rw [List.take_of_length_le (by rw [HN.out]; omega)]; exact hLA
          have e2 : addAll ((turn xs bn).take j) = LA := by rw [List.take_of_length_le (by rw [turn_len, HN.out]; omega), turn_one]; exact hLA
          rw [e1] at HSa
          rw [e2] at HSb
          clear hLA hlenA e1 e2 hj hlt2
          obtain ⟨s0, s1, s2, s3, s4, s5⟩ := st_cells HSa.out.s
          obtain ⟨r0, r1, r2, r3, r4, r5⟩ := st_cells HSb.out.s
          simp only [noV] at s1 s2 s3 r1 r2 r3
          have hsm := fun w' (h1 : OwnV w' w.heap.size va LA) (h2 : OwnV w' w.heap.size vb LA) => same_yesL 3 noV va vb LA w' h1.vsl h2.vsl (by have := HLnA.out; omega)
          simp only [stC, noV] at hsm
          have HSm : Hid (∀ w', OwnV w' w.heap.size va LA → OwnV w' w.heap.size vb LA → _) := hsm
          clear hsm
          by_cases hk00 : j = 0
          · subst hk00
            go_wp2_with (go_at_call 10; refine (HSm.out _ (HSa.out.l) (HSb.out.l)).mono ?_; rintro e w9 ⟨rfl, hb9⟩; have HSa9 := HSa.out.later hb9; have HSb9 := HSb.out.later hb9; have HB9 := below_next HB.out hb9; clear HSa HSb HB s0 s1 s2 s3 s4 s5 r0 r1 r2 r3 r4 r5; obtain ⟨s0, s1, s2, s3, s4, s5⟩ := st_cells HSa9.s; obtain ⟨r0, r1, r2, r3, r4, r5⟩ := st_cells HSb9.s; simp only [noV] at s1 s2 s3 r1 r2 r3; have HSa : Hid _ := HSa9; have HSb : Hid _ := HSb9; have HB : Hid _ := HB9; clear HSa9 HSb9 HB9 hb9)
            go_ret
            exact ⟨rfl, HB.out⟩
          have hj0 : 0 < j := by omega
          have hj0i : ((j : Int) == 0) = false := by simp; omega
          obtain ⟨m9, hm9⟩ : ∃ m9, bn % j = m9 := ⟨_, rfl⟩
          have hm9k : m9 < j := by rw [← hm9]; exact Nat.mod_lt _ hj0
          have hmod : (bn : Int) % (j : Int) = (m9 : Int) := by rw [← hm9]; exact (Int.natCast_emod _ _).symm
          have hmod' : (bn : Int).tmod (j : Int) = (m9 : Int) := by rw [Int.tmod_eq_emod_of_nonneg (by omega)]; exact hmod
          have hwb : IntKind.i64.wrap (bn : Int) = (bn : Int) := IntWalk.i64_in _ ⟨by omega, by have := HBn.out; omega⟩
          have hm9i : (m9 : Int) < (j : Int) := by omega
          obtain ⟨b, o, c', hv1, hbl, _, hat⟩ := vsl_first HV.out (by rw [HN.out]; exact hj0)
          injection hv1 with hv1 hv2 hv3
          subst hv1 hv3
          clear hv2
          have HAt : Hid (∀ wx, Below w.heap.size w wx → ∀ i, i < j → At wx b (o + i * 3) (nv xs i)) := fun wx hx i hi => (hat i (by rw [HN.out]; exact hi)).later hbl hx
          obtain ⟨v9, hv9⟩ : ∃ v9, nv xs m9 = v9 := ⟨_, rfl⟩
          have HVv : Hid (nV v9 = true ∧ v9.2.2.size ≤ 100) := by rw [← hv9]; exact HA.out m9 hm9k
          have HVm : Hid (v9 ∈ xs) := by rw [← hv9, nv_eq xs m9 (by rw [HN.out]; exact hm9k)]; exact List.getElem_mem _
          have HV9 : Hid (∀ wx, Below w.heap.size w wx → At wx b (o + m9 * 3) v9) := by rw [← hv9]; exact fun wx hx => HAt.out wx hx m9 hm9k
          clear hat hbl hm9 hv9
          go_wp2_with (go_at_call 10; refine (HSm.out _ (HSa.out.l) (HSb.out.l)).mono ?_; rintro e w9 ⟨rfl, hb9⟩; have HSa9 : Hid (Hs w w9 z7 va LA) := HSa.out.later hb9; have HB9 : Hid (Below w.heap.size w w9) := below_next HB.out hb9; obtain ⟨c0, c1, c2⟩ := HV9.out w9 HB9.out; clear HSa HSb HB s0 s1 s2 s3 s4 s5 r0 r1 r2 r3 r4 r5 hb9)
          have bx := below_box w9 (.cells (encV v9).toArray 25)
          have HSa : Hid (Hs w (w9.alloc (.cells (encV v9).toArray 25)) z7 va LA) := HSa9.out.later bx
          have HB : Hid (Below w.heap.size w (w9.alloc (.cells (encV v9).toArray 25))) := below_next HB9.out bx
          have HQ : Hid (Blk (w9.alloc (.cells (encV v9).toArray 25)) w9.heap.size (encV v9) 25) := Blk.new w9 _ _
          change Code.wp _ _ _ _ (w9.alloc (.cells (encV v9).toArray 25))
          obtain ⟨q11, hq11⟩ : ∃ q11, w9.heap.size = q11 := ⟨_, rfl⟩
          generalize w9.alloc (.cells (encV v9).toArray 25) = w14 at HSa HB HQ ⊢
          rw [hq11] at HQ
          simp only [hq11]
          clear hq11 bx HSa9 HB9 c0 c1 c2 hwb hmod hmod'
          rename_i K9 hK9
          have HAg : Hid (addB v9 LA = LA) := by show _ = _; rw [← HLA.out]; exact addAll_again HVm.out
          have tail22 : ∀ (w' : World) (q9 : Nat) (al9 : Option Addr) (cl9 nl9 : Nat), Hs w w' q9 (.slice al9 nl9 cl9) LA → Stay w14 w' → w14.heap.size ≤ q9 → ∀ t1 t2 t3 t4 t5 t6 t8 t9 t10 t13 t15 t16 t17 t18 t19 t20 t21 t22 t23 t24 t25 t26 t27 t28 t29 t30 t31 t32 t33 t34 t35 t36 t37 t38 t39 t40 t41 t42 t43 t44 t45 t46 t47 t48 t49 t50 t51 t52 t53 t54 t55 t56 t57 t58 t59 t60 t61 t62 t63 t64 t65 t66 t67 t68 t69 t70 t71 t72 t73 t74 t75 t76 t77 t78 t79 t80 t81 t82 t83 t84 t85 t86 t87 t88 t89 t90 t91 t92 t93 t94 t95 t96 t97 t98 t99 t100 t101 t102 t103 t104 t105 t106 t107 t108 t109 t110 t111 t112 t113 t114 t115 t116 t117 t118 t119 t120 t121 t122 t123 t124 t125 t126 t127 t128 t129 t130 t131 t132 t133 t134 t135 t136 t137 t138 t139 t140 t141 t142 t143 t144 t145 t146 t147 t148 t149 t150 t151 t152 t153 t154 t155 t156 t157 t158 : Value, K9 ⟨#[Value.slice (some ⟨b, o, none⟩) j c, t1, t2, t3, t4, t5, t6, Value.pointer (some ⟨z7, 0, none⟩), t8, t9, t10, Value.pointer (some ⟨q11, 0, none⟩), Value.pointer (some ⟨q9, 0, none⟩), t13, Value.bool true, t15, t16, t17, t18, t19, t20, t21, t22, t23, t24, t25, t26, t27, t28, t29, t30, t31, t32, t33, t34, t35, t36, t37, t38, t39, t40, t41, t42, t43, t44, t45, t46, t47, t48, t49, t50, t51, t52, t53, t54, t55, t56, t57, t58, t59, t60, t61, t62, t63, t64, t65, t66, t67, t68, t69, t70, t71, t72, t73, t74, t75, t76, t77, t78, t79, t80, t81, t82, t83, t84, t85, t86, t87, t88, t89, t90, t91, t92, t93, t94, t95, t96, t97, t98, t99, t100, t101, t102, t103, t104, t105, t106, t107, t108, t109, t110, t111, t112, t113, t114, t115, t116, t117, t118, t119, t120, t121, t122, t123, t124, t125, t126, t127, t128, t129, t130, t131, t132, t133, t134, t135, t136, t137, t138, t139, t140, t141, t142, t143, t144, t145, t146, t147, t148, t149, t150, t151, t152, t153, t154, t155, t156, t157, t158], []⟩ w' := by
            intro w' z12 al9 cl9 nl9 HN9 HS9 hq9w t1 t2 t3 t4 t5 t6 t8 t9 t10 t13 t15 t16 t17 t18 t19 t20 t21 t22 t23 t24 t25 t26 t27 t28 t29 t30 t31 t32 t33 t34 t35 t36 t37 t38 t39 t40 t41 t42 t43 t44 t45 t46 t47 t48 t49 t50 t51 t52 t53 t54 t55 t56 t57 t58 t59 t60 t61 t62 t63 t64 t65 t66 t67 t68 t69 t70 t71 t72 t73 t74 t75 t76 t77 t78 t79 t80 t81 t82 t83 t84 t85 t86 t87 t88 t89 t90 t91 t92 t93 t94 t95 t96 t97 t98 t99 t100 t101 t102 t103 t104 t105 t106 t107 t108 t109 t110 t111 t112 t113 t114 t115 t116 t117 t118 t119 t120 t121 t122 t123 t124 t125 t126 t127 t128 t129 t130 t131 t132 t133 t134 t135 t136 t137 t138 t139 t140 t141 t142 t143 t144 t145 t146 t147 t148 t149 t150 t151 t152 t153 t154 t155 t156 t157 t158
            apply hK9
            clear hK9 K9
            obtain ⟨vc, hvc⟩ : ∃ vc, Value.slice al9 nl9 cl9 = vc := ⟨_, rfl⟩
            rw [hvc] at HN9
            have HSa2 : Hid (Hs w w' z7 va LA) := HSa.out.later HS9
            have HSc2 : Hid (Hs w w' z12 vc LA) := HN9
            have HQ2 : Hid (Blk w' q11 (encV v9) 25) := HQ.out.later HS9
            have HB2 : Hid (Below w.heap.size w w') := below_next HB.out HS9
            have hN := fun w => HK.out.new 3 w
            rw [if_pos (by kernel_rfl), show ownB 3 = true by kernel_rfl] at hN
            simp only [stC, noV] at hN
            have hq79 : z7 < z12 := by have := HSa.out.s.lt; omega
            have hq119 : q11 < z12 := by have := HQ.out.lt; omega
            have HLt : Hid (z7 < z12 ∧ q11 < z12) := ⟨hq79, hq119⟩
            clear hvc HN9 HS9 hq9w HSa HQ HB hq79 hq119
            go_wp2_with (go_at_call 7; refine (hN _).mono ?_; rintro e w16 ⟨rfl, hb16⟩)
            clear hN
            have bx := below_box w16 (.cells (stC 3 noV nilS).toArray 28)
            have HSa : Hid (Hs w (w16.alloc (.cells (stC 3 noV nilS).toArray 28)) z7 va LA) := (HSa2.out.later hb16).later bx
            have HSc : Hid (Hs w (w16.alloc (.cells (stC 3 noV nilS).toArray 28)) z12 vc LA) := (HSc2.out.later hb16).later bx
            have HQ : Hid (Blk (w16.alloc (.cells (stC 3 noV nilS).toArray 28)) q11 (encV v9) 25) := (HQ2.out.later hb16).later bx
            have HB : Hid (Below w.heap.size w (w16.alloc (.cells (stC 3 noV nilS).toArray 28))) := below_next (below_next HB2.out hb16) bx
            have HSw : Hid (Hs w (w16.alloc (.cells (stC 3 noV nilS).toArray 28)) w16.heap.size nilS []) := ⟨Blk.new w16 _ _, OwnV.nil _ _, (below_next HB2.out hb16).size⟩
            have hlt15 : z12 < w16.heap.size := (HSc2.out.later hb16).s.lt
            change Hid (Hs w (w16.alloc (.cells #[.int .i64 3, .int .i64 0, .int .i64 0, .string noB, .int .i64 0, .slice none 0 0] 28)) _ _ _) at HSa HSc HSw
            change Hid (Blk (w16.alloc (.cells #[.int .i64 3, .int .i64 0, .int .i64 0, .string noB, .int .i64 0, .slice none 0 0] 28)) _ _ _) at HQ
            change Hid (Below _ w (w16.alloc (.cells #[.int .i64 3, .int .i64 0, .int .i64 0, .string noB, .int .i64 0, .slice none 0 0] 28))) at HB
            generalize w16.alloc (.cells #[.int .i64 3, .int .i64 0, .int .i64 0, .string noB, .int .i64 0, .slice none 0 0] 28) = w17 at HSa HSc HQ HB HSw ⊢
            obtain ⟨z15, hz15⟩ : ∃ z15, w16.heap.size = z15 := ⟨_, rfl⟩
            rw [hz15] at HSw hlt15
            simp only [hz15]
            clear hz15 hb16 bx HSa2 HSc2 HQ2 HB2
            go_loopw [119] (fun i wr => ∃ r : Nat, r ≤ j ∧ i = .int .i64 (r : Int) ∧ L1 w wr z15 (addAll (butK xs v9 r)) ∧ Hs w wr z7 va LA ∧ Hs w wr z12 vc LA ∧ Blk wr q11 (encV v9) 25 ∧ Below w.heap.size w wr) (fun i wr => j - (intOf i).toNat)
            case atStart => exact ⟨0, by omega, rfl, ⟨nilS, HSw.out⟩, HSa.out, HSc.out, HQ.out, HB.out⟩
            case round =>
              obtain ⟨r, hr, rfl, ⟨vw, hsw⟩, hsa, hsc, hqq, hbb⟩ := hrel
              clear HSa HSc HQ HB HSw
              have HSw : Hid (Hs w wr z15 vw (addAll (butK xs v9 r))) := hsw
              have HSa : Hid (Hs w wr z7 va LA) := hsa
              have HSc : Hid (Hs w wr z12 vc LA) := hsc
              have HQ : Hid (Blk wr q11 (encV v9) 25) := hqq
              have HB : Hid (Below w.heap.size w wr) := hbb
              clear hsw hsa hsc hqq hbb
              by_cases hrj : r < j
              · have hrj' : (r : Int) < (j : Int) := by omega
                have hrm : (r : Int) + 1 ≤ 9223372036854775807 := by omega
                obtain ⟨e, he⟩ : ∃ e, nv xs r = e := ⟨_, rfl⟩
                have HEe : Hid (nV e = true ∧ e.2.2.size ≤ 100) := by rw [← he]; exact HA.out r hrj
                have hat := HAt.out wr HB.out r hrj
                have HNx : Hid (butK xs v9 (r + 1) = if e = v9 then butK xs v9 r else butK xs v9 r ++ [e]) := by show _ = _; rw [← he]; exact butK_next (by rw [HN.out]; exact hrj)
                rw [he] at hat
                obtain ⟨c0, c1, c2⟩ := hat
                clear he
                obtain ⟨v0, v1, v2⟩ := v_cells HQ.out
                have hql : q11 < wr.heap.size := HQ.out.lt
                have bx := below_box wr (.cells (encV e).toArray 25)
                have HSw5 : Hid (Hs w (wr.alloc (.cells (encV e).toArray 25)) z15 vw (addAll (butK xs v9 r))) := HSw.out.later bx
                have HSa5 : Hid (Hs w (wr.alloc (.cells (encV e).toArray 25)) z7 va LA) := HSa.out.later bx
                have HSc5 : Hid (Hs w (wr.alloc (.cells (encV e).toArray 25)) z12 vc LA) := HSc.out.later bx
                have HQ5 : Hid (Blk (wr.alloc (.cells (encV e).toArray 25)) q11 (encV v9) 25) := HQ.out.later bx
                have HB5 : Hid (Below w.heap.size w (wr.alloc (.cells (encV e).toArray 25))) := below_next HB.out bx
                have HE5 : Hid (Blk (wr.alloc (.cells (encV e).toArray 25)) wr.heap.size (encV e) 25) := Blk.new wr _ _
                have hzq : z15 < wr.heap.size := HSw.out.s.lt
                change Hid (Hs w (wr.alloc (.cells #[.int .i64 e.1, .int .i64 e.2.1, .string e.2.2] 25)) _ _ _) at HSw5 HSa5 HSc5
                change Hid (Blk (wr.alloc (.cells #[.int .i64 e.1, .int .i64 e.2.1, .string e.2.2] 25)) _ _ _) at HQ5 HE5
                change Hid (Below _ w (wr.alloc (.cells #[.int .i64 e.1, .int .i64 e.2.1, .string e.2.2] 25))) at HB5
                clear HSw HSa HSc HQ HB bx
                have hq := fun w => neV e.1 e.2.1 v9.1 v9.2.1 e.2.2 v9.2.2 w
                have hg := eqgV
                by_cases hev : e = v9
                · have ee : eqvB e.1 e.2.1 e.2.2 v9.1 v9.2.1 v9.2.2 = true := (eqvB_iff _ _ _ _ _ _).2 hev
                  rw [ee, Bool.not_true] at hq
                  have HNb : Hid (butK xs v9 (r + 1) = butK xs v9 r) := by show _ = _; rw [HNx.out, if_pos hev]
                  clear ee hev HNx
                  go_wp2
                  go_roundw
                  case rel => exact ⟨r + 1, by omega, by go_num, ⟨vw, by rw [HNb.out]; exact HSw5.out⟩, HSa5.out, HSc5.out, HQ5.out, HB5.out⟩
                  case measure => simp [intOf]; omega
                · have ee : eqvB e.1 e.2.1 e.2.2 v9.1 v9.2.1 v9.2.2 = false := Bool.eq_false_iff.2 fun k => hev ((eqvB_iff _ _ _ _ _ _).1 k)
                  rw [ee, Bool.not_false] at hq
                  have HNb : Hid (butK xs v9 (r + 1) = butK xs v9 r ++ [e]) := by show _ = _; rw [HNx.out, if_neg hev]
                  clear ee hev HNx
                  go_wp2_with fail
                  generalize wr.alloc (.cells #[.int .i64 e.1, .int .i64 e.2.1, .string e.2.2] 25) = w18 at HSw5 HSa5 HSc5 HQ5 HB5 HE5 ⊢
                  obtain ⟨q18, hq18⟩ : ∃ q18, wr.heap.size = q18 := ⟨_, rfl⟩
                  rw [hq18] at HE5 hzq hql
                  simp only [hq18]
                  clear hq18 c0 c1 c2 v0 v1 v2 hq hg
                  rename_i K9 hK9
                  obtain ⟨Lw, hLw⟩ : ∃ L, addAll (butK xs v9 r) = L := ⟨_, rfl⟩
                  obtain ⟨Lw9, hLw9⟩ : ∃ L, addAll (butK xs v9 (r + 1)) = L := ⟨_, rfl⟩
                  have HLw9 : Hid (addAll (butK xs v9 (r + 1)) = Lw9) := hLw9
                  have HNxW : Hid (addB e Lw = Lw9) := by show _ = _; rw [← hLw, ← hLw9, HNb.out, addAll_snoc]
                  have HSrtW : Hid (Srt Lw) := by rw [← hLw]; exact addAll_srt _
                  have HLnW : Hid (Lw.length ≤ 1000) := by
                    have h := addAll_len (butK xs v9 r)
                    have h2 : (butK xs v9 r).length ≤ r := by unfold butK; exact Nat.le_trans (List.length_filter_le _ _) (by rw [List.length_take]; omega)
                    rw [hLw] at h
                    exact (by omega : Lw.length ≤ 1000)
                  rw [hLw] at HSw5
                  clear hLw hLw9 HNb
                  have tail28 : ∀ (w' : World) (al9 : Option Addr) (cl9 nl9 : Nat), Hs w w' z15 (.slice al9 nl9 cl9) Lw9 → Rs w w' z7 va z12 vc LA q11 v9 → Below w.heap.size w w' → ∀ x126 x127 x128 x129 x130 x131 x132 x133 x134 : Value, K9 ⟨#[Value.slice (some ⟨b, o, none⟩) j c, t1, t2, t3, t4, t5, t6, Value.pointer (some ⟨z7, 0, none⟩), t8, t9, t10, Value.pointer (some ⟨q11, 0, none⟩), Value.pointer (some ⟨z12, 0, none⟩), t13, Value.bool true, Value.pointer (some ⟨z15, 0, none⟩), Value.bool true, t17, Value.pointer (some ⟨q18, 0, none⟩), t19, t20, t21, t22, t23, t24, t25, t26, t27, t28, t29, t30, t31, t32, t33, t34, t35, t36, t37, t38, t39, t40, t41, t42, t43, t44, t45, t46, t47, t48, t49, t50, t51, t52, t53, t54, t55, t56, t57, t58, t59, t60, t61, t62, t63, t64, t65, t66, t67, t68, t69, t70, t71, t72, t73, t74, t75, t76, t77, t78, t79, t80, t81, t82, t83, t84, t85, t86, t87, t88, t89, t90, t91, t92, t93, t94, t95, t96, t97, t98, t99, t100, t101, t102, t103, t104, t105, t106, t107, t108, t109, t110, t111, t112, Value.tuple #[Value.agg #[Value.int IntKind.i64 3, Value.int IntKind.i64 0, Value.int IntKind.i64 0, Value.string noB, Value.int IntKind.i64 0, nilS], Value.bool true], Value.tuple #[Value.agg #[Value.int IntKind.i64 3, Value.int IntKind.i64 0, Value.int IntKind.i64 0, Value.string noB, Value.int IntKind.i64 0, nilS], Value.bool true], Value.agg #[Value.int IntKind.i64 3, Value.int IntKind.i64 0, Value.int IntKind.i64 0, Value.string noB, Value.int IntKind.i64 0, nilS], Value.bool true, Value.slice (some ⟨b, o, none⟩) j c, Value.int IntKind.i64 (j : Int), Value.int IntKind.i64 (r : Int), Value.bool true, Value.pointer (some ⟨b, o + r * 3, none⟩), Value.agg #[Value.int IntKind.i64 e.fst, Value.int IntKind.i64 e.snd.fst, Value.string e.snd.snd], Value.agg #[Value.int IntKind.i64 e.fst, Value.int IntKind.i64 e.snd.fst, Value.string e.snd.snd], Value.agg #[Value.int IntKind.i64 v9.fst, Value.int IntKind.i64 v9.snd.fst, Value.string v9.snd.snd], Value.bool true, x126, x127, x128, x129, x130, x131, x132, x133, x134, u135, t136, t137, t138, t139, t140, t141, t142, t143, t144, t145, t146, t147, t148, t149, t150, t151, t152, t153, t154, t155, t156, t157, t158], []⟩ w' := by
                    intro w' al9 cl9 nl9 HN9 HO9 HS9 x126 x127 x128 x129 x130 x131 x132 x133 x134
                    apply hK9
                    clear hK9 K9
                    go_wp2_with fail
                    go_roundw
                    case rel => exact ⟨r + 1, by omega, by go_num, ⟨_, by rw [HLw9.out]; exact HN9⟩, HO9.1, HO9.2.1, HO9.2.2, HS9⟩
                    case measure => simp [intOf]; omega
                  have HTl28 : Hid (∀ (w' : World) (al9 : Option Addr) (cl9 nl9 : Nat), Hs w w' z15 (.slice al9 nl9 cl9) Lw9 → Rs w w' z7 va z12 vc LA q11 v9 → Below w.heap.size w w' → ∀ x126 x127 x128 x129 x130 x131 x132 x133 x134 : Value, K9 ⟨#[Value.slice (some ⟨b, o, none⟩) j c, t1, t2, t3, t4, t5, t6, Value.pointer (some ⟨z7, 0, none⟩), t8, t9, t10, Value.pointer (some ⟨q11, 0, none⟩), Value.pointer (some ⟨z12, 0, none⟩), t13, Value.bool true, Value.pointer (some ⟨z15, 0, none⟩), Value.bool true, t17, Value.pointer (some ⟨q18, 0, none⟩), t19, t20, t21, t22, t23, t24, t25, t26, t27, t28, t29, t30, t31, t32, t33, t34, t35, t36, t37, t38, t39, t40, t41, t42, t43, t44, t45, t46, t47, t48, t49, t50, t51, t52, t53, t54, t55, t56, t57, t58, t59, t60, t61, t62, t63, t64, t65, t66, t67, t68, t69, t70, t71, t72, t73, t74, t75, t76, t77, t78, t79, t80, t81, t82, t83, t84, t85, t86, t87, t88, t89, t90, t91, t92, t93, t94, t95, t96, t97, t98, t99, t100, t101, t102, t103, t104, t105, t106, t107, t108, t109, t110, t111, t112, Value.tuple #[Value.agg #[Value.int IntKind.i64 3, Value.int IntKind.i64 0, Value.int IntKind.i64 0, Value.string noB, Value.int IntKind.i64 0, nilS], Value.bool true], Value.tuple #[Value.agg #[Value.int IntKind.i64 3, Value.int IntKind.i64 0, Value.int IntKind.i64 0, Value.string noB, Value.int IntKind.i64 0, nilS], Value.bool true], Value.agg #[Value.int IntKind.i64 3, Value.int IntKind.i64 0, Value.int IntKind.i64 0, Value.string noB, Value.int IntKind.i64 0, nilS], Value.bool true, Value.slice (some ⟨b, o, none⟩) j c, Value.int IntKind.i64 (j : Int), Value.int IntKind.i64 (r : Int), Value.bool true, Value.pointer (some ⟨b, o + r * 3, none⟩), Value.agg #[Value.int IntKind.i64 e.fst, Value.int IntKind.i64 e.snd.fst, Value.string e.snd.snd], Value.agg #[Value.int IntKind.i64 e.fst, Value.int IntKind.i64 e.snd.fst, Value.string e.snd.snd], Value.agg #[Value.int IntKind.i64 v9.fst, Value.int IntKind.i64 v9.snd.fst, Value.string v9.snd.snd], Value.bool true, x126, x127, x128, x129, x130, x131, x132, x133, x134, u135, t136, t137, t138, t139, t140, t141, t142, t143, t144, t145, t146, t147, t148, t149, t150, t151, t152, t153, t154, t155, t156, t157, t158], []⟩ w') := tail28
                  clear tail28 hK9
                  refine wp_region_held (S := S28 w q18 e) mixed ?_
                  have HZw : Hs w { w18 with drawn := w18.drawn + 1 } z15 vw Lw := HSw5.out.later (Stay.drew w18)
                  have HRs : Rs w { w18 with drawn := w18.drawn + 1 } z7 va z12 vc LA q11 v9 := ⟨HSa5.out.later (Stay.drew w18), HSc5.out.later (Stay.drew w18), HQ5.out.later (Stay.drew w18)⟩
                  have HS : S28 w q18 e { w18 with drawn := w18.drawn + 1 } := ⟨below_next HB5.out (Stay.drew w18), HE5.out.later (Stay.drew w18)⟩
                  generalize ({ w18 with drawn := w18.drawn + 1 } : World) = n0 at HZw HRs HS ⊢
                  refine takeH 2 129 (.agg #[.int .i64 e.1, .int .i64 e.2.1, .string e.2.2]) rfl rfl (by kernel_rfl) (by kernel_rfl) (by kernel_rfl) (fun c a w h => h) (yieldsIf_load_mid rfl 25 (.tmp 18) rfl q18 0 rfl (encV e) _ (fun wx hx => Blk.all hx.2) Tryd.underlying25 rfl infoVv) HS ?_
                  simp only [List.setIfInBounds_toArray, List.set_cons_zero, List.set_cons_succ]
                  refine wpAnyH_all (rs := [0, 1, 3]) (by kernel_rfl) (by simp) (fun i hi => ?_)
                  simp only [List.mem_cons, List.not_mem_nil, or_false] at hi
                  rcases hi with rfl | rfl | rfl
                  · refine wpOp_doG 0 (by rfl) (by rfl) ?_
                    refine wp_load_mid 28 (.tmp 15) rfl z15 0 rfl (stC 3 noV vw) _ (Blk.all HZw.s) Tryd.underlying28 rfl infoSt ?_
                    simp only [Act.put, List.setIfInBounds_toArray, List.set_cons_zero, List.set_cons_succ]
                    obtain ⟨wq1, hnw⟩ : ∃ n, n = n0 := ⟨_, rfl⟩
                    subst hnw
                    have hb : Below wq1.heap.size wq1 wq1 := Below.refl _ _
                    refine ⟨HS.later hb, ?_⟩
                    replace HS := HS.later hb
                    replace HZw := HZw.later hb
                    replace HRs := HRs.later hb
                    clear hb
                    refine wpAnyH_all (rs := [1, 3]) (by kernel_rfl) (by simp) (fun i hi => ?_)
                    simp only [List.mem_cons, List.not_mem_nil, or_false] at hi
                    rcases hi with rfl | rfl
                    · refine wpOp_doG 1 (by rfl) (by rfl) ?_
                      go_wp2_with fail
                      refine (num_any 1 wq1).mono ?_
                      rintro e9 wq2 ⟨rfl, hb⟩
                      refine ⟨HS.later hb, ?_⟩
                      replace HS := HS.later hb
                      replace HZw := HZw.later hb
                      replace HRs := HRs.later hb
                      clear hb
                      refine wpAnyH_all (rs := [3]) (by kernel_rfl) (by simp) (fun i hi => ?_)
                      obtain rfl : i = 3 := by simpa using hi
                      refine wpOp_doG 3 (by rfl) (by rfl) ?_
                      go_wp2_with fail
                      have HV9x := (own_one wq2 wq2.heap.size (Nat.le_refl _) e).vsl
                      have hb := below_box wq2 (.cells (encV e).toArray 25)
                      obtain ⟨q8, hq8⟩ : ∃ q8, wq2.heap.size = q8 := ⟨_, rfl⟩
                      change VSl (wq2.alloc (.cells #[.int .i64 e.1, .int .i64 e.2.1, .string e.2.2] 25)) _ _ at HV9x
                      change Below _ wq2 (wq2.alloc (.cells #[.int .i64 e.1, .int .i64 e.2.1, .string e.2.2] 25)) at hb
                      generalize wq2.alloc (.cells #[.int .i64 e.1, .int .i64 e.2.1, .string e.2.2] 25) = wq3 at HV9x hb ⊢
                      simp only [hq8] at HV9x ⊢
                      clear hq8
                      refine ⟨HS.later hb, ?_⟩
                      replace HS := HS.later hb
                      replace HZw := HZw.later hb
                      replace HRs := HRs.later hb
                      clear hb
                      refine wpAnyH_all (rs := [4]) (by kernel_rfl) (by simp) (fun i hi => ?_)
                      obtain rfl : i = 4 := by simpa using hi
                      refine wpOp_doG 4 (by rfl) (by rfl) ?_
                      go_wp2_with fail
                      refine (HK.out.yes w.heap.size (vN 1) vw Lw 4 (.slice (some ⟨q8, 0, none⟩) 1 1) [e] wq3 HS.1.size (HT.out.later HS.1) HZw.l HSrtW.out HLnW.out HV9x (sz1 _ (by have := HEe.out.2; omega)) (Nat.zero_le _) (may_add HEe.out.1)).mono ?_
                      rintro e9 wq4 ⟨vo, vl9, rfl, -, hl9, -, hb⟩
                      rw [nx_add, HNxW.out] at hl9
                      obtain ⟨al9, cl9, hf9⟩ := hl9.form
                      obtain ⟨nl9, hn9⟩ : ∃ nl9, Lw9.length = nl9 := ⟨_, rfl⟩
                      rw [hn9] at hf9
                      subst hf9
                      clear hn9
                      refine ⟨HS.later hb, ?_⟩
                      replace HS := HS.later hb
                      replace HZw := HZw.later hb
                      replace HRs := HRs.later hb
                      replace HV9x := HV9x.later hb
                      clear hb
                      clear HV9x
                      refine takeH 5 126 (.tuple #[.agg (stC 3 noV (.slice al9 nl9 cl9)).toArray, vo, .bool true]) rfl rfl (by kernel_rfl) (by kernel_rfl) (by kernel_rfl) (fun c a w h => h) (.inl ⟨rfl, fun w _ => rfl⟩) HS ?_
                      simp only [List.setIfInBounds_toArray, List.set_cons_zero, List.set_cons_succ]
                      refine takeH 6 132 (.agg (stC 3 noV (.slice al9 nl9 cl9)).toArray) rfl rfl (by kernel_rfl) (by kernel_rfl) (by kernel_rfl) (fun c a w h => h) (.inl ⟨rfl, fun w _ => by go_simp⟩) HS ?_
                      simp only [List.setIfInBounds_toArray, List.set_cons_zero, List.set_cons_succ]
                      refine takeH 7 133 (vo) rfl rfl (by kernel_rfl) (by kernel_rfl) (by kernel_rfl) (fun c a w h => h) (.inl ⟨rfl, fun w _ => by go_simp⟩) HS ?_
                      simp only [List.setIfInBounds_toArray, List.set_cons_zero, List.set_cons_succ]
                      refine takeH 8 134 (.bool true) rfl rfl (by kernel_rfl) (by kernel_rfl) (by kernel_rfl) (fun c a w h => h) (.inl ⟨rfl, fun w _ => by go_simp⟩) HS ?_
                      simp only [List.setIfInBounds_toArray, List.set_cons_zero, List.set_cons_succ]
                      refine wpAnyH_all (rs := [9]) (by kernel_rfl) (by simp) (fun i hi => ?_)
                      obtain rfl : i = 9 := by simpa using hi
                      refine wpOp_doG 9 (by rfl) (by rfl) ?_
                      refine wpo_storeB 28 (.tmp 15) (.tmp 132) z15 0 (stC 3 noV (.slice al9 nl9 cl9)) (stC 3 noV vw) 28 infoSt (show 0 + 6 ≤ 6 by decide) (stC_one _ _ rfl) rfl rfl rfl HZw.s ?_
                      intro wq5 BP ho
                      replace BP : Blk wq5 z15 (stC 3 noV (.slice al9 nl9 cl9)) 28 := BP
                      have HN9 : Hs w wq5 z15 (.slice al9 nl9 cl9) Lw9 := ⟨BP, hl9.oth ho HZw.s (by decide), HZw.z⟩
                      have HO9 : Rs w wq5 z7 va z12 vc LA q11 v9 := HRs.oth ho HZw.s (by have := HLt.out; omega) (by omega) (by have := HLt.out; omega)
                      have HS9 : S28 w q18 e wq5 := ⟨below_oth HS.1 ho HZw.z HZw.z HS.1.size, HS.2.oth ho (by omega) (by omega)⟩
                      refine ⟨HS9, ?_⟩
                      refine wpAnyH_done (by kernel_rfl) ?_ _
                      show K9 _ _
                      try simp only [Act.put, List.getElem_toArray, List.getElem_cons_succ, List.getElem_cons_zero]
                      exact HTl28.out wq5 al9 cl9 nl9 HN9 HO9 HS9.1 _ _ _ _ _ _ _ _ _
                    · refine wpOp_doG 3 (by rfl) (by rfl) ?_
                      go_wp2_with fail
                      have HV9x := (own_one wq1 wq1.heap.size (Nat.le_refl _) e).vsl
                      have hb := below_box wq1 (.cells (encV e).toArray 25)
                      obtain ⟨q8, hq8⟩ : ∃ q8, wq1.heap.size = q8 := ⟨_, rfl⟩
                      change VSl (wq1.alloc (.cells #[.int .i64 e.1, .int .i64 e.2.1, .string e.2.2] 25)) _ _ at HV9x
                      change Below _ wq1 (wq1.alloc (.cells #[.int .i64 e.1, .int .i64 e.2.1, .string e.2.2] 25)) at hb
                      generalize wq1.alloc (.cells #[.int .i64 e.1, .int .i64 e.2.1, .string e.2.2] 25) = wq6 at HV9x hb ⊢
                      simp only [hq8] at HV9x ⊢
                      clear hq8
                      refine ⟨HS.later hb, ?_⟩
                      replace HS := HS.later hb
                      replace HZw := HZw.later hb
                      replace HRs := HRs.later hb
                      clear hb
                      refine wpAnyH_all (rs := [1]) (by kernel_rfl) (by simp) (fun i hi => ?_)
                      obtain rfl : i = 1 := by simpa using hi
                      refine wpOp_doG 1 (by rfl) (by rfl) ?_
                      go_wp2_with fail
                      refine (num_any 1 wq6).mono ?_
                      rintro e9 wq7 ⟨rfl, hb⟩
                      refine ⟨HS.later hb, ?_⟩
                      replace HS := HS.later hb
                      replace HZw := HZw.later hb
                      replace HRs := HRs.later hb
                      replace HV9x := HV9x.later hb
                      clear hb
                      refine wpAnyH_all (rs := [4]) (by kernel_rfl) (by simp) (fun i hi => ?_)
                      obtain rfl : i = 4 := by simpa using hi
                      refine wpOp_doG 4 (by rfl) (by rfl) ?_
                      go_wp2_with fail
                      refine (HK.out.yes w.heap.size (vN 1) vw Lw 4 (.slice (some ⟨q8, 0, none⟩) 1 1) [e] wq7 HS.1.size (HT.out.later HS.1) HZw.l HSrtW.out HLnW.out HV9x (sz1 _ (by have := HEe.out.2; omega)) (Nat.zero_le _) (may_add HEe.out.1)).mono ?_
                      rintro e9 wq8 ⟨vo, vl9, rfl, -, hl9, -, hb⟩
                      rw [nx_add, HNxW.out] at hl9
                      obtain ⟨al9, cl9, hf9⟩ := hl9.form
                      obtain ⟨nl9, hn9⟩ : ∃ nl9, Lw9.length = nl9 := ⟨_, rfl⟩
                      rw [hn9] at hf9
                      subst hf9
                      clear hn9
                      refine ⟨HS.later hb, ?_⟩
                      replace HS := HS.later hb
                      replace HZw := HZw.later hb
                      replace HRs := HRs.later hb
                      replace HV9x := HV9x.later hb
                      clear hb
                      clear HV9x
                      refine takeH 5 126 (.tuple #[.agg (stC 3 noV (.slice al9 nl9 cl9)).toArray, vo, .bool true]) rfl rfl (by kernel_rfl) (by kernel_rfl) (by kernel_rfl) (fun c a w h => h) (.inl ⟨rfl, fun w _ => rfl⟩) HS ?_
                      simp only [List.setIfInBounds_toArray, List.set_cons_zero, List.set_cons_succ]
                      refine takeH 6 132 (.agg (stC 3 noV (.slice al9 nl9 cl9)).toArray) rfl rfl (by kernel_rfl) (by kernel_rfl) (by kernel_rfl) (fun c a w h => h) (.inl ⟨rfl, fun w _ => by go_simp⟩) HS ?_
                      simp only [List.setIfInBounds_toArray, List.set_cons_zero, List.set_cons_succ]
                      refine takeH 7 133 (vo) rfl rfl (by kernel_rfl) (by kernel_rfl) (by kernel_rfl) (fun c a w h => h) (.inl ⟨rfl, fun w _ => by go_simp⟩) HS ?_
                      simp only [List.setIfInBounds_toArray, List.set_cons_zero, List.set_cons_succ]
                      refine takeH 8 134 (.bool true) rfl rfl (by kernel_rfl) (by kernel_rfl) (by kernel_rfl) (fun c a w h => h) (.inl ⟨rfl, fun w _ => by go_simp⟩) HS ?_
                      simp only [List.setIfInBounds_toArray, List.set_cons_zero, List.set_cons_succ]
                      refine wpAnyH_all (rs := [9]) (by kernel_rfl) (by simp) (fun i hi => ?_)
                      obtain rfl : i = 9 := by simpa using hi
                      refine wpOp_doG 9 (by rfl) (by rfl) ?_
                      refine wpo_storeB 28 (.tmp 15) (.tmp 132) z15 0 (stC 3 noV (.slice al9 nl9 cl9)) (stC 3 noV vw) 28 infoSt (show 0 + 6 ≤ 6 by decide) (stC_one _ _ rfl) rfl rfl rfl HZw.s ?_
                      intro wq9 BP ho
                      replace BP : Blk wq9 z15 (stC 3 noV (.slice al9 nl9 cl9)) 28 := BP
                      have HN9 : Hs w wq9 z15 (.slice al9 nl9 cl9) Lw9 := ⟨BP, hl9.oth ho HZw.s (by decide), HZw.z⟩
                      have HO9 : Rs w wq9 z7 va z12 vc LA q11 v9 := HRs.oth ho HZw.s (by have := HLt.out; omega) (by omega) (by have := HLt.out; omega)
                      have HS9 : S28 w q18 e wq9 := ⟨below_oth HS.1 ho HZw.z HZw.z HS.1.size, HS.2.oth ho (by omega) (by omega)⟩
                      refine ⟨HS9, ?_⟩
                      refine wpAnyH_done (by kernel_rfl) ?_ _
                      show K9 _ _
                      try simp only [Act.put, List.getElem_toArray, List.getElem_cons_succ, List.getElem_cons_zero]
                      exact HTl28.out wq9 al9 cl9 nl9 HN9 HO9 HS9.1 _ _ _ _ _ _ _ _ _
                  · refine wpOp_doG 1 (by rfl) (by rfl) ?_
                    go_wp2_with fail
                    refine (num_any 1 n0).mono ?_
                    rintro e9 wq10 ⟨rfl, hb⟩
                    refine ⟨HS.later hb, ?_⟩
                    replace HS := HS.later hb
                    replace HZw := HZw.later hb
                    replace HRs := HRs.later hb
                    clear hb
                    refine wpAnyH_all (rs := [0, 3]) (by kernel_rfl) (by simp) (fun i hi => ?_)
                    simp only [List.mem_cons, List.not_mem_nil, or_false] at hi
                    rcases hi with rfl | rfl
                    · refine wpOp_doG 0 (by rfl) (by rfl) ?_
                      refine wp_load_mid 28 (.tmp 15) rfl z15 0 rfl (stC 3 noV vw) _ (Blk.all HZw.s) Tryd.underlying28 rfl infoSt ?_
                      simp only [Act.put, List.setIfInBounds_toArray, List.set_cons_zero, List.set_cons_succ]
                      obtain ⟨wq11, hnw⟩ : ∃ n, n = wq10 := ⟨_, rfl⟩
                      subst hnw
                      have hb : Below wq11.heap.size wq11 wq11 := Below.refl _ _
                      refine ⟨HS.later hb, ?_⟩
                      replace HS := HS.later hb
                      replace HZw := HZw.later hb
                      replace HRs := HRs.later hb
                      clear hb
                      refine wpAnyH_all (rs := [3]) (by kernel_rfl) (by simp) (fun i hi => ?_)
                      obtain rfl : i = 3 := by simpa using hi
                      refine wpOp_doG 3 (by rfl) (by rfl) ?_
                      go_wp2_with fail
                      have HV9x := (own_one wq11 wq11.heap.size (Nat.le_refl _) e).vsl
                      have hb := below_box wq11 (.cells (encV e).toArray 25)
                      obtain ⟨q8, hq8⟩ : ∃ q8, wq11.heap.size = q8 := ⟨_, rfl⟩
                      change VSl (wq11.alloc (.cells #[.int .i64 e.1, .int .i64 e.2.1, .string e.2.2] 25)) _ _ at HV9x
                      change Below _ wq11 (wq11.alloc (.cells #[.int .i64 e.1, .int .i64 e.2.1, .string e.2.2] 25)) at hb
                      generalize wq11.alloc (.cells #[.int .i64 e.1, .int .i64 e.2.1, .string e.2.2] 25) = wq12 at HV9x hb ⊢
                      simp only [hq8] at HV9x ⊢
                      clear hq8
                      refine ⟨HS.later hb, ?_⟩
                      replace HS := HS.later hb
                      replace HZw := HZw.later hb
                      replace HRs := HRs.later hb
                      clear hb
                      refine wpAnyH_all (rs := [4]) (by kernel_rfl) (by simp) (fun i hi => ?_)
                      obtain rfl : i = 4 := by simpa using hi
                      refine wpOp_doG 4 (by rfl) (by rfl) ?_
                      go_wp2_with fail
                      refine (HK.out.yes w.heap.size (vN 1) vw Lw 4 (.slice (some ⟨q8, 0, none⟩) 1 1) [e] wq12 HS.1.size (HT.out.later HS.1) HZw.l HSrtW.out HLnW.out HV9x (sz1 _ (by have := HEe.out.2; omega)) (Nat.zero_le _) (may_add HEe.out.1)).mono ?_
                      rintro e9 wq13 ⟨vo, vl9, rfl, -, hl9, -, hb⟩
                      rw [nx_add, HNxW.out] at hl9
                      obtain ⟨al9, cl9, hf9⟩ := hl9.form
                      obtain ⟨nl9, hn9⟩ : ∃ nl9, Lw9.length = nl9 := ⟨_, rfl⟩
                      rw [hn9] at hf9
                      subst hf9
                      clear hn9
                      refine ⟨HS.later hb, ?_⟩
                      replace HS := HS.later hb
                      replace HZw := HZw.later hb
                      replace HRs := HRs.later hb
                      replace HV9x := HV9x.later hb
                      clear hb
                      clear HV9x
                      refine takeH 5 126 (.tuple #[.agg (stC 3 noV (.slice al9 nl9 cl9)).toArray, vo, .bool true]) rfl rfl (by kernel_rfl) (by kernel_rfl) (by kernel_rfl) (fun c a w h => h) (.inl ⟨rfl, fun w _ => rfl⟩) HS ?_
                      simp only [List.setIfInBounds_toArray, List.set_cons_zero, List.set_cons_succ]
                      refine takeH 6 132 (.agg (stC 3 noV (.slice al9 nl9 cl9)).toArray) rfl rfl (by kernel_rfl) (by kernel_rfl) (by kernel_rfl) (fun c a w h => h) (.inl ⟨rfl, fun w _ => by go_simp⟩) HS ?_
                      simp only [List.setIfInBounds_toArray, List.set_cons_zero, List.set_cons_succ]
                      refine takeH 7 133 (vo) rfl rfl (by kernel_rfl) (by kernel_rfl) (by kernel_rfl) (fun c a w h => h) (.inl ⟨rfl, fun w _ => by go_simp⟩) HS ?_
                      simp only [List.setIfInBounds_toArray, List.set_cons_zero, List.set_cons_succ]
                      refine takeH 8 134 (.bool true) rfl rfl (by kernel_rfl) (by kernel_rfl) (by kernel_rfl) (fun c a w h => h) (.inl ⟨rfl, fun w _ => by go_simp⟩) HS ?_
                      simp only [List.setIfInBounds_toArray, List.set_cons_zero, List.set_cons_succ]
                      refine wpAnyH_all (rs := [9]) (by kernel_rfl) (by simp) (fun i hi => ?_)
                      obtain rfl : i = 9 := by simpa using hi
                      refine wpOp_doG 9 (by rfl) (by rfl) ?_
                      refine wpo_storeB 28 (.tmp 15) (.tmp 132) z15 0 (stC 3 noV (.slice al9 nl9 cl9)) (stC 3 noV vw) 28 infoSt (show 0 + 6 ≤ 6 by decide) (stC_one _ _ rfl) rfl rfl rfl HZw.s ?_
                      intro wq14 BP ho
                      replace BP : Blk wq14 z15 (stC 3 noV (.slice al9 nl9 cl9)) 28 := BP
                      have HN9 : Hs w wq14 z15 (.slice al9 nl9 cl9) Lw9 := ⟨BP, hl9.oth ho HZw.s (by decide), HZw.z⟩
                      have HO9 : Rs w wq14 z7 va z12 vc LA q11 v9 := HRs.oth ho HZw.s (by have := HLt.out; omega) (by omega) (by have := HLt.out; omega)
                      have HS9 : S28 w q18 e wq14 := ⟨below_oth HS.1 ho HZw.z HZw.z HS.1.size, HS.2.oth ho (by omega) (by omega)⟩
                      refine ⟨HS9, ?_⟩
                      refine wpAnyH_done (by kernel_rfl) ?_ _
                      show K9 _ _
                      try simp only [Act.put, List.getElem_toArray, List.getElem_cons_succ, List.getElem_cons_zero]
                      exact HTl28.out wq14 al9 cl9 nl9 HN9 HO9 HS9.1 _ _ _ _ _ _ _ _ _
                    · refine wpOp_doG 3 (by rfl) (by rfl) ?_
                      go_wp2_with fail
                      have HV9x := (own_one wq10 wq10.heap.size (Nat.le_refl _) e).vsl
                      have hb := below_box wq10 (.cells (encV e).toArray 25)
                      obtain ⟨q8, hq8⟩ : ∃ q8, wq10.heap.size = q8 := ⟨_, rfl⟩
                      change VSl (wq10.alloc (.cells #[.int .i64 e.1, .int .i64 e.2.1, .string e.2.2] 25)) _ _ at HV9x
                      change Below _ wq10 (wq10.alloc (.cells #[.int .i64 e.1, .int .i64 e.2.1, .string e.2.2] 25)) at hb
                      generalize wq10.alloc (.cells #[.int .i64 e.1, .int .i64 e.2.1, .string e.2.2] 25) = wq15 at HV9x hb ⊢
                      simp only [hq8] at HV9x ⊢
                      clear hq8
                      refine ⟨HS.later hb, ?_⟩
                      replace HS := HS.later hb
                      replace HZw := HZw.later hb
                      replace HRs := HRs.later hb
                      clear hb
                      refine wpAnyH_all (rs := [0]) (by kernel_rfl) (by simp) (fun i hi => ?_)
                      obtain rfl : i = 0 := by simpa using hi
                      refine wpOp_doG 0 (by rfl) (by rfl) ?_
                      refine wp_load_mid 28 (.tmp 15) rfl z15 0 rfl (stC 3 noV vw) _ (Blk.all HZw.s) Tryd.underlying28 rfl infoSt ?_
                      simp only [Act.put, List.setIfInBounds_toArray, List.set_cons_zero, List.set_cons_succ]
                      obtain ⟨wq16, hnw⟩ : ∃ n, n = wq15 := ⟨_, rfl⟩
                      subst hnw
                      have hb : Below wq16.heap.size wq16 wq16 := Below.refl _ _
                      refine ⟨HS.later hb, ?_⟩
                      replace HS := HS.later hb
                      replace HZw := HZw.later hb
                      replace HRs := HRs.later hb
                      replace HV9x := HV9x.later hb
                      clear hb
                      refine wpAnyH_all (rs := [4]) (by kernel_rfl) (by simp) (fun i hi => ?_)
                      obtain rfl : i = 4 := by simpa using hi
                      refine wpOp_doG 4 (by rfl) (by rfl) ?_
                      go_wp2_with fail
                      refine (HK.out.yes w.heap.size (vN 1) vw Lw 4 (.slice (some ⟨q8, 0, none⟩) 1 1) [e] wq16 HS.1.size (HT.out.later HS.1) HZw.l HSrtW.out HLnW.out HV9x (sz1 _ (by have := HEe.out.2; omega)) (Nat.zero_le _) (may_add HEe.out.1)).mono ?_
                      rintro e9 wq17 ⟨vo, vl9, rfl, -, hl9, -, hb⟩
                      rw [nx_add, HNxW.out] at hl9
                      obtain ⟨al9, cl9, hf9⟩ := hl9.form
                      obtain ⟨nl9, hn9⟩ : ∃ nl9, Lw9.length = nl9 := ⟨_, rfl⟩
                      rw [hn9] at hf9
                      subst hf9
                      clear hn9
                      refine ⟨HS.later hb, ?_⟩
                      replace HS := HS.later hb
                      replace HZw := HZw.later hb
                      replace HRs := HRs.later hb
                      replace HV9x := HV9x.later hb
                      clear hb
                      clear HV9x
                      refine takeH 5 126 (.tuple #[.agg (stC 3 noV (.slice al9 nl9 cl9)).toArray, vo, .bool true]) rfl rfl (by kernel_rfl) (by kernel_rfl) (by kernel_rfl) (fun c a w h => h) (.inl ⟨rfl, fun w _ => rfl⟩) HS ?_
                      simp only [List.setIfInBounds_toArray, List.set_cons_zero, List.set_cons_succ]
                      refine takeH 6 132 (.agg (stC 3 noV (.slice al9 nl9 cl9)).toArray) rfl rfl (by kernel_rfl) (by kernel_rfl) (by kernel_rfl) (fun c a w h => h) (.inl ⟨rfl, fun w _ => by go_simp⟩) HS ?_
                      simp only [List.setIfInBounds_toArray, List.set_cons_zero, List.set_cons_succ]
                      refine takeH 7 133 (vo) rfl rfl (by kernel_rfl) (by kernel_rfl) (by kernel_rfl) (fun c a w h => h) (.inl ⟨rfl, fun w _ => by go_simp⟩) HS ?_
                      simp only [List.setIfInBounds_toArray, List.set_cons_zero, List.set_cons_succ]
                      refine takeH 8 134 (.bool true) rfl rfl (by kernel_rfl) (by kernel_rfl) (by kernel_rfl) (fun c a w h => h) (.inl ⟨rfl, fun w _ => by go_simp⟩) HS ?_
                      simp only [List.setIfInBounds_toArray, List.set_cons_zero, List.set_cons_succ]
                      refine wpAnyH_all (rs := [9]) (by kernel_rfl) (by simp) (fun i hi => ?_)
                      obtain rfl : i = 9 := by simpa using hi
                      refine wpOp_doG 9 (by rfl) (by rfl) ?_
                      refine wpo_storeB 28 (.tmp 15) (.tmp 132) z15 0 (stC 3 noV (.slice al9 nl9 cl9)) (stC 3 noV vw) 28 infoSt (show 0 + 6 ≤ 6 by decide) (stC_one _ _ rfl) rfl rfl rfl HZw.s ?_
                      intro wq18 BP ho
                      replace BP : Blk wq18 z15 (stC 3 noV (.slice al9 nl9 cl9)) 28 := BP
                      have HN9 : Hs w wq18 z15 (.slice al9 nl9 cl9) Lw9 := ⟨BP, hl9.oth ho HZw.s (by decide), HZw.z⟩
                      have HO9 : Rs w wq18 z7 va z12 vc LA q11 v9 := HRs.oth ho HZw.s (by have := HLt.out; omega) (by omega) (by have := HLt.out; omega)
                      have HS9 : S28 w q18 e wq18 := ⟨below_oth HS.1 ho HZw.z HZw.z HS.1.size, HS.2.oth ho (by omega) (by omega)⟩
                      refine ⟨HS9, ?_⟩
                      refine wpAnyH_done (by kernel_rfl) ?_ _
                      show K9 _ _
                      try simp only [Act.put, List.getElem_toArray, List.getElem_cons_succ, List.getElem_cons_zero]
                      exact HTl28.out wq18 al9 cl9 nl9 HN9 HO9 HS9.1 _ _ _ _ _ _ _ _ _
                  · refine wpOp_doG 3 (by rfl) (by rfl) ?_
                    go_wp2_with fail
                    have HV9x := (own_one n0 n0.heap.size (Nat.le_refl _) e).vsl
                    have hb := below_box n0 (.cells (encV e).toArray 25)
                    obtain ⟨q8, hq8⟩ : ∃ q8, n0.heap.size = q8 := ⟨_, rfl⟩
                    change VSl (n0.alloc (.cells #[.int .i64 e.1, .int .i64 e.2.1, .string e.2.2] 25)) _ _ at HV9x
                    change Below _ n0 (n0.alloc (.cells #[.int .i64 e.1, .int .i64 e.2.1, .string e.2.2] 25)) at hb
                    generalize n0.alloc (.cells #[.int .i64 e.1, .int .i64 e.2.1, .string e.2.2] 25) = wq19 at HV9x hb ⊢
                    simp only [hq8] at HV9x ⊢
                    clear hq8
                    refine ⟨HS.later hb, ?_⟩
                    replace HS := HS.later hb
                    replace HZw := HZw.later hb
                    replace HRs := HRs.later hb
                    clear hb
                    refine wpAnyH_all (rs := [0, 1]) (by kernel_rfl) (by simp) (fun i hi => ?_)
                    simp only [List.mem_cons, List.not_mem_nil, or_false] at hi
                    rcases hi with rfl | rfl
                    · refine wpOp_doG 0 (by rfl) (by rfl) ?_
                      refine wp_load_mid 28 (.tmp 15) rfl z15 0 rfl (stC 3 noV vw) _ (Blk.all HZw.s) Tryd.underlying28 rfl infoSt ?_
                      simp only [Act.put, List.setIfInBounds_toArray, List.set_cons_zero, List.set_cons_succ]
                      obtain ⟨wq20, hnw⟩ : ∃ n, n = wq19 := ⟨_, rfl⟩
                      subst hnw
                      have hb : Below wq20.heap.size wq20 wq20 := Below.refl _ _
                      refine ⟨HS.later hb, ?_⟩
                      replace HS := HS.later hb
                      replace HZw := HZw.later hb
                      replace HRs := HRs.later hb
                      replace HV9x := HV9x.later hb
                      clear hb
                      refine wpAnyH_all (rs := [1]) (by kernel_rfl) (by simp) (fun i hi => ?_)
                      obtain rfl : i = 1 := by simpa using hi
                      refine wpOp_doG 1 (by rfl) (by rfl) ?_
                      go_wp2_with fail
                      refine (num_any 1 wq20).mono ?_
                      rintro e9 wq21 ⟨rfl, hb⟩
                      refine ⟨HS.later hb, ?_⟩
                      replace HS := HS.later hb
                      replace HZw := HZw.later hb
                      replace HRs := HRs.later hb
                      replace HV9x := HV9x.later hb
                      clear hb
                      refine wpAnyH_all (rs := [4]) (by kernel_rfl) (by simp) (fun i hi => ?_)
                      obtain rfl : i = 4 := by simpa using hi
                      refine wpOp_doG 4 (by rfl) (by rfl) ?_
                      go_wp2_with fail
                      refine (HK.out.yes w.heap.size (vN 1) vw Lw 4 (.slice (some ⟨q8, 0, none⟩) 1 1) [e] wq21 HS.1.size (HT.out.later HS.1) HZw.l HSrtW.out HLnW.out HV9x (sz1 _ (by have := HEe.out.2; omega)) (Nat.zero_le _) (may_add HEe.out.1)).mono ?_
                      rintro e9 wq22 ⟨vo, vl9, rfl, -, hl9, -, hb⟩
                      rw [nx_add, HNxW.out] at hl9
                      obtain ⟨al9, cl9, hf9⟩ := hl9.form
                      obtain ⟨nl9, hn9⟩ : ∃ nl9, Lw9.length = nl9 := ⟨_, rfl⟩
                      rw [hn9] at hf9
                      subst hf9
                      clear hn9
                      refine ⟨HS.later hb, ?_⟩
                      replace HS := HS.later hb
                      replace HZw := HZw.later hb
                      replace HRs := HRs.later hb
                      replace HV9x := HV9x.later hb
                      clear hb
                      clear HV9x
                      refine takeH 5 126 (.tuple #[.agg (stC 3 noV (.slice al9 nl9 cl9)).toArray, vo, .bool true]) rfl rfl (by kernel_rfl) (by kernel_rfl) (by kernel_rfl) (fun c a w h => h) (.inl ⟨rfl, fun w _ => rfl⟩) HS ?_
                      simp only [List.setIfInBounds_toArray, List.set_cons_zero, List.set_cons_succ]
                      refine takeH 6 132 (.agg (stC 3 noV (.slice al9 nl9 cl9)).toArray) rfl rfl (by kernel_rfl) (by kernel_rfl) (by kernel_rfl) (fun c a w h => h) (.inl ⟨rfl, fun w _ => by go_simp⟩) HS ?_
                      simp only [List.setIfInBounds_toArray, List.set_cons_zero, List.set_cons_succ]
                      refine takeH 7 133 (vo) rfl rfl (by kernel_rfl) (by kernel_rfl) (by kernel_rfl) (fun c a w h => h) (.inl ⟨rfl, fun w _ => by go_simp⟩) HS ?_
                      simp only [List.setIfInBounds_toArray, List.set_cons_zero, List.set_cons_succ]
                      refine takeH 8 134 (.bool true) rfl rfl (by kernel_rfl) (by kernel_rfl) (by kernel_rfl) (fun c a w h => h) (.inl ⟨rfl, fun w _ => by go_simp⟩) HS ?_
                      simp only [List.setIfInBounds_toArray, List.set_cons_zero, List.set_cons_succ]
                      refine wpAnyH_all (rs := [9]) (by kernel_rfl) (by simp) (fun i hi => ?_)
                      obtain rfl : i = 9 := by simpa using hi
                      refine wpOp_doG 9 (by rfl) (by rfl) ?_
                      refine wpo_storeB 28 (.tmp 15) (.tmp 132) z15 0 (stC 3 noV (.slice al9 nl9 cl9)) (stC 3 noV vw) 28 infoSt (show 0 + 6 ≤ 6 by decide) (stC_one _ _ rfl) rfl rfl rfl HZw.s ?_
                      intro wq23 BP ho
                      replace BP : Blk wq23 z15 (stC 3 noV (.slice al9 nl9 cl9)) 28 := BP
                      have HN9 : Hs w wq23 z15 (.slice al9 nl9 cl9) Lw9 := ⟨BP, hl9.oth ho HZw.s (by decide), HZw.z⟩
                      have HO9 : Rs w wq23 z7 va z12 vc LA q11 v9 := HRs.oth ho HZw.s (by have := HLt.out; omega) (by omega) (by have := HLt.out; omega)
                      have HS9 : S28 w q18 e wq23 := ⟨below_oth HS.1 ho HZw.z HZw.z HS.1.size, HS.2.oth ho (by omega) (by omega)⟩
                      refine ⟨HS9, ?_⟩
                      refine wpAnyH_done (by kernel_rfl) ?_ _
                      show K9 _ _
                      try simp only [Act.put, List.getElem_toArray, List.getElem_cons_succ, List.getElem_cons_zero]
                      exact HTl28.out wq23 al9 cl9 nl9 HN9 HO9 HS9.1 _ _ _ _ _ _ _ _ _
                    · refine wpOp_doG 1 (by rfl) (by rfl) ?_
                      go_wp2_with fail
                      refine (num_any 1 wq19).mono ?_
                      rintro e9 wq24 ⟨rfl, hb⟩
                      refine ⟨HS.later hb, ?_⟩
                      replace HS := HS.later hb
                      replace HZw := HZw.later hb
                      replace HRs := HRs.later hb
                      replace HV9x := HV9x.later hb
                      clear hb
                      refine wpAnyH_all (rs := [0]) (by kernel_rfl) (by simp) (fun i hi => ?_)
                      obtain rfl : i = 0 := by simpa using hi
                      refine wpOp_doG 0 (by rfl) (by rfl) ?_
                      refine wp_load_mid 28 (.tmp 15) rfl z15 0 rfl (stC 3 noV vw) _ (Blk.all HZw.s) Tryd.underlying28 rfl infoSt ?_
                      simp only [Act.put, List.setIfInBounds_toArray, List.set_cons_zero, List.set_cons_succ]
                      obtain ⟨wq25, hnw⟩ : ∃ n, n = wq24 := ⟨_, rfl⟩
                      subst hnw
                      have hb : Below wq25.heap.size wq25 wq25 := Below.refl _ _
                      refine ⟨HS.later hb, ?_⟩
                      replace HS := HS.later hb
                      replace HZw := HZw.later hb
                      replace HRs := HRs.later hb
                      replace HV9x := HV9x.later hb
                      clear hb
                      refine wpAnyH_all (rs := [4]) (by kernel_rfl) (by simp) (fun i hi => ?_)
                      obtain rfl : i = 4 := by simpa using hi
                      refine wpOp_doG 4 (by rfl) (by rfl) ?_
                      go_wp2_with fail
                      refine (HK.out.yes w.heap.size (vN 1) vw Lw 4 (.slice (some ⟨q8, 0, none⟩) 1 1) [e] wq25 HS.1.size (HT.out.later HS.1) HZw.l HSrtW.out HLnW.out HV9x (sz1 _ (by have := HEe.out.2; omega)) (Nat.zero_le _) (may_add HEe.out.1)).mono ?_
                      rintro e9 wq26 ⟨vo, vl9, rfl, -, hl9, -, hb⟩
                      rw [nx_add, HNxW.out] at hl9
                      obtain ⟨al9, cl9, hf9⟩ := hl9.form
                      obtain ⟨nl9, hn9⟩ : ∃ nl9, Lw9.length = nl9 := ⟨_, rfl⟩
                      rw [hn9] at hf9
                      subst hf9
                      clear hn9
                      refine ⟨HS.later hb, ?_⟩
                      replace HS := HS.later hb
                      replace HZw := HZw.later hb
                      replace HRs := HRs.later hb
                      replace HV9x := HV9x.later hb
                      clear hb
                      clear HV9x
                      refine takeH 5 126 (.tuple #[.agg (stC 3 noV (.slice al9 nl9 cl9)).toArray, vo, .bool true]) rfl rfl (by kernel_rfl) (by kernel_rfl) (by kernel_rfl) (fun c a w h => h) (.inl ⟨rfl, fun w _ => rfl⟩) HS ?_
                      simp only [List.setIfInBounds_toArray, List.set_cons_zero, List.set_cons_succ]
                      refine takeH 6 132 (.agg (stC 3 noV (.slice al9 nl9 cl9)).toArray) rfl rfl (by kernel_rfl) (by kernel_rfl) (by kernel_rfl) (fun c a w h => h) (.inl ⟨rfl, fun w _ => by go_simp⟩) HS ?_
                      simp only [List.setIfInBounds_toArray, List.set_cons_zero, List.set_cons_succ]
                      refine takeH 7 133 (vo) rfl rfl (by kernel_rfl) (by kernel_rfl) (by kernel_rfl) (fun c a w h => h) (.inl ⟨rfl, fun w _ => by go_simp⟩) HS ?_
                      simp only [List.setIfInBounds_toArray, List.set_cons_zero, List.set_cons_succ]
                      refine takeH 8 134 (.bool true) rfl rfl (by kernel_rfl) (by kernel_rfl) (by kernel_rfl) (fun c a w h => h) (.inl ⟨rfl, fun w _ => by go_simp⟩) HS ?_
                      simp only [List.setIfInBounds_toArray, List.set_cons_zero, List.set_cons_succ]
                      refine wpAnyH_all (rs := [9]) (by kernel_rfl) (by simp) (fun i hi => ?_)
                      obtain rfl : i = 9 := by simpa using hi
                      refine wpOp_doG 9 (by rfl) (by rfl) ?_
                      refine wpo_storeB 28 (.tmp 15) (.tmp 132) z15 0 (stC 3 noV (.slice al9 nl9 cl9)) (stC 3 noV vw) 28 infoSt (show 0 + 6 ≤ 6 by decide) (stC_one _ _ rfl) rfl rfl rfl HZw.s ?_
                      intro wq27 BP ho
                      replace BP : Blk wq27 z15 (stC 3 noV (.slice al9 nl9 cl9)) 28 := BP
                      have HN9 : Hs w wq27 z15 (.slice al9 nl9 cl9) Lw9 := ⟨BP, hl9.oth ho HZw.s (by decide), HZw.z⟩
                      have HO9 : Rs w wq27 z7 va z12 vc LA q11 v9 := HRs.oth ho HZw.s (by have := HLt.out; omega) (by omega) (by have := HLt.out; omega)
                      have HS9 : S28 w q18 e wq27 := ⟨below_oth HS.1 ho HZw.z HZw.z HS.1.size, HS.2.oth ho (by omega) (by omega)⟩
                      refine ⟨HS9, ?_⟩
                      refine wpAnyH_done (by kernel_rfl) ?_ _
                      show K9 _ _
                      try simp only [Act.put, List.getElem_toArray, List.getElem_cons_succ, List.getElem_cons_zero]
                      exact HTl28.out wq27 al9 cl9 nl9 HN9 HO9 HS9.1 _ _ _ _ _ _ _ _ _
              · have er : r = j := by omega
                subst er
                obtain ⟨LD, hLD⟩ : ∃ L, addAll (butK xs v9 r) = L := ⟨_, rfl⟩
                have HDl : Hid (delB v9 LA = LD) := by
                  show _ = _
                  rw [← hLD, ← HLA.out, addAll_out]
                  unfold butK
                  rw [List.take_of_length_le (by rw [HN.out]; omega)]
                have HLD : Hid (LD.length ≤ 1000000) := by
                  have h := addAll_len (butK xs v9 r)
                  have h2 : (butK xs v9 r).length ≤ r := by unfold butK; exact Nat.le_trans (List.length_filter_le _ _) (by rw [List.length_take]; omega)
                  rw [hLD] at h
                  exact (by omega : LD.length ≤ 1000000)
                rw [hLD] at HSw
                clear hLD hlt15
                go_wp2_with fail
                rename_i K9 hK9
                have tail30 : ∀ (w' : World) (q9 : Nat) (al9 : Option Addr) (cl9 nl9 : Nat), Hs w w' q9 (.slice al9 nl9 cl9) LD → Stay wr w' → wr.heap.size ≤ q9 → ∀ t0 t1 t2 t3 t4 t5 t6 t8 t9 t10 t11 t13 t16 t17 t18 t20 t22 t23 t24 t25 t26 t27 t28 t29 t30 t31 t32 t33 t34 t35 t36 t37 t38 t39 t40 t41 t42 t43 t44 t45 t46 t47 t48 t49 t50 t51 t52 t53 t54 t55 t56 t57 t58 t59 t60 t61 t62 t63 t64 t65 t66 t67 t68 t69 t70 t71 t72 t73 t74 t75 t76 t77 t78 t79 t80 t81 t82 t83 t84 t85 t86 t87 t88 t89 t90 t91 t92 t93 t94 t95 t96 t97 t98 t99 t100 t101 t102 t103 t104 t105 t106 t107 t108 t109 t110 t111 t112 t113 t114 t115 t116 t117 t118 t119 t120 t121 t122 t123 t124 t125 t126 t127 t128 t129 t130 t131 t132 t133 t134 t135 t136 t137 t138 t139 t140 t141 t142 t143 t144 t145 t146 t147 t148 t149 t150 t151 t152 t153 t154 t155 t156 t157 t158 : Value, K9 ⟨#[t0, t1, t2, t3, t4, t5, t6, Value.pointer (some ⟨z7, 0, none⟩), t8, t9, t10, t11, Value.pointer (some ⟨z12, 0, none⟩), t13, Value.bool true, Value.pointer (some ⟨z15, 0, none⟩), t16, t17, t18, Value.pointer (some ⟨q9, 0, none⟩), t20, Value.bool true, t22, t23, t24, t25, t26, t27, t28, t29, t30, t31, t32, t33, t34, t35, t36, t37, t38, t39, t40, t41, t42, t43, t44, t45, t46, t47, t48, t49, t50, t51, t52, t53, t54, t55, t56, t57, t58, t59, t60, t61, t62, t63, t64, t65, t66, t67, t68, t69, t70, t71, t72, t73, t74, t75, t76, t77, t78, t79, t80, t81, t82, t83, t84, t85, t86, t87, t88, t89, t90, t91, t92, t93, t94, t95, t96, t97, t98, t99, t100, t101, t102, t103, t104, t105, t106, t107, t108, t109, t110, t111, t112, t113, t114, t115, t116, t117, t118, t119, t120, t121, t122, t123, t124, t125, t126, t127, t128, t129, t130, t131, t132, t133, t134, t135, t136, t137, t138, t139, t140, t141, t142, t143, t144, t145, t146, t147, t148, t149, t150, t151, t152, t153, t154, t155, t156, t157, t158], []⟩ w' := by
                  intro w' q9 al9 cl9 nl9 HN9 HS9 hq9w t0 t1 t2 t3 t4 t5 t6 t8 t9 t10 t11 t13 t16 t17 t18 t20 t22 t23 t24 t25 t26 t27 t28 t29 t30 t31 t32 t33 t34 t35 t36 t37 t38 t39 t40 t41 t42 t43 t44 t45 t46 t47 t48 t49 t50 t51 t52 t53 t54 t55 t56 t57 t58 t59 t60 t61 t62 t63 t64 t65 t66 t67 t68 t69 t70 t71 t72 t73 t74 t75 t76 t77 t78 t79 t80 t81 t82 t83 t84 t85 t86 t87 t88 t89 t90 t91 t92 t93 t94 t95 t96 t97 t98 t99 t100 t101 t102 t103 t104 t105 t106 t107 t108 t109 t110 t111 t112 t113 t114 t115 t116 t117 t118 t119 t120 t121 t122 t123 t124 t125 t126 t127 t128 t129 t130 t131 t132 t133 t134 t135 t136 t137 t138 t139 t140 t141 t142 t143 t144 t145 t146 t147 t148 t149 t150 t151 t152 t153 t154 t155 t156 t157 t158
                  apply hK9
                  clear hK9 K9
                  have HD : Hid (Hs w w' q9 (.slice al9 nl9 cl9) LD) := HN9
                  have HSa6 : Hid (Hs w w' z7 va LA) := HSa.out.later HS9
                  have HSc6 : Hid (Hs w w' z12 vc LA) := HSc.out.later HS9
                  have HSw6 : Hid (Hs w w' z15 vw LD) := HSw.out.later HS9
                  have HB6 : Hid (Below w.heap.size w w') := below_next HB.out HS9
                  clear HN9 HS9 hq9w HSa HSc HSw HB HQ
                  obtain ⟨s0, s1, s2, s3, s4, s5⟩ := st_cells HSa6.out.s
                  obtain ⟨r0, r1, r2, r3, r4, r5⟩ := st_cells HSc6.out.s
                  simp only [noV] at s1 s2 s3 r1 r2 r3
                  go_wp2_with fail
                  refine (same_yesL 3 noV vc va LA w' HSc6.out.l.vsl HSa6.out.l.vsl (by have := HLnA.out; omega)).mono ?_
                  rintro e9 w21 ⟨rfl, hb21⟩
                  have HD7 := HD.out.later hb21
                  have HSw7 := HSw6.out.later hb21
                  have HB7 := below_next HB6.out hb21
                  clear s0 s1 s2 s3 s4 s5 r0 r1 r2 r3 r4 r5 hb21
                  obtain ⟨s0, s1, s2, s3, s4, s5⟩ := st_cells HD7.s
                  obtain ⟨r0, r1, r2, r3, r4, r5⟩ := st_cells HSw7.s
                  simp only [noV] at s1 s2 s3 r1 r2 r3
                  go_wp2_with fail
                  refine (same_yesL 3 noV (.slice al9 nl9 cl9) vw LD w21 HD7.l.vsl HSw7.l.vsl HLD.out).mono ?_
                  rintro e9 w22 ⟨rfl, hb22⟩
                  go_wp2
                  go_ret
                  exact ⟨rfl, below_next HB7 hb22⟩
                have HTl30 : Hid (∀ (w' : World) (q9 : Nat) (al9 : Option Addr) (cl9 nl9 : Nat), Hs w w' q9 (.slice al9 nl9 cl9) LD → Stay wr w' → wr.heap.size ≤ q9 → ∀ t0 t1 t2 t3 t4 t5 t6 t8 t9 t10 t11 t13 t16 t17 t18 t20 t22 t23 t24 t25 t26 t27 t28 t29 t30 t31 t32 t33 t34 t35 t36 t37 t38 t39 t40 t41 t42 t43 t44 t45 t46 t47 t48 t49 t50 t51 t52 t53 t54 t55 t56 t57 t58 t59 t60 t61 t62 t63 t64 t65 t66 t67 t68 t69 t70 t71 t72 t73 t74 t75 t76 t77 t78 t79 t80 t81 t82 t83 t84 t85 t86 t87 t88 t89 t90 t91 t92 t93 t94 t95 t96 t97 t98 t99 t100 t101 t102 t103 t104 t105 t106 t107 t108 t109 t110 t111 t112 t113 t114 t115 t116 t117 t118 t119 t120 t121 t122 t123 t124 t125 t126 t127 t128 t129 t130 t131 t132 t133 t134 t135 t136 t137 t138 t139 t140 t141 t142 t143 t144 t145 t146 t147 t148 t149 t150 t151 t152 t153 t154 t155 t156 t157 t158 : Value, K9 ⟨#[t0, t1, t2, t3, t4, t5, t6, Value.pointer (some ⟨z7, 0, none⟩), t8, t9, t10, t11, Value.pointer (some ⟨z12, 0, none⟩), t13, Value.bool true, Value.pointer (some ⟨z15, 0, none⟩), t16, t17, t18, Value.pointer (some ⟨q9, 0, none⟩), t20, Value.bool true, t22, t23, t24, t25, t26, t27, t28, t29, t30, t31, t32, t33, t34, t35, t36, t37, t38, t39, t40, t41, t42, t43, t44, t45, t46, t47, t48, t49, t50, t51, t52, t53, t54, t55, t56, t57, t58, t59, t60, t61, t62, t63, t64, t65, t66, t67, t68, t69, t70, t71, t72, t73, t74, t75, t76, t77, t78, t79, t80, t81, t82, t83, t84, t85, t86, t87, t88, t89, t90, t91, t92, t93, t94, t95, t96, t97, t98, t99, t100, t101, t102, t103, t104, t105, t106, t107, t108, t109, t110, t111, t112, t113, t114, t115, t116, t117, t118, t119, t120, t121, t122, t123, t124, t125, t126, t127, t128, t129, t130, t131, t132, t133, t134, t135, t136, t137, t138, t139, t140, t141, t142, t143, t144, t145, t146, t147, t148, t149, t150, t151, t152, t153, t154, t155, t156, t157, t158], []⟩ w') := tail30
                clear tail30 hK9
                refine wp_region_held (S := Stay wr) mixed ?_
                have HS : Stay wr { wr with drawn := wr.drawn + 1 } := Stay.drew wr
                generalize ({ wr with drawn := wr.drawn + 1 } : World) = n0 at HS ⊢
                refine takeH 0 137 (.agg #[.int .i64 3, .int .i64 0, .int .i64 0, .string noB, .int .i64 0, vc]) rfl rfl (by kernel_rfl) (by kernel_rfl) (by kernel_rfl) (fun c a w h => h) (yieldsIf_load_mid rfl 28 (.tmp 12) rfl z12 0 rfl (stC 3 noV vc) _ (fun wx hx => Blk.all (HSc.out.s.later hx)) Tryd.underlying28 rfl infoSt) HS ?_
                simp only [List.setIfInBounds_toArray, List.set_cons_zero, List.set_cons_succ]
                refine takeH 2 139 (.agg #[.int .i64 v9.1, .int .i64 v9.2.1, .string v9.2.2]) rfl rfl (by kernel_rfl) (by kernel_rfl) (by kernel_rfl) (fun c a w h => h) (yieldsIf_load_mid rfl 25 (.tmp 11) rfl q11 0 rfl (encV v9) _ (fun wx hx => Blk.all (HQ.out.later hx)) Tryd.underlying25 rfl infoVv) HS ?_
                simp only [List.setIfInBounds_toArray, List.set_cons_zero, List.set_cons_succ]
                refine wpAnyH_all (rs := [1, 3, 9]) (by kernel_rfl) (by simp) (fun i hi => ?_)
                simp only [List.mem_cons, List.not_mem_nil, or_false] at hi
                rcases hi with rfl | rfl | rfl
                · refine wpOp_doG 1 (by rfl) (by rfl) ?_
                  go_wp2_with fail
                  refine (num_any 1 n0).mono ?_
                  rintro e wq1 ⟨rfl, hb⟩
                  refine ⟨HS.later hb, ?_⟩
                  replace HS := HS.later hb
                  clear hb
                  refine wpAnyH_all (rs := [3, 9]) (by kernel_rfl) (by simp) (fun i hi => ?_)
                  simp only [List.mem_cons, List.not_mem_nil, or_false] at hi
                  rcases hi with rfl | rfl
                  · refine wpOp_doG 3 (by rfl) (by rfl) ?_
                    go_wp2_with fail
                    have HV9x := (own_one wq1 wq1.heap.size (Nat.le_refl _) v9).vsl
                    have hb := below_box wq1 (.cells (encV v9).toArray 25)
                    obtain ⟨q8, hq8⟩ : ∃ q8, wq1.heap.size = q8 := ⟨_, rfl⟩
                    change VSl (wq1.alloc (.cells #[.int .i64 v9.1, .int .i64 v9.2.1, .string v9.2.2] 25)) _ _ at HV9x
                    change Below _ wq1 (wq1.alloc (.cells #[.int .i64 v9.1, .int .i64 v9.2.1, .string v9.2.2] 25)) at hb
                    generalize wq1.alloc (.cells #[.int .i64 v9.1, .int .i64 v9.2.1, .string v9.2.2] 25) = wq2 at HV9x hb ⊢
                    simp only [hq8] at HV9x ⊢
                    clear hq8
                    refine ⟨HS.later hb, ?_⟩
                    replace HS := HS.later hb
                    clear hb
                    refine wpAnyH_all (rs := [4, 9]) (by kernel_rfl) (by simp) (fun i hi => ?_)
                    simp only [List.mem_cons, List.not_mem_nil, or_false] at hi
                    rcases hi with rfl | rfl
                    · refine wpOp_doG 4 (by rfl) (by rfl) ?_
                      go_wp2_with fail
                      refine (HK.out.yes w.heap.size (vN 1) vc LA 5 (.slice (some ⟨q8, 0, none⟩) 1 1) [v9] wq2 (below_next HB.out HS).size (HT.out.later (below_next HB.out HS)) (HSc.out.later HS).l HSA.out HLnA.out HV9x (sz1 _ (by have := HVv.out.2; omega)) (Nat.zero_le _) (may_del HVv.out.1)).mono ?_
                      rintro e wq3 ⟨vo, vl9, rfl, -, hl9, -, hb⟩
                      rw [nx_del, HDl.out] at hl9
                      obtain ⟨al9, cl9, hf9⟩ := hl9.form
                      obtain ⟨nl9, hn9⟩ : ∃ nl9, (LD).length = nl9 := ⟨_, rfl⟩
                      rw [hn9] at hf9
                      subst hf9
                      clear hn9
                      refine ⟨HS.later hb, ?_⟩
                      replace HS := HS.later hb
                      replace HV9x := HV9x.later hb
                      clear hb
                      clear HV9x
                      refine takeH 5 136 (.tuple #[.agg (stC 3 noV (.slice al9 nl9 cl9)).toArray, vo, .bool true]) rfl rfl (by kernel_rfl) (by kernel_rfl) (by kernel_rfl) (fun c a w h => h) (.inl ⟨rfl, fun w _ => rfl⟩) HS ?_
                      simp only [List.setIfInBounds_toArray, List.set_cons_zero, List.set_cons_succ]
                      refine takeH 6 142 (.agg (stC 3 noV (.slice al9 nl9 cl9)).toArray) rfl rfl (by kernel_rfl) (by kernel_rfl) (by kernel_rfl) (fun c a w h => h) (.inl ⟨rfl, fun w _ => by go_simp⟩) HS ?_
                      simp only [List.setIfInBounds_toArray, List.set_cons_zero, List.set_cons_succ]
                      refine takeH 7 143 (vo) rfl rfl (by kernel_rfl) (by kernel_rfl) (by kernel_rfl) (fun c a w h => h) (.inl ⟨rfl, fun w _ => by go_simp⟩) HS ?_
                      simp only [List.setIfInBounds_toArray, List.set_cons_zero, List.set_cons_succ]
                      refine takeH 8 144 (.bool true) rfl rfl (by kernel_rfl) (by kernel_rfl) (by kernel_rfl) (fun c a w h => h) (.inl ⟨rfl, fun w _ => by go_simp⟩) HS ?_
                      simp only [List.setIfInBounds_toArray, List.set_cons_zero, List.set_cons_succ]
                      refine wpAnyH_all (rs := [9]) (by kernel_rfl) (by simp) (fun i hi => ?_)
                      obtain rfl : i = 9 := by simpa using hi
                      refine wpOp_doG 9 (by rfl) (by rfl) ?_
                      go_wp2_with fail
                      have BO := Blk.new wq3 (stC 0 noV nilS) 28
                      have hb := below_box wq3 (.cells (stC 0 noV nilS).toArray 28)
                      have hq9w : wr.heap.size ≤ wq3.heap.size := HS.size
                      obtain ⟨q9, hq9⟩ : ∃ q9, wq3.heap.size = q9 := ⟨_, rfl⟩
                      change Blk (wq3.alloc (.cells #[.int .i64 0, .int .i64 0, .int .i64 0, .string ⟨#[]⟩, .int .i64 0, .slice none 0 0] 28)) _ _ _ at BO
                      change Below _ wq3 (wq3.alloc (.cells #[.int .i64 0, .int .i64 0, .int .i64 0, .string ⟨#[]⟩, .int .i64 0, .slice none 0 0] 28)) at hb
                      generalize wq3.alloc (.cells #[.int .i64 0, .int .i64 0, .int .i64 0, .string ⟨#[]⟩, .int .i64 0, .slice none 0 0] 28) = wq4 at BO hb ⊢
                      simp only [hq9] at BO hq9w ⊢
                      clear hq9
                      refine ⟨HS.later hb, ?_⟩
                      replace HS := HS.later hb
                      replace hl9 := hl9.later hb
                      clear hb
                      refine wpAnyH_all (rs := [10]) (by kernel_rfl) (by simp) (fun i hi => ?_)
                      obtain rfl : i = 10 := by simpa using hi
                      refine wpOp_doG 10 (by rfl) (by rfl) ?_
                      refine wpo_storeB 28 (.tmp 19) (.tmp 142) q9 0 (stC 3 noV (.slice al9 nl9 cl9)) (stC 0 noV nilS) 28 infoSt (show 0 + 6 ≤ 6 by decide) (stC_one _ _ rfl) rfl rfl rfl BO ?_
                      intro wq5 BP ho
                      replace BP : Blk wq5 q9 (stC 3 noV (.slice al9 nl9 cl9)) 28 := BP
                      have HN9 : Hs w wq5 q9 (.slice al9 nl9 cl9) LD := ⟨BP, hl9.oth ho BO (by decide), Nat.le_trans HB.out.size hq9w⟩
                      have HS9 : Stay wr wq5 := below_oth HS ho hq9w hq9w HS.size
                      refine ⟨HS9, ?_⟩
                      have HS := HS9
                      refine takeH 11 20 (vo) rfl rfl (by kernel_rfl) (by kernel_rfl) (by kernel_rfl) (fun c a w h => h) (.inl ⟨rfl, fun w _ => rfl⟩) HS ?_
                      simp only [List.setIfInBounds_toArray, List.set_cons_zero, List.set_cons_succ]
                      refine takeH 12 21 (.bool true) rfl rfl (by kernel_rfl) (by kernel_rfl) (by kernel_rfl) (fun c a w h => h) (.inl ⟨rfl, fun w _ => rfl⟩) HS ?_
                      simp only [List.setIfInBounds_toArray, List.set_cons_zero, List.set_cons_succ]
                      refine wpAnyH_done (by kernel_rfl) ?_ _
                      show K9 _ _
                      try simp only [Act.put, List.getElem_toArray, List.getElem_cons_succ, List.getElem_cons_zero]
                      exact HTl30.out wq5 q9 al9 cl9 nl9 HN9 HS9 hq9w _ _ _ _ _ _ _ _ _ _ _ _ _ _ _ _ _ _ _ _ _ _ _ _ _ _ _ _ _ _ _ _ _ _ _ _ _ _ _ _ _ _ _ _ _ _ _ _ _ _ _ _ _ _ _ _ _ _ _ _ _ _ _ _ _ _ _ _ _ _ _ _ _ _ _ _ _ _ _ _ _ _ _ _ _ _ _ _ _ _ _ _ _ _ _ _ _ _ _ _ _ _ _ _ _ _ _ _ _ _ _ _ _ _ _ _ _ _ _ _ _ _ _ _ _ _ _ _ _ _ _ _ _ _ _ _ _ _ _ _ _ _ _ _ _ _ _ _ _ _ _ _ _
                    · refine wpOp_doG 9 (by rfl) (by rfl) ?_
                      go_wp2_with fail
                      have BO := Blk.new wq2 (stC 0 noV nilS) 28
                      have hb := below_box wq2 (.cells (stC 0 noV nilS).toArray 28)
                      have hq9w : wr.heap.size ≤ wq2.heap.size := HS.size
                      obtain ⟨q9, hq9⟩ : ∃ q9, wq2.heap.size = q9 := ⟨_, rfl⟩
                      change Blk (wq2.alloc (.cells #[.int .i64 0, .int .i64 0, .int .i64 0, .string ⟨#[]⟩, .int .i64 0, .slice none 0 0] 28)) _ _ _ at BO
                      change Below _ wq2 (wq2.alloc (.cells #[.int .i64 0, .int .i64 0, .int .i64 0, .string ⟨#[]⟩, .int .i64 0, .slice none 0 0] 28)) at hb
                      generalize wq2.alloc (.cells #[.int .i64 0, .int .i64 0, .int .i64 0, .string ⟨#[]⟩, .int .i64 0, .slice none 0 0] 28) = wq6 at BO hb ⊢
                      simp only [hq9] at BO hq9w ⊢
                      clear hq9
                      refine ⟨HS.later hb, ?_⟩
                      replace HS := HS.later hb
                      replace HV9x := HV9x.later hb
                      clear hb
                      refine wpAnyH_all (rs := [4]) (by kernel_rfl) (by simp) (fun i hi => ?_)
                      obtain rfl : i = 4 := by simpa using hi
                      refine wpOp_doG 4 (by rfl) (by rfl) ?_
                      go_wp2_with fail
                      refine (HK.out.yes w.heap.size (vN 1) vc LA 5 (.slice (some ⟨q8, 0, none⟩) 1 1) [v9] wq6 (below_next HB.out HS).size (HT.out.later (below_next HB.out HS)) (HSc.out.later HS).l HSA.out HLnA.out HV9x (sz1 _ (by have := HVv.out.2; omega)) (Nat.zero_le _) (may_del HVv.out.1)).mono ?_
                      rintro e wq7 ⟨vo, vl9, rfl, -, hl9, -, hb⟩
                      rw [nx_del, HDl.out] at hl9
                      obtain ⟨al9, cl9, hf9⟩ := hl9.form
                      obtain ⟨nl9, hn9⟩ : ∃ nl9, (LD).length = nl9 := ⟨_, rfl⟩
                      rw [hn9] at hf9
                      subst hf9
                      clear hn9
                      refine ⟨HS.later hb, ?_⟩
                      replace HS := HS.later hb
                      replace HV9x := HV9x.later hb
                      replace BO := BO.later hb
                      clear hb
                      clear HV9x
                      refine takeH 5 136 (.tuple #[.agg (stC 3 noV (.slice al9 nl9 cl9)).toArray, vo, .bool true]) rfl rfl (by kernel_rfl) (by kernel_rfl) (by kernel_rfl) (fun c a w h => h) (.inl ⟨rfl, fun w _ => rfl⟩) HS ?_
                      simp only [List.setIfInBounds_toArray, List.set_cons_zero, List.set_cons_succ]
                      refine takeH 6 142 (.agg (stC 3 noV (.slice al9 nl9 cl9)).toArray) rfl rfl (by kernel_rfl) (by kernel_rfl) (by kernel_rfl) (fun c a w h => h) (.inl ⟨rfl, fun w _ => by go_simp⟩) HS ?_
                      simp only [List.setIfInBounds_toArray, List.set_cons_zero, List.set_cons_succ]
                      refine takeH 7 143 (vo) rfl rfl (by kernel_rfl) (by kernel_rfl) (by kernel_rfl) (fun c a w h => h) (.inl ⟨rfl, fun w _ => by go_simp⟩) HS ?_
                      simp only [List.setIfInBounds_toArray, List.set_cons_zero, List.set_cons_succ]
                      refine takeH 8 144 (.bool true) rfl rfl (by kernel_rfl) (by kernel_rfl) (by kernel_rfl) (fun c a w h => h) (.inl ⟨rfl, fun w _ => by go_simp⟩) HS ?_
                      simp only [List.setIfInBounds_toArray, List.set_cons_zero, List.set_cons_succ]
                      refine wpAnyH_all (rs := [10]) (by kernel_rfl) (by simp) (fun i hi => ?_)
                      obtain rfl : i = 10 := by simpa using hi
                      refine wpOp_doG 10 (by rfl) (by rfl) ?_
                      refine wpo_storeB 28 (.tmp 19) (.tmp 142) q9 0 (stC 3 noV (.slice al9 nl9 cl9)) (stC 0 noV nilS) 28 infoSt (show 0 + 6 ≤ 6 by decide) (stC_one _ _ rfl) rfl rfl rfl BO ?_
                      intro wq8 BP ho
                      replace BP : Blk wq8 q9 (stC 3 noV (.slice al9 nl9 cl9)) 28 := BP
                      have HN9 : Hs w wq8 q9 (.slice al9 nl9 cl9) LD := ⟨BP, hl9.oth ho BO (by decide), Nat.le_trans HB.out.size hq9w⟩
                      have HS9 : Stay wr wq8 := below_oth HS ho hq9w hq9w HS.size
                      refine ⟨HS9, ?_⟩
                      have HS := HS9
                      refine takeH 11 20 (vo) rfl rfl (by kernel_rfl) (by kernel_rfl) (by kernel_rfl) (fun c a w h => h) (.inl ⟨rfl, fun w _ => rfl⟩) HS ?_
                      simp only [List.setIfInBounds_toArray, List.set_cons_zero, List.set_cons_succ]
                      refine takeH 12 21 (.bool true) rfl rfl (by kernel_rfl) (by kernel_rfl) (by kernel_rfl) (fun c a w h => h) (.inl ⟨rfl, fun w _ => rfl⟩) HS ?_
                      simp only [List.setIfInBounds_toArray, List.set_cons_zero, List.set_cons_succ]
                      refine wpAnyH_done (by kernel_rfl) ?_ _
                      show K9 _ _
                      try simp only [Act.put, List.getElem_toArray, List.getElem_cons_succ, List.getElem_cons_zero]
                      exact HTl30.out wq8 q9 al9 cl9 nl9 HN9 HS9 hq9w _ _ _ _ _ _ _ _ _ _ _ _ _ _ _ _ _ _ _ _ _ _ _ _ _ _ _ _ _ _ _ _ _ _ _ _ _ _ _ _ _ _ _ _ _ _ _ _ _ _ _ _ _ _ _ _ _ _ _ _ _ _ _ _ _ _ _ _ _ _ _ _ _ _ _ _ _ _ _ _ _ _ _ _ _ _ _ _ _ _ _ _ _ _ _ _ _ _ _ _ _ _ _ _ _ _ _ _ _ _ _ _ _ _ _ _ _ _ _ _ _ _ _ _ _ _ _ _ _ _ _ _ _ _ _ _ _ _ _ _ _ _ _ _ _ _ _ _ _ _ _ _ _
                  · refine wpOp_doG 9 (by rfl) (by rfl) ?_
                    go_wp2_with fail
                    have BO := Blk.new wq1 (stC 0 noV nilS) 28
                    have hb := below_box wq1 (.cells (stC 0 noV nilS).toArray 28)
                    have hq9w : wr.heap.size ≤ wq1.heap.size := HS.size
                    obtain ⟨q9, hq9⟩ : ∃ q9, wq1.heap.size = q9 := ⟨_, rfl⟩
                    change Blk (wq1.alloc (.cells #[.int .i64 0, .int .i64 0, .int .i64 0, .string ⟨#[]⟩, .int .i64 0, .slice none 0 0] 28)) _ _ _ at BO
                    change Below _ wq1 (wq1.alloc (.cells #[.int .i64 0, .int .i64 0, .int .i64 0, .string ⟨#[]⟩, .int .i64 0, .slice none 0 0] 28)) at hb
                    generalize wq1.alloc (.cells #[.int .i64 0, .int .i64 0, .int .i64 0, .string ⟨#[]⟩, .int .i64 0, .slice none 0 0] 28) = wq9 at BO hb ⊢
                    simp only [hq9] at BO hq9w ⊢
                    clear hq9
                    refine ⟨HS.later hb, ?_⟩
                    replace HS := HS.later hb
                    clear hb
                    refine wpAnyH_all (rs := [3]) (by kernel_rfl) (by simp) (fun i hi => ?_)
                    obtain rfl : i = 3 := by simpa using hi
                    refine wpOp_doG 3 (by rfl) (by rfl) ?_
                    go_wp2_with fail
                    have HV9x := (own_one wq9 wq9.heap.size (Nat.le_refl _) v9).vsl
                    have hb := below_box wq9 (.cells (encV v9).toArray 25)
                    obtain ⟨q8, hq8⟩ : ∃ q8, wq9.heap.size = q8 := ⟨_, rfl⟩
                    change VSl (wq9.alloc (.cells #[.int .i64 v9.1, .int .i64 v9.2.1, .string v9.2.2] 25)) _ _ at HV9x
                    change Below _ wq9 (wq9.alloc (.cells #[.int .i64 v9.1, .int .i64 v9.2.1, .string v9.2.2] 25)) at hb
                    generalize wq9.alloc (.cells #[.int .i64 v9.1, .int .i64 v9.2.1, .string v9.2.2] 25) = wq10 at HV9x hb ⊢
                    simp only [hq8] at HV9x ⊢
                    clear hq8
                    refine ⟨HS.later hb, ?_⟩
                    replace HS := HS.later hb
                    replace BO := BO.later hb
                    clear hb
                    refine wpAnyH_all (rs := [4]) (by kernel_rfl) (by simp) (fun i hi => ?_)
                    obtain rfl : i = 4 := by simpa using hi
                    refine wpOp_doG 4 (by rfl) (by rfl) ?_
                    go_wp2_with fail
                    refine (HK.out.yes w.heap.size (vN 1) vc LA 5 (.slice (some ⟨q8, 0, none⟩) 1 1) [v9] wq10 (below_next HB.out HS).size (HT.out.later (below_next HB.out HS)) (HSc.out.later HS).l HSA.out HLnA.out HV9x (sz1 _ (by have := HVv.out.2; omega)) (Nat.zero_le _) (may_del HVv.out.1)).mono ?_
                    rintro e wq11 ⟨vo, vl9, rfl, -, hl9, -, hb⟩
                    rw [nx_del, HDl.out] at hl9
                    obtain ⟨al9, cl9, hf9⟩ := hl9.form
                    obtain ⟨nl9, hn9⟩ : ∃ nl9, (LD).length = nl9 := ⟨_, rfl⟩
                    rw [hn9] at hf9
                    subst hf9
                    clear hn9
                    refine ⟨HS.later hb, ?_⟩
                    replace HS := HS.later hb
                    replace BO := BO.later hb
                    replace HV9x := HV9x.later hb
                    clear hb
                    clear HV9x
                    refine takeH 5 136 (.tuple #[.agg (stC 3 noV (.slice al9 nl9 cl9)).toArray, vo, .bool true]) rfl rfl (by kernel_rfl) (by kernel_rfl) (by kernel_rfl) (fun c a w h => h) (.inl ⟨rfl, fun w _ => rfl⟩) HS ?_
                    simp only [List.setIfInBounds_toArray, List.set_cons_zero, List.set_cons_succ]
                    refine takeH 6 142 (.agg (stC 3 noV (.slice al9 nl9 cl9)).toArray) rfl rfl (by kernel_rfl) (by kernel_rfl) (by kernel_rfl) (fun c a w h => h) (.inl ⟨rfl, fun w _ => by go_simp⟩) HS ?_
                    simp only [List.setIfInBounds_toArray, List.set_cons_zero, List.set_cons_succ]
                    refine takeH 7 143 (vo) rfl rfl (by kernel_rfl) (by kernel_rfl) (by kernel_rfl) (fun c a w h => h) (.inl ⟨rfl, fun w _ => by go_simp⟩) HS ?_
                    simp only [List.setIfInBounds_toArray, List.set_cons_zero, List.set_cons_succ]
                    refine takeH 8 144 (.bool true) rfl rfl (by kernel_rfl) (by kernel_rfl) (by kernel_rfl) (fun c a w h => h) (.inl ⟨rfl, fun w _ => by go_simp⟩) HS ?_
                    simp only [List.setIfInBounds_toArray, List.set_cons_zero, List.set_cons_succ]
                    refine wpAnyH_all (rs := [10]) (by kernel_rfl) (by simp) (fun i hi => ?_)
                    obtain rfl : i = 10 := by simpa using hi
                    refine wpOp_doG 10 (by rfl) (by rfl) ?_
                    refine wpo_storeB 28 (.tmp 19) (.tmp 142) q9 0 (stC 3 noV (.slice al9 nl9 cl9)) (stC 0 noV nilS) 28 infoSt (show 0 + 6 ≤ 6 by decide) (stC_one _ _ rfl) rfl rfl rfl BO ?_
                    intro wq12 BP ho
                    replace BP : Blk wq12 q9 (stC 3 noV (.slice al9 nl9 cl9)) 28 := BP
                    have HN9 : Hs w wq12 q9 (.slice al9 nl9 cl9) LD := ⟨BP, hl9.oth ho BO (by decide), Nat.le_trans HB.out.size hq9w⟩
                    have HS9 : Stay wr wq12 := below_oth HS ho hq9w hq9w HS.size
                    refine ⟨HS9, ?_⟩
                    have HS := HS9
                    refine takeH 11 20 (vo) rfl rfl (by kernel_rfl) (by kernel_rfl) (by kernel_rfl) (fun c a w h => h) (.inl ⟨rfl, fun w _ => rfl⟩) HS ?_
                    simp only [List.setIfInBounds_toArray, List.set_cons_zero, List.set_cons_succ]
                    refine takeH 12 21 (.bool true) rfl rfl (by kernel_rfl) (by kernel_rfl) (by kernel_rfl) (fun c a w h => h) (.inl ⟨rfl, fun w _ => rfl⟩) HS ?_
                    simp only [List.setIfInBounds_toArray, List.set_cons_zero, List.set_cons_succ]
                    refine wpAnyH_done (by kernel_rfl) ?_ _
                    show K9 _ _
                    try simp only [Act.put, List.getElem_toArray, List.getElem_cons_succ, List.getElem_cons_zero]
                    exact HTl30.out wq12 q9 al9 cl9 nl9 HN9 HS9 hq9w _ _ _ _ _ _ _ _ _ _ _ _ _ _ _ _ _ _ _ _ _ _ _ _ _ _ _ _ _ _ _ _ _ _ _ _ _ _ _ _ _ _ _ _ _ _ _ _ _ _ _ _ _ _ _ _ _ _ _ _ _ _ _ _ _ _ _ _ _ _ _ _ _ _ _ _ _ _ _ _ _ _ _ _ _ _ _ _ _ _ _ _ _ _ _ _ _ _ _ _ _ _ _ _ _ _ _ _ _ _ _ _ _ _ _ _ _ _ _ _ _ _ _ _ _ _ _ _ _ _ _ _ _ _ _ _ _ _ _ _ _ _ _ _ _ _ _ _ _ _ _ _ _
                · refine wpOp_doG 3 (by rfl) (by rfl) ?_
                  go_wp2_with fail
                  have HV9x := (own_one n0 n0.heap.size (Nat.le_refl _) v9).vsl
                  have hb := below_box n0 (.cells (encV v9).toArray 25)
                  obtain ⟨q8, hq8⟩ : ∃ q8, n0.heap.size = q8 := ⟨_, rfl⟩
                  change VSl (n0.alloc (.cells #[.int .i64 v9.1, .int .i64 v9.2.1, .string v9.2.2] 25)) _ _ at HV9x
                  change Below _ n0 (n0.alloc (.cells #[.int .i64 v9.1, .int .i64 v9.2.1, .string v9.2.2] 25)) at hb
                  generalize n0.alloc (.cells #[.int .i64 v9.1, .int .i64 v9.2.1, .string v9.2.2] 25) = wq13 at HV9x hb ⊢
                  simp only [hq8] at HV9x ⊢
                  clear hq8
                  refine ⟨HS.later hb, ?_⟩
                  replace HS := HS.later hb
                  clear hb
                  refine wpAnyH_all (rs := [1, 9]) (by kernel_rfl) (by simp) (fun i hi => ?_)
                  simp only [List.mem_cons, List.not_mem_nil, or_false] at hi
                  rcases hi with rfl | rfl
                  · refine wpOp_doG 1 (by rfl) (by rfl) ?_
                    go_wp2_with fail
                    refine (num_any 1 wq13).mono ?_
                    rintro e wq14 ⟨rfl, hb⟩
                    refine ⟨HS.later hb, ?_⟩
                    replace HS := HS.later hb
                    replace HV9x := HV9x.later hb
                    clear hb
                    refine wpAnyH_all (rs := [4, 9]) (by kernel_rfl) (by simp) (fun i hi => ?_)
                    simp only [List.mem_cons, List.not_mem_nil, or_false] at hi
                    rcases hi with rfl | rfl
                    · refine wpOp_doG 4 (by rfl) (by rfl) ?_
                      go_wp2_with fail
                      refine (HK.out.yes w.heap.size (vN 1) vc LA 5 (.slice (some ⟨q8, 0, none⟩) 1 1) [v9] wq14 (below_next HB.out HS).size (HT.out.later (below_next HB.out HS)) (HSc.out.later HS).l HSA.out HLnA.out HV9x (sz1 _ (by have := HVv.out.2; omega)) (Nat.zero_le _) (may_del HVv.out.1)).mono ?_
                      rintro e wq15 ⟨vo, vl9, rfl, -, hl9, -, hb⟩
                      rw [nx_del, HDl.out] at hl9
                      obtain ⟨al9, cl9, hf9⟩ := hl9.form
                      obtain ⟨nl9, hn9⟩ : ∃ nl9, (LD).length = nl9 := ⟨_, rfl⟩
                      rw [hn9] at hf9
                      subst hf9
                      clear hn9
                      refine ⟨HS.later hb, ?_⟩
                      replace HS := HS.later hb
                      replace HV9x := HV9x.later hb
                      clear hb
                      clear HV9x
                      refine takeH 5 136 (.tuple #[.agg (stC 3 noV (.slice al9 nl9 cl9)).toArray, vo, .bool true]) rfl rfl (by kernel_rfl) (by kernel_rfl) (by kernel_rfl) (fun c a w h => h) (.inl ⟨rfl, fun w _ => rfl⟩) HS ?_
                      simp only [List.setIfInBounds_toArray, List.set_cons_zero, List.set_cons_succ]
                      refine takeH 6 142 (.agg (stC 3 noV (.slice al9 nl9 cl9)).toArray) rfl rfl (by kernel_rfl) (by kernel_rfl) (by kernel_rfl) (fun c a w h => h) (.inl ⟨rfl, fun w _ => by go_simp⟩) HS ?_
                      simp only [List.setIfInBounds_toArray, List.set_cons_zero, List.set_cons_succ]
                      refine takeH 7 143 (vo) rfl rfl (by kernel_rfl) (by kernel_rfl) (by kernel_rfl) (fun c a w h => h) (.inl ⟨rfl, fun w _ => by go_simp⟩) HS ?_
                      simp only [List.setIfInBounds_toArray, List.set_cons_zero, List.set_cons_succ]
                      refine takeH 8 144 (.bool true) rfl rfl (by kernel_rfl) (by kernel_rfl) (by kernel_rfl) (fun c a w h => h) (.inl ⟨rfl, fun w _ => by go_simp⟩) HS ?_
                      simp only [List.setIfInBounds_toArray, List.set_cons_zero, List.set_cons_succ]
                      refine wpAnyH_all (rs := [9]) (by kernel_rfl) (by simp) (fun i hi => ?_)
                      obtain rfl : i = 9 := by simpa using hi
                      refine wpOp_doG 9 (by rfl) (by rfl) ?_
                      go_wp2_with fail
                      have BO := Blk.new wq15 (stC 0 noV nilS) 28
                      have hb := below_box wq15 (.cells (stC 0 noV nilS).toArray 28)
                      have hq9w : wr.heap.size ≤ wq15.heap.size := HS.size
                      obtain ⟨q9, hq9⟩ : ∃ q9, wq15.heap.size = q9 := ⟨_, rfl⟩
                      change Blk (wq15.alloc (.cells #[.int .i64 0, .int .i64 0, .int .i64 0, .string ⟨#[]⟩, .int .i64 0, .slice none 0 0] 28)) _ _ _ at BO
                      change Below _ wq15 (wq15.alloc (.cells #[.int .i64 0, .int .i64 0, .int .i64 0, .string ⟨#[]⟩, .int .i64 0, .slice none 0 0] 28)) at hb
                      generalize wq15.alloc (.cells #[.int .i64 0, .int .i64 0, .int .i64 0, .string ⟨#[]⟩, .int .i64 0, .slice none 0 0] 28) = wq16 at BO hb ⊢
                      simp only [hq9] at BO hq9w ⊢
                      clear hq9
                      refine ⟨HS.later hb, ?_⟩
                      replace HS := HS.later hb
                      replace hl9 := hl9.later hb
                      clear hb
                      refine wpAnyH_all (rs := [10]) (by kernel_rfl) (by simp) (fun i hi => ?_)
                      obtain rfl : i = 10 := by simpa using hi
                      refine wpOp_doG 10 (by rfl) (by rfl) ?_
                      refine wpo_storeB 28 (.tmp 19) (.tmp 142) q9 0 (stC 3 noV (.slice al9 nl9 cl9)) (stC 0 noV nilS) 28 infoSt (show 0 + 6 ≤ 6 by decide) (stC_one _ _ rfl) rfl rfl rfl BO ?_
                      intro wq17 BP ho
                      replace BP : Blk wq17 q9 (stC 3 noV (.slice al9 nl9 cl9)) 28 := BP
                      have HN9 : Hs w wq17 q9 (.slice al9 nl9 cl9) LD := ⟨BP, hl9.oth ho BO (by decide), Nat.le_trans HB.out.size hq9w⟩
                      have HS9 : Stay wr wq17 := below_oth HS ho hq9w hq9w HS.size
                      refine ⟨HS9, ?_⟩
                      have HS := HS9
                      refine takeH 11 20 (vo) rfl rfl (by kernel_rfl) (by kernel_rfl) (by kernel_rfl) (fun c a w h => h) (.inl ⟨rfl, fun w _ => rfl⟩) HS ?_
                      simp only [List.setIfInBounds_toArray, List.set_cons_zero, List.set_cons_succ]
                      refine takeH 12 21 (.bool true) rfl rfl (by kernel_rfl) (by kernel_rfl) (by kernel_rfl) (fun c a w h => h) (.inl ⟨rfl, fun w _ => rfl⟩) HS ?_
                      simp only [List.setIfInBounds_toArray, List.set_cons_zero, List.set_cons_succ]
                      refine wpAnyH_done (by kernel_rfl) ?_ _
                      show K9 _ _
                      try simp only [Act.put, List.getElem_toArray, List.getElem_cons_succ, List.getElem_cons_zero]
                      exact HTl30.out wq17 q9 al9 cl9 nl9 HN9 HS9 hq9w _ _ _ _ _ _ _ _ _ _ _ _ _ _ _ _ _ _ _ _ _ _ _ _ _ _ _ _ _ _ _ _ _ _ _ _ _ _ _ _ _ _ _ _ _ _ _ _ _ _ _ _ _ _ _ _ _ _ _ _ _ _ _ _ _ _ _ _ _ _ _ _ _ _ _ _ _ _ _ _ _ _ _ _ _ _ _ _ _ _ _ _ _ _ _ _ _ _ _ _ _ _ _ _ _ _ _ _ _ _ _ _ _ _ _ _ _ _ _ _ _ _ _ _ _ _ _ _ _ _ _ _ _ _ _ _ _ _ _ _ _ _ _ _ _ _ _ _ _ _ _ _ _
                    · refine wpOp_doG 9 (by rfl) (by rfl) ?_
                      go_wp2_with fail
                      have BO := Blk.new wq14 (stC 0 noV nilS) 28
                      have hb := below_box wq14 (.cells (stC 0 noV nilS).toArray 28)
                      have hq9w : wr.heap.size ≤ wq14.heap.size := HS.size
                      obtain ⟨q9, hq9⟩ : ∃ q9, wq14.heap.size = q9 := ⟨_, rfl⟩
                      change Blk (wq14.alloc (.cells #[.int .i64 0, .int .i64 0, .int .i64 0, .string ⟨#[]⟩, .int .i64 0, .slice none 0 0] 28)) _ _ _ at BO
                      change Below _ wq14 (wq14.alloc (.cells #[.int .i64 0, .int .i64 0, .int .i64 0, .string ⟨#[]⟩, .int .i64 0, .slice none 0 0] 28)) at hb
                      generalize wq14.alloc (.cells #[.int .i64 0, .int .i64 0, .int .i64 0, .string ⟨#[]⟩, .int .i64 0, .slice none 0 0] 28) = wq18 at BO hb ⊢
                      simp only [hq9] at BO hq9w ⊢
                      clear hq9
                      refine ⟨HS.later hb, ?_⟩
                      replace HS := HS.later hb
                      replace HV9x := HV9x.later hb
                      clear hb
                      refine wpAnyH_all (rs := [4]) (by kernel_rfl) (by simp) (fun i hi => ?_)
                      obtain rfl : i = 4 := by simpa using hi
                      refine wpOp_doG 4 (by rfl) (by rfl) ?_
                      go_wp2_with fail
                      refine (HK.out.yes w.heap.size (vN 1) vc LA 5 (.slice (some ⟨q8, 0, none⟩) 1 1) [v9] wq18 (below_next HB.out HS).size (HT.out.later (below_next HB.out HS)) (HSc.out.later HS).l HSA.out HLnA.out HV9x (sz1 _ (by have := HVv.out.2; omega)) (Nat.zero_le _) (may_del HVv.out.1)).mono ?_
                      rintro e wq19 ⟨vo, vl9, rfl, -, hl9, -, hb⟩
                      rw [nx_del, HDl.out] at hl9
                      obtain ⟨al9, cl9, hf9⟩ := hl9.form
                      obtain ⟨nl9, hn9⟩ : ∃ nl9, (LD).length = nl9 := ⟨_, rfl⟩
                      rw [hn9] at hf9
                      subst hf9
                      clear hn9
                      refine ⟨HS.later hb, ?_⟩
                      replace HS := HS.later hb
                      replace HV9x := HV9x.later hb
                      replace BO := BO.later hb
                      clear hb
                      clear HV9x
                      refine takeH 5 136 (.tuple #[.agg (stC 3 noV (.slice al9 nl9 cl9)).toArray, vo, .bool true]) rfl rfl (by kernel_rfl) (by kernel_rfl) (by kernel_rfl) (fun c a w h => h) (.inl ⟨rfl, fun w _ => rfl⟩) HS ?_
                      simp only [List.setIfInBounds_toArray, List.set_cons_zero, List.set_cons_succ]
                      refine takeH 6 142 (.agg (stC 3 noV (.slice al9 nl9 cl9)).toArray) rfl rfl (by kernel_rfl) (by kernel_rfl) (by kernel_rfl) (fun c a w h => h) (.inl ⟨rfl, fun w _ => by go_simp⟩) HS ?_
                      simp only [List.setIfInBounds_toArray, List.set_cons_zero, List.set_cons_succ]
                      refine takeH 7 143 (vo) rfl rfl (by kernel_rfl) (by kernel_rfl) (by kernel_rfl) (fun c a w h => h) (.inl ⟨rfl, fun w _ => by go_simp⟩) HS ?_
                      simp only [List.setIfInBounds_toArray, List.set_cons_zero, List.set_cons_succ]
                      refine takeH 8 144 (.bool true) rfl rfl (by kernel_rfl) (by kernel_rfl) (by kernel_rfl) (fun c a w h => h) (.inl ⟨rfl, fun w _ => by go_simp⟩) HS ?_
                      simp only [List.setIfInBounds_toArray, List.set_cons_zero, List.set_cons_succ]
                      refine wpAnyH_all (rs := [10]) (by kernel_rfl) (by simp) (fun i hi => ?_)
                      obtain rfl : i = 10 := by simpa using hi
                      refine wpOp_doG 10 (by rfl) (by rfl) ?_
                      refine wpo_storeB 28 (.tmp 19) (.tmp 142) q9 0 (stC 3 noV (.slice al9 nl9 cl9)) (stC 0 noV nilS) 28 infoSt (show 0 + 6 ≤ 6 by decide) (stC_one _ _ rfl) rfl rfl rfl BO ?_
                      intro wq20 BP ho
                      replace BP : Blk wq20 q9 (stC 3 noV (.slice al9 nl9 cl9)) 28 := BP
                      have HN9 : Hs w wq20 q9 (.slice al9 nl9 cl9) LD := ⟨BP, hl9.oth ho BO (by decide), Nat.le_trans HB.out.size hq9w⟩
                      have HS9 : Stay wr wq20 := below_oth HS ho hq9w hq9w HS.size
                      refine ⟨HS9, ?_⟩
                      have HS := HS9
                      refine takeH 11 20 (vo) rfl rfl (by kernel_rfl) (by kernel_rfl) (by kernel_rfl) (fun c a w h => h) (.inl ⟨rfl, fun w _ => rfl⟩) HS ?_
                      simp only [List.setIfInBounds_toArray, List.set_cons_zero, List.set_cons_succ]
                      refine takeH 12 21 (.bool true) rfl rfl (by kernel_rfl) (by kernel_rfl) (by kernel_rfl) (fun c a w h => h) (.inl ⟨rfl, fun w _ => rfl⟩) HS ?_
                      simp only [List.setIfInBounds_toArray, List.set_cons_zero, List.set_cons_succ]
                      refine wpAnyH_done (by kernel_rfl) ?_ _
                      show K9 _ _
                      try simp only [Act.put, List.getElem_toArray, List.getElem_cons_succ, List.getElem_cons_zero]
                      exact HTl30.out wq20 q9 al9 cl9 nl9 HN9 HS9 hq9w _ _ _ _ _ _ _ _ _ _ _ _ _ _ _ _ _ _ _ _ _ _ _ _ _ _ _ _ _ _ _ _ _ _ _ _ _ _ _ _ _ _ _ _ _ _ _ _ _ _ _ _ _ _ _ _ _ _ _ _ _ _ _ _ _ _ _ _ _ _ _ _ _ _ _ _ _ _ _ _ _ _ _ _ _ _ _ _ _ _ _ _ _ _ _ _ _ _ _ _ _ _ _ _ _ _ _ _ _ _ _ _ _ _ _ _ _ _ _ _ _ _ _ _ _ _ _ _ _ _ _ _ _ _ _ _ _ _ _ _ _ _ _ _ _ _ _ _ _ _ _ _ _
                  · refine wpOp_doG 9 (by rfl) (by rfl) ?_
                    go_wp2_with fail
                    have BO := Blk.new wq13 (stC 0 noV nilS) 28
                    have hb := below_box wq13 (.cells (stC 0 noV nilS).toArray 28)
                    have hq9w : wr.heap.size ≤ wq13.heap.size := HS.size
                    obtain ⟨q9, hq9⟩ : ∃ q9, wq13.heap.size = q9 := ⟨_, rfl⟩
                    change Blk (wq13.alloc (.cells #[.int .i64 0, .int .i64 0, .int .i64 0, .string ⟨#[]⟩, .int .i64 0, .slice none 0 0] 28)) _ _ _ at BO
                    change Below _ wq13 (wq13.alloc (.cells #[.int .i64 0, .int .i64 0, .int .i64 0, .string ⟨#[]⟩, .int .i64 0, .slice none 0 0] 28)) at hb
                    generalize wq13.alloc (.cells #[.int .i64 0, .int .i64 0, .int .i64 0, .string ⟨#[]⟩, .int .i64 0, .slice none 0 0] 28) = wq21 at BO hb ⊢
                    simp only [hq9] at BO hq9w ⊢
                    clear hq9
                    refine ⟨HS.later hb, ?_⟩
                    replace HS := HS.later hb
                    replace HV9x := HV9x.later hb
                    clear hb
                    refine wpAnyH_all (rs := [1]) (by kernel_rfl) (by simp) (fun i hi => ?_)
                    obtain rfl : i = 1 := by simpa using hi
                    refine wpOp_doG 1 (by rfl) (by rfl) ?_
                    go_wp2_with fail
                    refine (num_any 1 wq21).mono ?_
                    rintro e wq22 ⟨rfl, hb⟩
                    refine ⟨HS.later hb, ?_⟩
                    replace HS := HS.later hb
                    replace HV9x := HV9x.later hb
                    replace BO := BO.later hb
                    clear hb
                    refine wpAnyH_all (rs := [4]) (by kernel_rfl) (by simp) (fun i hi => ?_)
                    obtain rfl : i = 4 := by simpa using hi
                    refine wpOp_doG 4 (by rfl) (by rfl) ?_
                    go_wp2_with fail
                    refine (HK.out.yes w.heap.size (vN 1) vc LA 5 (.slice (some ⟨q8, 0, none⟩) 1 1) [v9] wq22 (below_next HB.out HS).size (HT.out.later (below_next HB.out HS)) (HSc.out.later HS).l HSA.out HLnA.out HV9x (sz1 _ (by have := HVv.out.2; omega)) (Nat.zero_le _) (may_del HVv.out.1)).mono ?_
                    rintro e wq23 ⟨vo, vl9, rfl, -, hl9, -, hb⟩
                    rw [nx_del, HDl.out] at hl9
                    obtain ⟨al9, cl9, hf9⟩ := hl9.form
                    obtain ⟨nl9, hn9⟩ : ∃ nl9, (LD).length = nl9 := ⟨_, rfl⟩
                    rw [hn9] at hf9
                    subst hf9
                    clear hn9
                    refine ⟨HS.later hb, ?_⟩
                    replace HS := HS.later hb
                    replace HV9x := HV9x.later hb
                    replace BO := BO.later hb
                    clear hb
                    clear HV9x
                    refine takeH 5 136 (.tuple #[.agg (stC 3 noV (.slice al9 nl9 cl9)).toArray, vo, .bool true]) rfl rfl (by kernel_rfl) (by kernel_rfl) (by kernel_rfl) (fun c a w h => h) (.inl ⟨rfl, fun w _ => rfl⟩) HS ?_
                    simp only [List.setIfInBounds_toArray, List.set_cons_zero, List.set_cons_succ]
                    refine takeH 6 142 (.agg (stC 3 noV (.slice al9 nl9 cl9)).toArray) rfl rfl (by kernel_rfl) (by kernel_rfl) (by kernel_rfl) (fun c a w h => h) (.inl ⟨rfl, fun w _ => by go_simp⟩) HS ?_
                    simp only [List.setIfInBounds_toArray, List.set_cons_zero, List.set_cons_succ]
                    refine takeH 7 143 (vo) rfl rfl (by kernel_rfl) (by kernel_rfl) (by kernel_rfl) (fun c a w h => h) (.inl ⟨rfl, fun w _ => by go_simp⟩) HS ?_
                    simp only [List.setIfInBounds_toArray, List.set_cons_zero, List.set_cons_succ]
                    refine takeH 8 144 (.bool true) rfl rfl (by kernel_rfl) (by kernel_rfl) (by kernel_rfl) (fun c a w h => h) (.inl ⟨rfl, fun w _ => by go_simp⟩) HS ?_
                    simp only [List.setIfInBounds_toArray, List.set_cons_zero, List.set_cons_succ]
                    refine wpAnyH_all (rs := [10]) (by kernel_rfl) (by simp) (fun i hi => ?_)
                    obtain rfl : i = 10 := by simpa using hi
                    refine wpOp_doG 10 (by rfl) (by rfl) ?_
                    refine wpo_storeB 28 (.tmp 19) (.tmp 142) q9 0 (stC 3 noV (.slice al9 nl9 cl9)) (stC 0 noV nilS) 28 infoSt (show 0 + 6 ≤ 6 by decide) (stC_one _ _ rfl) rfl rfl rfl BO ?_
                    intro wq24 BP ho
                    replace BP : Blk wq24 q9 (stC 3 noV (.slice al9 nl9 cl9)) 28 := BP
                    have HN9 : Hs w wq24 q9 (.slice al9 nl9 cl9) LD := ⟨BP, hl9.oth ho BO (by decide), Nat.le_trans HB.out.size hq9w⟩
                    have HS9 : Stay wr wq24 := below_oth HS ho hq9w hq9w HS.size
                    refine ⟨HS9, ?_⟩
                    have HS := HS9
                    refine takeH 11 20 (vo) rfl rfl (by kernel_rfl) (by kernel_rfl) (by kernel_rfl) (fun c a w h => h) (.inl ⟨rfl, fun w _ => rfl⟩) HS ?_
                    simp only [List.setIfInBounds_toArray, List.set_cons_zero, List.set_cons_succ]
                    refine takeH 12 21 (.bool true) rfl rfl (by kernel_rfl) (by kernel_rfl) (by kernel_rfl) (fun c a w h => h) (.inl ⟨rfl, fun w _ => rfl⟩) HS ?_
                    simp only [List.setIfInBounds_toArray, List.set_cons_zero, List.set_cons_succ]
                    refine wpAnyH_done (by kernel_rfl) ?_ _
                    show K9 _ _
                    try simp only [Act.put, List.getElem_toArray, List.getElem_cons_succ, List.getElem_cons_zero]
                    exact HTl30.out wq24 q9 al9 cl9 nl9 HN9 HS9 hq9w _ _ _ _ _ _ _ _ _ _ _ _ _ _ _ _ _ _ _ _ _ _ _ _ _ _ _ _ _ _ _ _ _ _ _ _ _ _ _ _ _ _ _ _ _ _ _ _ _ _ _ _ _ _ _ _ _ _ _ _ _ _ _ _ _ _ _ _ _ _ _ _ _ _ _ _ _ _ _ _ _ _ _ _ _ _ _ _ _ _ _ _ _ _ _ _ _ _ _ _ _ _ _ _ _ _ _ _ _ _ _ _ _ _ _ _ _ _ _ _ _ _ _ _ _ _ _ _ _ _ _ _ _ _ _ _ _ _ _ _ _ _ _ _ _ _ _ _ _ _ _ _ _
                · refine wpOp_doG 9 (by rfl) (by rfl) ?_
                  go_wp2_with fail
                  have BO := Blk.new n0 (stC 0 noV nilS) 28
                  have hb := below_box n0 (.cells (stC 0 noV nilS).toArray 28)
                  have hq9w : wr.heap.size ≤ n0.heap.size := HS.size
                  obtain ⟨q9, hq9⟩ : ∃ q9, n0.heap.size = q9 := ⟨_, rfl⟩
                  change Blk (n0.alloc (.cells #[.int .i64 0, .int .i64 0, .int .i64 0, .string ⟨#[]⟩, .int .i64 0, .slice none 0 0] 28)) _ _ _ at BO
                  change Below _ n0 (n0.alloc (.cells #[.int .i64 0, .int .i64 0, .int .i64 0, .string ⟨#[]⟩, .int .i64 0, .slice none 0 0] 28)) at hb
                  generalize n0.alloc (.cells #[.int .i64 0, .int .i64 0, .int .i64 0, .string ⟨#[]⟩, .int .i64 0, .slice none 0 0] 28) = wq25 at BO hb ⊢
                  simp only [hq9] at BO hq9w ⊢
                  clear hq9
                  refine ⟨HS.later hb, ?_⟩
                  replace HS := HS.later hb
                  clear hb
                  refine wpAnyH_all (rs := [1, 3]) (by kernel_rfl) (by simp) (fun i hi => ?_)
                  simp only [List.mem_cons, List.not_mem_nil, or_false] at hi
                  rcases hi with rfl | rfl
                  · refine wpOp_doG 1 (by rfl) (by rfl) ?_
                    go_wp2_with fail
                    refine (num_any 1 wq25).mono ?_
                    rintro e wq26 ⟨rfl, hb⟩
                    refine ⟨HS.later hb, ?_⟩
                    replace HS := HS.later hb
                    replace BO := BO.later hb
                    clear hb
                    refine wpAnyH_all (rs := [3]) (by kernel_rfl) (by simp) (fun i hi => ?_)
                    obtain rfl : i = 3 := by simpa using hi
                    refine wpOp_doG 3 (by rfl) (by rfl) ?_
                    go_wp2_with fail
                    have HV9x := (own_one wq26 wq26.heap.size (Nat.le_refl _) v9).vsl
                    have hb := below_box wq26 (.cells (encV v9).toArray 25)
                    obtain ⟨q8, hq8⟩ : ∃ q8, wq26.heap.size = q8 := ⟨_, rfl⟩
                    change VSl (wq26.alloc (.cells #[.int .i64 v9.1, .int .i64 v9.2.1, .string v9.2.2] 25)) _ _ at HV9x
                    change Below _ wq26 (wq26.alloc (.cells #[.int .i64 v9.1, .int .i64 v9.2.1, .string v9.2.2] 25)) at hb
                    generalize wq26.alloc (.cells #[.int .i64 v9.1, .int .i64 v9.2.1, .string v9.2.2] 25) = wq27 at HV9x hb ⊢
                    simp only [hq8] at HV9x ⊢
                    clear hq8
                    refine ⟨HS.later hb, ?_⟩
                    replace HS := HS.later hb
                    replace BO := BO.later hb
                    clear hb
                    refine wpAnyH_all (rs := [4]) (by kernel_rfl) (by simp) (fun i hi => ?_)
                    obtain rfl : i = 4 := by simpa using hi
                    refine wpOp_doG 4 (by rfl) (by rfl) ?_
                    go_wp2_with fail
                    refine (HK.out.yes w.heap.size (vN 1) vc LA 5 (.slice (some ⟨q8, 0, none⟩) 1 1) [v9] wq27 (below_next HB.out HS).size (HT.out.later (below_next HB.out HS)) (HSc.out.later HS).l HSA.out HLnA.out HV9x (sz1 _ (by have := HVv.out.2; omega)) (Nat.zero_le _) (may_del HVv.out.1)).mono ?_
                    rintro e wq28 ⟨vo, vl9, rfl, -, hl9, -, hb⟩
                    rw [nx_del, HDl.out] at hl9
                    obtain ⟨al9, cl9, hf9⟩ := hl9.form
                    obtain ⟨nl9, hn9⟩ : ∃ nl9, (LD).length = nl9 := ⟨_, rfl⟩
                    rw [hn9] at hf9
                    subst hf9
                    clear hn9
                    refine ⟨HS.later hb, ?_⟩
                    replace HS := HS.later hb
                    replace BO := BO.later hb
                    replace HV9x := HV9x.later hb
                    clear hb
                    clear HV9x
                    refine takeH 5 136 (.tuple #[.agg (stC 3 noV (.slice al9 nl9 cl9)).toArray, vo, .bool true]) rfl rfl (by kernel_rfl) (by kernel_rfl) (by kernel_rfl) (fun c a w h => h) (.inl ⟨rfl, fun w _ => rfl⟩) HS ?_
                    simp only [List.setIfInBounds_toArray, List.set_cons_zero, List.set_cons_succ]
                    refine takeH 6 142 (.agg (stC 3 noV (.slice al9 nl9 cl9)).toArray) rfl rfl (by kernel_rfl) (by kernel_rfl) (by kernel_rfl) (fun c a w h => h) (.inl ⟨rfl, fun w _ => by go_simp⟩) HS ?_
                    simp only [List.setIfInBounds_toArray, List.set_cons_zero, List.set_cons_succ]
                    refine takeH 7 143 (vo) rfl rfl (by kernel_rfl) (by kernel_rfl) (by kernel_rfl) (fun c a w h => h) (.inl ⟨rfl, fun w _ => by go_simp⟩) HS ?_
                    simp only [List.setIfInBounds_toArray, List.set_cons_zero, List.set_cons_succ]
                    refine takeH 8 144 (.bool true) rfl rfl (by kernel_rfl) (by kernel_rfl) (by kernel_rfl) (fun c a w h => h) (.inl ⟨rfl, fun w _ => by go_simp⟩) HS ?_
                    simp only [List.setIfInBounds_toArray, List.set_cons_zero, List.set_cons_succ]
                    refine wpAnyH_all (rs := [10]) (by kernel_rfl) (by simp) (fun i hi => ?_)
                    obtain rfl : i = 10 := by simpa using hi
                    refine wpOp_doG 10 (by rfl) (by rfl) ?_
                    refine wpo_storeB 28 (.tmp 19) (.tmp 142) q9 0 (stC 3 noV (.slice al9 nl9 cl9)) (stC 0 noV nilS) 28 infoSt (show 0 + 6 ≤ 6 by decide) (stC_one _ _ rfl) rfl rfl rfl BO ?_
                    intro wq29 BP ho
                    replace BP : Blk wq29 q9 (stC 3 noV (.slice al9 nl9 cl9)) 28 := BP
                    have HN9 : Hs w wq29 q9 (.slice al9 nl9 cl9) LD := ⟨BP, hl9.oth ho BO (by decide), Nat.le_trans HB.out.size hq9w⟩
                    have HS9 : Stay wr wq29 := below_oth HS ho hq9w hq9w HS.size
                    refine ⟨HS9, ?_⟩
                    have HS := HS9
                    refine takeH 11 20 (vo) rfl rfl (by kernel_rfl) (by kernel_rfl) (by kernel_rfl) (fun c a w h => h) (.inl ⟨rfl, fun w _ => rfl⟩) HS ?_
                    simp only [List.setIfInBounds_toArray, List.set_cons_zero, List.set_cons_succ]
                    refine takeH 12 21 (.bool true) rfl rfl (by kernel_rfl) (by kernel_rfl) (by kernel_rfl) (fun c a w h => h) (.inl ⟨rfl, fun w _ => rfl⟩) HS ?_
                    simp only [List.setIfInBounds_toArray, List.set_cons_zero, List.set_cons_succ]
                    refine wpAnyH_done (by kernel_rfl) ?_ _
                    show K9 _ _
                    try simp only [Act.put, List.getElem_toArray, List.getElem_cons_succ, List.getElem_cons_zero]
                    exact HTl30.out wq29 q9 al9 cl9 nl9 HN9 HS9 hq9w _ _ _ _ _ _ _ _ _ _ _ _ _ _ _ _ _ _ _ _ _ _ _ _ _ _ _ _ _ _ _ _ _ _ _ _ _ _ _ _ _ _ _ _ _ _ _ _ _ _ _ _ _ _ _ _ _ _ _ _ _ _ _ _ _ _ _ _ _ _ _ _ _ _ _ _ _ _ _ _ _ _ _ _ _ _ _ _ _ _ _ _ _ _ _ _ _ _ _ _ _ _ _ _ _ _ _ _ _ _ _ _ _ _ _ _ _ _ _ _ _ _ _ _ _ _ _ _ _ _ _ _ _ _ _ _ _ _ _ _ _ _ _ _ _ _ _ _ _ _ _ _ _
                  · refine wpOp_doG 3 (by rfl) (by rfl) ?_
                    go_wp2_with fail
                    have HV9x := (own_one wq25 wq25.heap.size (Nat.le_refl _) v9).vsl
                    have hb := below_box wq25 (.cells (encV v9).toArray 25)
                    obtain ⟨q8, hq8⟩ : ∃ q8, wq25.heap.size = q8 := ⟨_, rfl⟩
                    change VSl (wq25.alloc (.cells #[.int .i64 v9.1, .int .i64 v9.2.1, .string v9.2.2] 25)) _ _ at HV9x
                    change Below _ wq25 (wq25.alloc (.cells #[.int .i64 v9.1, .int .i64 v9.2.1, .string v9.2.2] 25)) at hb
                    generalize wq25.alloc (.cells #[.int .i64 v9.1, .int .i64 v9.2.1, .string v9.2.2] 25) = wq30 at HV9x hb ⊢
                    simp only [hq8] at HV9x ⊢
                    clear hq8
                    refine ⟨HS.later hb, ?_⟩
                    replace HS := HS.later hb
                    replace BO := BO.later hb
                    clear hb
                    refine wpAnyH_all (rs := [1]) (by kernel_rfl) (by simp) (fun i hi => ?_)
                    obtain rfl : i = 1 := by simpa using hi
                    refine wpOp_doG 1 (by rfl) (by rfl) ?_
                    go_wp2_with fail
                    refine (num_any 1 wq30).mono ?_
                    rintro e wq31 ⟨rfl, hb⟩
                    refine ⟨HS.later hb, ?_⟩
                    replace HS := HS.later hb
                    replace BO := BO.later hb
                    replace HV9x := HV9x.later hb
                    clear hb
                    refine wpAnyH_all (rs := [4]) (by kernel_rfl) (by simp) (fun i hi => ?_)
                    obtain rfl : i = 4 := by simpa using hi
                    refine wpOp_doG 4 (by rfl) (by rfl) ?_
                    go_wp2_with fail
                    refine (HK.out.yes w.heap.size (vN 1) vc LA 5 (.slice (some ⟨q8, 0, none⟩) 1 1) [v9] wq31 (below_next HB.out HS).size (HT.out.later (below_next HB.out HS)) (HSc.out.later HS).l HSA.out HLnA.out HV9x (sz1 _ (by have := HVv.out.2; omega)) (Nat.zero_le _) (may_del HVv.out.1)).mono ?_
                    rintro e wq32 ⟨vo, vl9, rfl, -, hl9, -, hb⟩
                    rw [nx_del, HDl.out] at hl9
                    obtain ⟨al9, cl9, hf9⟩ := hl9.form
                    obtain ⟨nl9, hn9⟩ : ∃ nl9, (LD).length = nl9 := ⟨_, rfl⟩
                    rw [hn9] at hf9
                    subst hf9
                    clear hn9
                    refine ⟨HS.later hb, ?_⟩
                    replace HS := HS.later hb
                    replace BO := BO.later hb
                    replace HV9x := HV9x.later hb
                    clear hb
                    clear HV9x
                    refine takeH 5 136 (.tuple #[.agg (stC 3 noV (.slice al9 nl9 cl9)).toArray, vo, .bool true]) rfl rfl (by kernel_rfl) (by kernel_rfl) (by kernel_rfl) (fun c a w h => h) (.inl ⟨rfl, fun w _ => rfl⟩) HS ?_
                    simp only [List.setIfInBounds_toArray, List.set_cons_zero, List.set_cons_succ]
                    refine takeH 6 142 (.agg (stC 3 noV (.slice al9 nl9 cl9)).toArray) rfl rfl (by kernel_rfl) (by kernel_rfl) (by kernel_rfl) (fun c a w h => h) (.inl ⟨rfl, fun w _ => by go_simp⟩) HS ?_
                    simp only [List.setIfInBounds_toArray, List.set_cons_zero, List.set_cons_succ]
                    refine takeH 7 143 (vo) rfl rfl (by kernel_rfl) (by kernel_rfl) (by kernel_rfl) (fun c a w h => h) (.inl ⟨rfl, fun w _ => by go_simp⟩) HS ?_
                    simp only [List.setIfInBounds_toArray, List.set_cons_zero, List.set_cons_succ]
                    refine takeH 8 144 (.bool true) rfl rfl (by kernel_rfl) (by kernel_rfl) (by kernel_rfl) (fun c a w h => h) (.inl ⟨rfl, fun w _ => by go_simp⟩) HS ?_
                    simp only [List.setIfInBounds_toArray, List.set_cons_zero, List.set_cons_succ]
                    refine wpAnyH_all (rs := [10]) (by kernel_rfl) (by simp) (fun i hi => ?_)
                    obtain rfl : i = 10 := by simpa using hi
                    refine wpOp_doG 10 (by rfl) (by rfl) ?_
                    refine wpo_storeB 28 (.tmp 19) (.tmp 142) q9 0 (stC 3 noV (.slice al9 nl9 cl9)) (stC 0 noV nilS) 28 infoSt (show 0 + 6 ≤ 6 by decide) (stC_one _ _ rfl) rfl rfl rfl BO ?_
                    intro wq33 BP ho
                    replace BP : Blk wq33 q9 (stC 3 noV (.slice al9 nl9 cl9)) 28 := BP
                    have HN9 : Hs w wq33 q9 (.slice al9 nl9 cl9) LD := ⟨BP, hl9.oth ho BO (by decide), Nat.le_trans HB.out.size hq9w⟩
                    have HS9 : Stay wr wq33 := below_oth HS ho hq9w hq9w HS.size
                    refine ⟨HS9, ?_⟩
                    have HS := HS9
                    refine takeH 11 20 (vo) rfl rfl (by kernel_rfl) (by kernel_rfl) (by kernel_rfl) (fun c a w h => h) (.inl ⟨rfl, fun w _ => rfl⟩) HS ?_
                    simp only [List.setIfInBounds_toArray, List.set_cons_zero, List.set_cons_succ]
                    refine takeH 12 21 (.bool true) rfl rfl (by kernel_rfl) (by kernel_rfl) (by kernel_rfl) (fun c a w h => h) (.inl ⟨rfl, fun w _ => rfl⟩) HS ?_
                    simp only [List.setIfInBounds_toArray, List.set_cons_zero, List.set_cons_succ]
                    refine wpAnyH_done (by kernel_rfl) ?_ _
                    show K9 _ _
                    try simp only [Act.put, List.getElem_toArray, List.getElem_cons_succ, List.getElem_cons_zero]
                    exact HTl30.out wq33 q9 al9 cl9 nl9 HN9 HS9 hq9w _ _ _ _ _ _ _ _ _ _ _ _ _ _ _ _ _ _ _ _ _ _ _ _ _ _ _ _ _ _ _ _ _ _ _ _ _ _ _ _ _ _ _ _ _ _ _ _ _ _ _ _ _ _ _ _ _ _ _ _ _ _ _ _ _ _ _ _ _ _ _ _ _ _ _ _ _ _ _ _ _ _ _ _ _ _ _ _ _ _ _ _ _ _ _ _ _ _ _ _ _ _ _ _ _ _ _ _ _ _ _ _ _ _ _ _ _ _ _ _ _ _ _ _ _ _ _ _ _ _ _ _ _ _ _ _ _ _ _ _ _ _ _ _ _ _ _ _ _ _ _ _ _
          have HTl22 : Hid (∀ (w' : World) (q9 : Nat) (al9 : Option Addr) (cl9 nl9 : Nat), Hs w w' q9 (.slice al9 nl9 cl9) LA → Stay w14 w' → w14.heap.size ≤ q9 → ∀ t1 t2 t3 t4 t5 t6 t8 t9 t10 t13 t15 t16 t17 t18 t19 t20 t21 t22 t23 t24 t25 t26 t27 t28 t29 t30 t31 t32 t33 t34 t35 t36 t37 t38 t39 t40 t41 t42 t43 t44 t45 t46 t47 t48 t49 t50 t51 t52 t53 t54 t55 t56 t57 t58 t59 t60 t61 t62 t63 t64 t65 t66 t67 t68 t69 t70 t71 t72 t73 t74 t75 t76 t77 t78 t79 t80 t81 t82 t83 t84 t85 t86 t87 t88 t89 t90 t91 t92 t93 t94 t95 t96 t97 t98 t99 t100 t101 t102 t103 t104 t105 t106 t107 t108 t109 t110 t111 t112 t113 t114 t115 t116 t117 t118 t119 t120 t121 t122 t123 t124 t125 t126 t127 t128 t129 t130 t131 t132 t133 t134 t135 t136 t137 t138 t139 t140 t141 t142 t143 t144 t145 t146 t147 t148 t149 t150 t151 t152 t153 t154 t155 t156 t157 t158 : Value, K9 ⟨#[Value.slice (some ⟨b, o, none⟩) j c, t1, t2, t3, t4, t5, t6, Value.pointer (some ⟨z7, 0, none⟩), t8, t9, t10, Value.pointer (some ⟨q11, 0, none⟩), Value.pointer (some ⟨q9, 0, none⟩), t13, Value.bool true, t15, t16, t17, t18, t19, t20, t21, t22, t23, t24, t25, t26, t27, t28, t29, t30, t31, t32, t33, t34, t35, t36, t37, t38, t39, t40, t41, t42, t43, t44, t45, t46, t47, t48, t49, t50, t51, t52, t53, t54, t55, t56, t57, t58, t59, t60, t61, t62, t63, t64, t65, t66, t67, t68, t69, t70, t71, t72, t73, t74, t75, t76, t77, t78, t79, t80, t81, t82, t83, t84, t85, t86, t87, t88, t89, t90, t91, t92, t93, t94, t95, t96, t97, t98, t99, t100, t101, t102, t103, t104, t105, t106, t107, t108, t109, t110, t111, t112, t113, t114, t115, t116, t117, t118, t119, t120, t121, t122, t123, t124, t125, t126, t127, t128, t129, t130, t131, t132, t133, t134, t135, t136, t137, t138, t139, t140, t141, t142, t143, t144, t145, t146, t147, t148, t149, t150, t151, t152, t153, t154, t155, t156, t157, t158], []⟩ w') := tail22
          clear tail22 hK9
          refine wp_region_held (S := Stay w14) mixed ?_
          have HS : Stay w14 { w14 with drawn := w14.drawn + 1 } := Stay.drew w14
          generalize ({ w14 with drawn := w14.drawn + 1 } : World) = n0 at HS ⊢
          refine takeH 0 105 (.agg #[.int .i64 3, .int .i64 0, .int .i64 0, .string noB, .int .i64 0, va]) rfl rfl (by kernel_rfl) (by kernel_rfl) (by kernel_rfl) (fun c a w h => h) (yieldsIf_load_mid rfl 28 (.tmp 7) rfl z7 0 rfl (stC 3 noV va) _ (fun wx hx => Blk.all (HSa.out.s.later hx)) Tryd.underlying28 rfl infoSt) HS ?_
          simp only [List.setIfInBounds_toArray, List.set_cons_zero, List.set_cons_succ]
          refine takeH 2 107 (.agg #[.int .i64 v9.1, .int .i64 v9.2.1, .string v9.2.2]) rfl rfl (by kernel_rfl) (by kernel_rfl) (by kernel_rfl) (fun c a w h => h) (yieldsIf_load_mid rfl 25 (.tmp 11) rfl q11 0 rfl (encV v9) _ (fun wx hx => Blk.all (HQ.out.later hx)) Tryd.underlying25 rfl infoVv) HS ?_
          simp only [List.setIfInBounds_toArray, List.set_cons_zero, List.set_cons_succ]
          refine wpAnyH_all (rs := [1, 3, 9]) (by kernel_rfl) (by simp) (fun i hi => ?_)
          simp only [List.mem_cons, List.not_mem_nil, or_false] at hi
          rcases hi with rfl | rfl | rfl
          · refine wpOp_doG 1 (by rfl) (by rfl) ?_
            go_wp2_with fail
            refine (num_any 1 n0).mono ?_
            rintro e wq1 ⟨rfl, hb⟩
            refine ⟨HS.later hb, ?_⟩
            replace HS := HS.later hb
            clear hb
            refine wpAnyH_all (rs := [3, 9]) (by kernel_rfl) (by simp) (fun i hi => ?_)
            simp only [List.mem_cons, List.not_mem_nil, or_false] at hi
            rcases hi with rfl | rfl
            · refine wpOp_doG 3 (by rfl) (by rfl) ?_
              go_wp2_with fail
              have HV9x := (own_one wq1 wq1.heap.size (Nat.le_refl _) v9).vsl
              have hb := below_box wq1 (.cells (encV v9).toArray 25)
              obtain ⟨q8, hq8⟩ : ∃ q8, wq1.heap.size = q8 := ⟨_, rfl⟩
              change VSl (wq1.alloc (.cells #[.int .i64 v9.1, .int .i64 v9.2.1, .string v9.2.2] 25)) _ _ at HV9x
              change Below _ wq1 (wq1.alloc (.cells #[.int .i64 v9.1, .int .i64 v9.2.1, .string v9.2.2] 25)) at hb
              generalize wq1.alloc (.cells #[.int .i64 v9.1, .int .i64 v9.2.1, .string v9.2.2] 25) = wq2 at HV9x hb ⊢
              simp only [hq8] at HV9x ⊢
              clear hq8
              refine ⟨HS.later hb, ?_⟩
              replace HS := HS.later hb
              clear hb
              refine wpAnyH_all (rs := [4, 9]) (by kernel_rfl) (by simp) (fun i hi => ?_)
              simp only [List.mem_cons, List.not_mem_nil, or_false] at hi
              rcases hi with rfl | rfl
              · refine wpOp_doG 4 (by rfl) (by rfl) ?_
                go_wp2_with fail
                refine (HK.out.yes w.heap.size (vN 1) va LA 4 (.slice (some ⟨q8, 0, none⟩) 1 1) [v9] wq2 (below_next HB.out HS).size (HT.out.later (below_next HB.out HS)) (HSa.out.later HS).l HSA.out HLnA.out HV9x (sz1 _ (by have := HVv.out.2; omega)) (Nat.zero_le _) (may_add HVv.out.1)).mono ?_
                rintro e wq3 ⟨vo, vl9, rfl, -, hl9, -, hb⟩
                rw [nx_add, HAg.out] at hl9
                obtain ⟨al9, cl9, hf9⟩ := hl9.form
                obtain ⟨nl9, hn9⟩ : ∃ nl9, (LA).length = nl9 := ⟨_, rfl⟩
                rw [hn9] at hf9
                subst hf9
                clear hn9
                refine ⟨HS.later hb, ?_⟩
                replace HS := HS.later hb
                replace HV9x := HV9x.later hb
                clear hb
                clear HV9x
                refine takeH 5 104 (.tuple #[.agg (stC 3 noV (.slice al9 nl9 cl9)).toArray, vo, .bool true]) rfl rfl (by kernel_rfl) (by kernel_rfl) (by kernel_rfl) (fun c a w h => h) (.inl ⟨rfl, fun w _ => rfl⟩) HS ?_
                simp only [List.setIfInBounds_toArray, List.set_cons_zero, List.set_cons_succ]
                refine takeH 6 110 (.agg (stC 3 noV (.slice al9 nl9 cl9)).toArray) rfl rfl (by kernel_rfl) (by kernel_rfl) (by kernel_rfl) (fun c a w h => h) (.inl ⟨rfl, fun w _ => by go_simp⟩) HS ?_
                simp only [List.setIfInBounds_toArray, List.set_cons_zero, List.set_cons_succ]
                refine takeH 7 111 (vo) rfl rfl (by kernel_rfl) (by kernel_rfl) (by kernel_rfl) (fun c a w h => h) (.inl ⟨rfl, fun w _ => by go_simp⟩) HS ?_
                simp only [List.setIfInBounds_toArray, List.set_cons_zero, List.set_cons_succ]
                refine takeH 8 112 (.bool true) rfl rfl (by kernel_rfl) (by kernel_rfl) (by kernel_rfl) (fun c a w h => h) (.inl ⟨rfl, fun w _ => by go_simp⟩) HS ?_
                simp only [List.setIfInBounds_toArray, List.set_cons_zero, List.set_cons_succ]
                refine wpAnyH_all (rs := [9]) (by kernel_rfl) (by simp) (fun i hi => ?_)
                obtain rfl : i = 9 := by simpa using hi
                refine wpOp_doG 9 (by rfl) (by rfl) ?_
                go_wp2_with fail
                have BO := Blk.new wq3 (stC 0 noV nilS) 28
                have hb := below_box wq3 (.cells (stC 0 noV nilS).toArray 28)
                have hq9w : w14.heap.size ≤ wq3.heap.size := HS.size
                obtain ⟨q9, hq9⟩ : ∃ q9, wq3.heap.size = q9 := ⟨_, rfl⟩
                change Blk (wq3.alloc (.cells #[.int .i64 0, .int .i64 0, .int .i64 0, .string ⟨#[]⟩, .int .i64 0, .slice none 0 0] 28)) _ _ _ at BO
                change Below _ wq3 (wq3.alloc (.cells #[.int .i64 0, .int .i64 0, .int .i64 0, .string ⟨#[]⟩, .int .i64 0, .slice none 0 0] 28)) at hb
                generalize wq3.alloc (.cells #[.int .i64 0, .int .i64 0, .int .i64 0, .string ⟨#[]⟩, .int .i64 0, .slice none 0 0] 28) = wq4 at BO hb ⊢
                simp only [hq9] at BO hq9w ⊢
                clear hq9
                refine ⟨HS.later hb, ?_⟩
                replace HS := HS.later hb
                replace hl9 := hl9.later hb
                clear hb
                refine wpAnyH_all (rs := [10]) (by kernel_rfl) (by simp) (fun i hi => ?_)
                obtain rfl : i = 10 := by simpa using hi
                refine wpOp_doG 10 (by rfl) (by rfl) ?_
                refine wpo_storeB 28 (.tmp 12) (.tmp 110) q9 0 (stC 3 noV (.slice al9 nl9 cl9)) (stC 0 noV nilS) 28 infoSt (show 0 + 6 ≤ 6 by decide) (stC_one _ _ rfl) rfl rfl rfl BO ?_
                intro wq5 BP ho
                replace BP : Blk wq5 q9 (stC 3 noV (.slice al9 nl9 cl9)) 28 := BP
                have HN9 : Hs w wq5 q9 (.slice al9 nl9 cl9) LA := ⟨BP, hl9.oth ho BO (by decide), Nat.le_trans HB.out.size hq9w⟩
                have HS9 : Stay w14 wq5 := below_oth HS ho hq9w hq9w HS.size
                refine ⟨HS9, ?_⟩
                have HS := HS9
                refine takeH 11 13 (vo) rfl rfl (by kernel_rfl) (by kernel_rfl) (by kernel_rfl) (fun c a w h => h) (.inl ⟨rfl, fun w _ => rfl⟩) HS ?_
                simp only [List.setIfInBounds_toArray, List.set_cons_zero, List.set_cons_succ]
                refine takeH 12 14 (.bool true) rfl rfl (by kernel_rfl) (by kernel_rfl) (by kernel_rfl) (fun c a w h => h) (.inl ⟨rfl, fun w _ => rfl⟩) HS ?_
                simp only [List.setIfInBounds_toArray, List.set_cons_zero, List.set_cons_succ]
                refine wpAnyH_done (by kernel_rfl) ?_ _
                show K9 _ _
                try simp only [Act.put, List.getElem_toArray, List.getElem_cons_succ, List.getElem_cons_zero]
                exact HTl22.out wq5 q9 al9 cl9 nl9 HN9 HS9 hq9w _ _ _ _ _ _ _ _ _ _ _ _ _ _ _ _ _ _ _ _ _ _ _ _ _ _ _ _ _ _ _ _ _ _ _ _ _ _ _ _ _ _ _ _ _ _ _ _ _ _ _ _ _ _ _ _ _ _ _ _ _ _ _ _ _ _ _ _ _ _ _ _ _ _ _ _ _ _ _ _ _ _ _ _ _ _ _ _ _ _ _ _ _ _ _ _ _ _ _ _ _ _ _ _ _ _ _ _ _ _ _ _ _ _ _ _ _ _ _ _ _ _ _ _ _ _ _ _ _ _ _ _ _ _ _ _ _ _ _ _ _ _ _ _ _ _ _ _ _ _ _ _ _ _
              · refine wpOp_doG 9 (by rfl) (by rfl) ?_
                go_wp2_with fail
                have BO := Blk.new wq2 (stC 0 noV nilS) 28
                have hb := below_box wq2 (.cells (stC 0 noV nilS).toArray 28)
                have hq9w : w14.heap.size ≤ wq2.heap.size := HS.size
                obtain ⟨q9, hq9⟩ : ∃ q9, wq2.heap.size = q9 := ⟨_, rfl⟩
                change Blk (wq2.alloc (.cells #[.int .i64 0, .int .i64 0, .int .i64 0, .string ⟨#[]⟩, .int .i64 0, .slice none 0 0] 28)) _ _ _ at BO
                change Below _ wq2 (wq2.alloc (.cells #[.int .i64 0, .int .i64 0, .int .i64 0, .string ⟨#[]⟩, .int .i64 0, .slice none 0 0] 28)) at hb
                generalize wq2.alloc (.cells #[.int .i64 0, .int .i64 0, .int .i64 0, .string ⟨#[]⟩, .int .i64 0, .slice none 0 0] 28) = wq6 at BO hb ⊢
                simp only [hq9] at BO hq9w ⊢
                clear hq9
                refine ⟨HS.later hb, ?_⟩
                replace HS := HS.later hb
                replace HV9x := HV9x.later hb
                clear hb
                refine wpAnyH_all (rs := [4]) (by kernel_rfl) (by simp) (fun i hi => ?_)
                obtain rfl : i = 4 := by simpa using hi
                refine wpOp_doG 4 (by rfl) (by rfl) ?_
                go_wp2_with fail
                refine (HK.out.yes w.heap.size (vN 1) va LA 4 (.slice (some ⟨q8, 0, none⟩) 1 1) [v9] wq6 (below_next HB.out HS).size (HT.out.later (below_next HB.out HS)) (HSa.out.later HS).l HSA.out HLnA.out HV9x (sz1 _ (by have := HVv.out.2; omega)) (Nat.zero_le _) (may_add HVv.out.1)).mono ?_
                rintro e wq7 ⟨vo, vl9, rfl, -, hl9, -, hb⟩
                rw [nx_add, HAg.out] at hl9
                obtain ⟨al9, cl9, hf9⟩ := hl9.form
                obtain ⟨nl9, hn9⟩ : ∃ nl9, (LA).length = nl9 := ⟨_, rfl⟩
                rw [hn9] at hf9
                subst hf9
                clear hn9
                refine ⟨HS.later hb, ?_⟩
                replace HS := HS.later hb
                replace HV9x := HV9x.later hb
                replace BO := BO.later hb
                clear hb
                clear HV9x
                refine takeH 5 104 (.tuple #[.agg (stC 3 noV (.slice al9 nl9 cl9)).toArray, vo, .bool true]) rfl rfl (by kernel_rfl) (by kernel_rfl) (by kernel_rfl) (fun c a w h => h) (.inl ⟨rfl, fun w _ => rfl⟩) HS ?_
                simp only [List.setIfInBounds_toArray, List.set_cons_zero, List.set_cons_succ]
                refine takeH 6 110 (.agg (stC 3 noV (.slice al9 nl9 cl9)).toArray) rfl rfl (by kernel_rfl) (by kernel_rfl) (by kernel_rfl) (fun c a w h => h) (.inl ⟨rfl, fun w _ => by go_simp⟩) HS ?_
                simp only [List.setIfInBounds_toArray, List.set_cons_zero, List.set_cons_succ]
                refine takeH 7 111 (vo) rfl rfl (by kernel_rfl) (by kernel_rfl) (by kernel_rfl) (fun c a w h => h) (.inl ⟨rfl, fun w _ => by go_simp⟩) HS ?_
                simp only [List.setIfInBounds_toArray, List.set_cons_zero, List.set_cons_succ]
                refine takeH 8 112 (.bool true) rfl rfl (by kernel_rfl) (by kernel_rfl) (by kernel_rfl) (fun c a w h => h) (.inl ⟨rfl, fun w _ => by go_simp⟩) HS ?_
                simp only [List.setIfInBounds_toArray, List.set_cons_zero, List.set_cons_succ]
                refine wpAnyH_all (rs := [10]) (by kernel_rfl) (by simp) (fun i hi => ?_)
                obtain rfl : i = 10 := by simpa using hi
                refine wpOp_doG 10 (by rfl) (by rfl) ?_
                refine wpo_storeB 28 (.tmp 12) (.tmp 110) q9 0 (stC 3 noV (.slice al9 nl9 cl9)) (stC 0 noV nilS) 28 infoSt (show 0 + 6 ≤ 6 by decide) (stC_one _ _ rfl) rfl rfl rfl BO ?_
                intro wq8 BP ho
                replace BP : Blk wq8 q9 (stC 3 noV (.slice al9 nl9 cl9)) 28 := BP
                have HN9 : Hs w wq8 q9 (.slice al9 nl9 cl9) LA := ⟨BP, hl9.oth ho BO (by decide), Nat.le_trans HB.out.size hq9w⟩
                have HS9 : Stay w14 wq8 := below_oth HS ho hq9w hq9w HS.size
                refine ⟨HS9, ?_⟩
                have HS := HS9
                refine takeH 11 13 (vo) rfl rfl (by kernel_rfl) (by kernel_rfl) (by kernel_rfl) (fun c a w h => h) (.inl ⟨rfl, fun w _ => rfl⟩) HS ?_
                simp only [List.setIfInBounds_toArray, List.set_cons_zero, List.set_cons_succ]
                refine takeH 12 14 (.bool true) rfl rfl (by kernel_rfl) (by kernel_rfl) (by kernel_rfl) (fun c a w h => h) (.inl ⟨rfl, fun w _ => rfl⟩) HS ?_
                simp only [List.setIfInBounds_toArray, List.set_cons_zero, List.set_cons_succ]
                refine wpAnyH_done (by kernel_rfl) ?_ _
                show K9 _ _
                try simp only [Act.put, List.getElem_toArray, List.getElem_cons_succ, List.getElem_cons_zero]
                exact HTl22.out wq8 q9 al9 cl9 nl9 HN9 HS9 hq9w _ _ _ _ _ _ _ _ _ _ _ _ _ _ _ _ _ _ _ _ _ _ _ _ _ _ _ _ _ _ _ _ _ _ _ _ _ _ _ _ _ _ _ _ _ _ _ _ _ _ _ _ _ _ _ _ _ _ _ _ _ _ _ _ _ _ _ _ _ _ _ _ _ _ _ _ _ _ _ _ _ _ _ _ _ _ _ _ _ _ _ _ _ _ _ _ _ _ _ _ _ _ _ _ _ _ _ _ _ _ _ _ _ _ _ _ _ _ _ _ _ _ _ _ _ _ _ _ _ _ _ _ _ _ _ _ _ _ _ _ _ _ _ _ _ _ _ _ _ _ _ _ _ _
            · refine wpOp_doG 9 (by rfl) (by rfl) ?_
              go_wp2_with fail
              have BO := Blk.new wq1 (stC 0 noV nilS) 28
              have hb := below_box wq1 (.cells (stC 0 noV nilS).toArray 28)
              have hq9w : w14.heap.size ≤ wq1.heap.size := HS.size
              obtain ⟨q9, hq9⟩ : ∃ q9, wq1.heap.size = q9 := ⟨_, rfl⟩
              change Blk (wq1.alloc (.cells #[.int .i64 0, .int .i64 0, .int .i64 0, .string ⟨#[]⟩, .int .i64 0, .slice none 0 0] 28)) _ _ _ at BO
              change Below _ wq1 (wq1.alloc (.cells #[.int .i64 0, .int .i64 0, .int .i64 0, .string ⟨#[]⟩, .int .i64 0, .slice none 0 0] 28)) at hb
              generalize wq1.alloc (.cells #[.int .i64 0, .int .i64 0, .int .i64 0, .string ⟨#[]⟩, .int .i64 0, .slice none 0 0] 28) = wq9 at BO hb ⊢
              simp only [hq9] at BO hq9w ⊢
              clear hq9
              refine ⟨HS.later hb, ?_⟩
              replace HS := HS.later hb
              clear hb
              refine wpAnyH_all (rs := [3]) (by kernel_rfl) (by simp) (fun i hi => ?_)
              obtain rfl : i = 3 := by simpa using hi
              refine wpOp_doG 3 (by rfl) (by rfl) ?_
              go_wp2_with fail
              have HV9x := (own_one wq9 wq9.heap.size (Nat.le_refl _) v9).vsl
              have hb := below_box wq9 (.cells (encV v9).toArray 25)
              obtain ⟨q8, hq8⟩ : ∃ q8, wq9.heap.size = q8 := ⟨_, rfl⟩
              change VSl (wq9.alloc (.cells #[.int .i64 v9.1, .int .i64 v9.2.1, .string v9.2.2] 25)) _ _ at HV9x
              change Below _ wq9 (wq9.alloc (.cells #[.int .i64 v9.1, .int .i64 v9.2.1, .string v9.2.2] 25)) at hb
              generalize wq9.alloc (.cells #[.int .i64 v9.1, .int .i64 v9.2.1, .string v9.2.2] 25) = wq10 at HV9x hb ⊢
              simp only [hq8] at HV9x ⊢
              clear hq8
              refine ⟨HS.later hb, ?_⟩
              replace HS := HS.later hb
              replace BO := BO.later hb
              clear hb
              refine wpAnyH_all (rs := [4]) (by kernel_rfl) (by simp) (fun i hi => ?_)
              obtain rfl : i = 4 := by simpa using hi
              refine wpOp_doG 4 (by rfl) (by rfl) ?_
              go_wp2_with fail
              refine (HK.out.yes w.heap.size (vN 1) va LA 4 (.slice (some ⟨q8, 0, none⟩) 1 1) [v9] wq10 (below_next HB.out HS).size (HT.out.later (below_next HB.out HS)) (HSa.out.later HS).l HSA.out HLnA.out HV9x (sz1 _ (by have := HVv.out.2; omega)) (Nat.zero_le _) (may_add HVv.out.1)).mono ?_
              rintro e wq11 ⟨vo, vl9, rfl, -, hl9, -, hb⟩
              rw [nx_add, HAg.out] at hl9
              obtain ⟨al9, cl9, hf9⟩ := hl9.form
              obtain ⟨nl9, hn9⟩ : ∃ nl9, (LA).length = nl9 := ⟨_, rfl⟩
              rw [hn9] at hf9
              subst hf9
              clear hn9
              refine ⟨HS.later hb, ?_⟩
              replace HS := HS.later hb
              replace BO := BO.later hb
              replace HV9x := HV9x.later hb
              clear hb
              clear HV9x
              refine takeH 5 104 (.tuple #[.agg (stC 3 noV (.slice al9 nl9 cl9)).toArray, vo, .bool true]) rfl rfl (by kernel_rfl) (by kernel_rfl) (by kernel_rfl) (fun c a w h => h) (.inl ⟨rfl, fun w _ => rfl⟩) HS ?_
              simp only [List.setIfInBounds_toArray, List.set_cons_zero, List.set_cons_succ]
              refine takeH 6 110 (.agg (stC 3 noV (.slice al9 nl9 cl9)).toArray) rfl rfl (by kernel_rfl) (by kernel_rfl) (by kernel_rfl) (fun c a w h => h) (.inl ⟨rfl, fun w _ => by go_simp⟩) HS ?_
              simp only [List.setIfInBounds_toArray, List.set_cons_zero, List.set_cons_succ]
              refine takeH 7 111 (vo) rfl rfl (by kernel_rfl) (by kernel_rfl) (by kernel_rfl) (fun c a w h => h) (.inl ⟨rfl, fun w _ => by go_simp⟩) HS ?_
              simp only [List.setIfInBounds_toArray, List.set_cons_zero, List.set_cons_succ]
              refine takeH 8 112 (.bool true) rfl rfl (by kernel_rfl) (by kernel_rfl) (by kernel_rfl) (fun c a w h => h) (.inl ⟨rfl, fun w _ => by go_simp⟩) HS ?_
              simp only [List.setIfInBounds_toArray, List.set_cons_zero, List.set_cons_succ]
              refine wpAnyH_all (rs := [10]) (by kernel_rfl) (by simp) (fun i hi => ?_)
              obtain rfl : i = 10 := by simpa using hi
              refine wpOp_doG 10 (by rfl) (by rfl) ?_
              refine wpo_storeB 28 (.tmp 12) (.tmp 110) q9 0 (stC 3 noV (.slice al9 nl9 cl9)) (stC 0 noV nilS) 28 infoSt (show 0 + 6 ≤ 6 by decide) (stC_one _ _ rfl) rfl rfl rfl BO ?_
              intro wq12 BP ho
              replace BP : Blk wq12 q9 (stC 3 noV (.slice al9 nl9 cl9)) 28 := BP
              have HN9 : Hs w wq12 q9 (.slice al9 nl9 cl9) LA := ⟨BP, hl9.oth ho BO (by decide), Nat.le_trans HB.out.size hq9w⟩
              have HS9 : Stay w14 wq12 := below_oth HS ho hq9w hq9w HS.size
              refine ⟨HS9, ?_⟩
              have HS := HS9
              refine takeH 11 13 (vo) rfl rfl (by kernel_rfl) (by kernel_rfl) (by kernel_rfl) (fun c a w h => h) (.inl ⟨rfl, fun w _ => rfl⟩) HS ?_
              simp only [List.setIfInBounds_toArray, List.set_cons_zero, List.set_cons_succ]
              refine takeH 12 14 (.bool true) rfl rfl (by kernel_rfl) (by kernel_rfl) (by kernel_rfl) (fun c a w h => h) (.inl ⟨rfl, fun w _ => rfl⟩) HS ?_
              simp only [List.setIfInBounds_toArray, List.set_cons_zero, List.set_cons_succ]
              refine wpAnyH_done (by kernel_rfl) ?_ _
              show K9 _ _
              try simp only [Act.put, List.getElem_toArray, List.getElem_cons_succ, List.getElem_cons_zero]
              exact HTl22.out wq12 q9 al9 cl9 nl9 HN9 HS9 hq9w _ _ _ _ _ _ _ _ _ _ _ _ _ _ _ _ _ _ _ _ _ _ _ _ _ _ _ _ _ _ _ _ _ _ _ _ _ _ _ _ _ _ _ _ _ _ _ _ _ _ _ _ _ _ _ _ _ _ _ _ _ _ _ _ _ _ _ _ _ _ _ _ _ _ _ _ _ _ _ _ _ _ _ _ _ _ _ _ _ _ _ _ _ _ _ _ _ _ _ _ _ _ _ _ _ _ _ _ _ _ _ _ _ _ _ _ _ _ _ _ _ _ _ _ _ _ _ _ _ _ _ _ _ _ _ _ _ _ _ _ _ _ _ _ _ _ _ _ _ _ _ _ _ _
          · refine wpOp_doG 3 (by rfl) (by rfl) ?_
            go_wp2_with fail
            have HV9x := (own_one n0 n0.heap.size (Nat.le_refl _) v9).vsl
            have hb := below_box n0 (.cells (encV v9).toArray 25)
            obtain ⟨q8, hq8⟩ : ∃ q8, n0.heap.size = q8 := ⟨_, rfl⟩
            change VSl (n0.alloc (.cells #[.int .i64 v9.1, .int .i64 v9.2.1, .string v9.2.2] 25)) _ _ at HV9x
            change Below _ n0 (n0.alloc (.cells #[.int .i64 v9.1, .int .i64 v9.2.1, .string v9.2.2] 25)) at hb
            generalize n0.alloc (.cells #[.int .i64 v9.1, .int .i64 v9.2.1, .string v9.2.2] 25) = wq13 at HV9x hb ⊢
            simp only [hq8] at HV9x ⊢
            clear hq8
            refine ⟨HS.later hb, ?_⟩
            replace HS := HS.later hb
            clear hb
            refine wpAnyH_all (rs := [1, 9]) (by kernel_rfl) (by simp) (fun i hi => ?_)
            simp only [List.mem_cons, List.not_mem_nil, or_false] at hi
            rcases hi with rfl | rfl
            · refine wpOp_doG 1 (by rfl) (by rfl) ?_
              go_wp2_with fail
              refine (num_any 1 wq13).mono ?_
              rintro e wq14 ⟨rfl, hb⟩
              refine ⟨HS.later hb, ?_⟩
              replace HS := HS.later hb
              replace HV9x := HV9x.later hb
              clear hb
              refine wpAnyH_all (rs := [4, 9]) (by kernel_rfl) (by simp) (fun i hi => ?_)
              simp only [List.mem_cons, List.not_mem_nil, or_false] at hi
              rcases hi with rfl | rfl
              · refine wpOp_doG 4 (by rfl) (by rfl) ?_
                go_wp2_with fail
                refine (HK.out.yes w.heap.size (vN 1) va LA 4 (.slice (some ⟨q8, 0, none⟩) 1 1) [v9] wq14 (below_next HB.out HS).size (HT.out.later (below_next HB.out HS)) (HSa.out.later HS).l HSA.out HLnA.out HV9x (sz1 _ (by have := HVv.out.2; omega)) (Nat.zero_le _) (may_add HVv.out.1)).mono ?_
                rintro e wq15 ⟨vo, vl9, rfl, -, hl9, -, hb⟩
                rw [nx_add, HAg.out] at hl9
                obtain ⟨al9, cl9, hf9⟩ := hl9.form
                obtain ⟨nl9, hn9⟩ : ∃ nl9, (LA).length = nl9 := ⟨_, rfl⟩
                rw [hn9] at hf9
                subst hf9
                clear hn9
                refine ⟨HS.later hb, ?_⟩
                replace HS := HS.later hb
                replace HV9x := HV9x.later hb
                clear hb
                clear HV9x
                refine takeH 5 104 (.tuple #[.agg (stC 3 noV (.slice al9 nl9 cl9)).toArray, vo, .bool true]) rfl rfl (by kernel_rfl) (by kernel_rfl) (by kernel_rfl) (fun c a w h => h) (.inl ⟨rfl, fun w _ => rfl⟩) HS ?_
                simp only [List.setIfInBounds_toArray, List.set_cons_zero, List.set_cons_succ]
                refine takeH 6 110 (.agg (stC 3 noV (.slice al9 nl9 cl9)).toArray) rfl rfl (by kernel_rfl) (by kernel_rfl) (by kernel_rfl) (fun c a w h => h) (.inl ⟨rfl, fun w _ => by go_simp⟩) HS ?_
                simp only [List.setIfInBounds_toArray, List.set_cons_zero, List.set_cons_succ]
                refine takeH 7 111 (vo) rfl rfl (by kernel_rfl) (by kernel_rfl) (by kernel_rfl) (fun c a w h => h) (.inl ⟨rfl, fun w _ => by go_simp⟩) HS ?_
                simp only [List.setIfInBounds_toArray, List.set_cons_zero, List.set_cons_succ]
                refine takeH 8 112 (.bool true) rfl rfl (by kernel_rfl) (by kernel_rfl) (by kernel_rfl) (fun c a w h => h) (.inl ⟨rfl, fun w _ => by go_simp⟩) HS ?_
                simp only [List.setIfInBounds_toArray, List.set_cons_zero, List.set_cons_succ]
                refine wpAnyH_all (rs := [9]) (by kernel_rfl) (by simp) (fun i hi => ?_)
                obtain rfl : i = 9 := by simpa using hi
                refine wpOp_doG 9 (by rfl) (by rfl) ?_
                go_wp2_with fail
                have BO := Blk.new wq15 (stC 0 noV nilS) 28
                have hb := below_box wq15 (.cells (stC 0 noV nilS).toArray 28)
                have hq9w : w14.heap.size ≤ wq15.heap.size := HS.size
                obtain ⟨q9, hq9⟩ : ∃ q9, wq15.heap.size = q9 := ⟨_, rfl⟩
                change Blk (wq15.alloc (.cells #[.int .i64 0, .int .i64 0, .int .i64 0, .string ⟨#[]⟩, .int .i64 0, .slice none 0 0] 28)) _ _ _ at BO
                change Below _ wq15 (wq15.alloc (.cells #[.int .i64 0, .int .i64 0, .int .i64 0, .string ⟨#[]⟩, .int .i64 0, .slice none 0 0] 28)) at hb
                generalize wq15.alloc (.cells #[.int .i64 0, .int .i64 0, .int .i64 0, .string ⟨#[]⟩, .int .i64 0, .slice none 0 0] 28) = wq16 at BO hb ⊢
                simp only [hq9] at BO hq9w ⊢
                clear hq9
                refine ⟨HS.later hb, ?_⟩
                replace HS := HS.later hb
                replace hl9 := hl9.later hb
                clear hb
                refine wpAnyH_all (rs := [10]) (by kernel_rfl) (by simp) (fun i hi => ?_)
                obtain rfl : i = 10 := by simpa using hi
                refine wpOp_doG 10 (by rfl) (by rfl) ?_
                refine wpo_storeB 28 (.tmp 12) (.tmp 110) q9 0 (stC 3 noV (.slice al9 nl9 cl9)) (stC 0 noV nilS) 28 infoSt (show 0 + 6 ≤ 6 by decide) (stC_one _ _ rfl) rfl rfl rfl BO ?_
                intro wq17 BP ho
                replace BP : Blk wq17 q9 (stC 3 noV (.slice al9 nl9 cl9)) 28 := BP
                have HN9 : Hs w wq17 q9 (.slice al9 nl9 cl9) LA := ⟨BP, hl9.oth ho BO (by decide), Nat.le_trans HB.out.size hq9w⟩
                have HS9 : Stay w14 wq17 := below_oth HS ho hq9w hq9w HS.size
                refine ⟨HS9, ?_⟩
                have HS := HS9
                refine takeH 11 13 (vo) rfl rfl (by kernel_rfl) (by kernel_rfl) (by kernel_rfl) (fun c a w h => h) (.inl ⟨rfl, fun w _ => rfl⟩) HS ?_
                simp only [List.setIfInBounds_toArray, List.set_cons_zero, List.set_cons_succ]
                refine takeH 12 14 (.bool true) rfl rfl (by kernel_rfl) (by kernel_rfl) (by kernel_rfl) (fun c a w h => h) (.inl ⟨rfl, fun w _ => rfl⟩) HS ?_
                simp only [List.setIfInBounds_toArray, List.set_cons_zero, List.set_cons_succ]
                refine wpAnyH_done (by kernel_rfl) ?_ _
                show K9 _ _
                try simp only [Act.put, List.getElem_toArray, List.getElem_cons_succ, List.getElem_cons_zero]
                exact HTl22.out wq17 q9 al9 cl9 nl9 HN9 HS9 hq9w _ _ _ _ _ _ _ _ _ _ _ _ _ _ _ _ _ _ _ _ _ _ _ _ _ _ _ _ _ _ _ _ _ _ _ _ _ _ _ _ _ _ _ _ _ _ _ _ _ _ _ _ _ _ _ _ _ _ _ _ _ _ _ _ _ _ _ _ _ _ _ _ _ _ _ _ _ _ _ _ _ _ _ _ _ _ _ _ _ _ _ _ _ _ _ _ _ _ _ _ _ _ _ _ _ _ _ _ _ _ _ _ _ _ _ _ _ _ _ _ _ _ _ _ _ _ _ _ _ _ _ _ _ _ _ _ _ _ _ _ _ _ _ _ _ _ _ _ _ _ _ _ _ _
              · refine wpOp_doG 9 (by rfl) (by rfl) ?_
                go_wp2_with fail
                have BO := Blk.new wq14 (stC 0 noV nilS) 28
                have hb := below_box wq14 (.cells (stC 0 noV nilS).toArray 28)
                have hq9w : w14.heap.size ≤ wq14.heap.size := HS.size
                obtain ⟨q9, hq9⟩ : ∃ q9, wq14.heap.size = q9 := ⟨_, rfl⟩
                change Blk (wq14.alloc (.cells #[.int .i64 0, .int .i64 0, .int .i64 0, .string ⟨#[]⟩, .int .i64 0, .slice none 0 0] 28)) _ _ _ at BO
                change Below _ wq14 (wq14.alloc (.cells #[.int .i64 0, .int .i64 0, .int .i64 0, .string ⟨#[]⟩, .int .i64 0, .slice none 0 0] 28)) at hb
                generalize wq14.alloc (.cells #[.int .i64 0, .int .i64 0, .int .i64 0, .string ⟨#[]⟩, .int .i64 0, .slice none 0 0] 28) = wq18 at BO hb ⊢
                simp only [hq9] at BO hq9w ⊢
                clear hq9
                refine ⟨HS.later hb, ?_⟩
                replace HS := HS.later hb
                replace HV9x := HV9x.later hb
                clear hb
                refine wpAnyH_all (rs := [4]) (by kernel_rfl) (by simp) (fun i hi => ?_)
                obtain rfl : i = 4 := by simpa using hi
                refine wpOp_doG 4 (by rfl) (by rfl) ?_
                go_wp2_with fail
                refine (HK.out.yes w.heap.size (vN 1) va LA 4 (.slice (some ⟨q8, 0, none⟩) 1 1) [v9] wq18 (below_next HB.out HS).size (HT.out.later (below_next HB.out HS)) (HSa.out.later HS).l HSA.out HLnA.out HV9x (sz1 _ (by have := HVv.out.2; omega)) (Nat.zero_le _) (may_add HVv.out.1)).mono ?_
                rintro e wq19 ⟨vo, vl9, rfl, -, hl9, -, hb⟩
                rw [nx_add, HAg.out] at hl9
                obtain ⟨al9, cl9, hf9⟩ := hl9.form
                obtain ⟨nl9, hn9⟩ : ∃ nl9, (LA).length = nl9 := ⟨_, rfl⟩
                rw [hn9] at hf9
                subst hf9
                clear hn9
                refine ⟨HS.later hb, ?_⟩
                replace HS := HS.later hb
                replace HV9x := HV9x.later hb
                replace BO := BO.later hb
                clear hb
                clear HV9x
                refine takeH 5 104 (.tuple #[.agg (stC 3 noV (.slice al9 nl9 cl9)).toArray, vo, .bool true]) rfl rfl (by kernel_rfl) (by kernel_rfl) (by kernel_rfl) (fun c a w h => h) (.inl ⟨rfl, fun w _ => rfl⟩) HS ?_
                simp only [List.setIfInBounds_toArray, List.set_cons_zero, List.set_cons_succ]
                refine takeH 6 110 (.agg (stC 3 noV (.slice al9 nl9 cl9)).toArray) rfl rfl (by kernel_rfl) (by kernel_rfl) (by kernel_rfl) (fun c a w h => h) (.inl ⟨rfl, fun w _ => by go_simp⟩) HS ?_
                simp only [List.setIfInBounds_toArray, List.set_cons_zero, List.set_cons_succ]
                refine takeH 7 111 (vo) rfl rfl (by kernel_rfl) (by kernel_rfl) (by kernel_rfl) (fun c a w h => h) (.inl ⟨rfl, fun w _ => by go_simp⟩) HS ?_
                simp only [List.setIfInBounds_toArray, List.set_cons_zero, List.set_cons_succ]
                refine takeH 8 112 (.bool true) rfl rfl (by kernel_rfl) (by kernel_rfl) (by kernel_rfl) (fun c a w h => h) (.inl ⟨rfl, fun w _ => by go_simp⟩) HS ?_
                simp only [List.setIfInBounds_toArray, List.set_cons_zero, List.set_cons_succ]
                refine wpAnyH_all (rs := [10]) (by kernel_rfl) (by simp) (fun i hi => ?_)
                obtain rfl : i = 10 := by simpa using hi
                refine wpOp_doG 10 (by rfl) (by rfl) ?_
                refine wpo_storeB 28 (.tmp 12) (.tmp 110) q9 0 (stC 3 noV (.slice al9 nl9 cl9)) (stC 0 noV nilS) 28 infoSt (show 0 + 6 ≤ 6 by decide) (stC_one _ _ rfl) rfl rfl rfl BO ?_
                intro wq20 BP ho
                replace BP : Blk wq20 q9 (stC 3 noV (.slice al9 nl9 cl9)) 28 := BP
                have HN9 : Hs w wq20 q9 (.slice al9 nl9 cl9) LA := ⟨BP, hl9.oth ho BO (by decide), Nat.le_trans HB.out.size hq9w⟩
                have HS9 : Stay w14 wq20 := below_oth HS ho hq9w hq9w HS.size
                refine ⟨HS9, ?_⟩
                have HS := HS9
                refine takeH 11 13 (vo) rfl rfl (by kernel_rfl) (by kernel_rfl) (by kernel_rfl) (fun c a w h => h) (.inl ⟨rfl, fun w _ => rfl⟩) HS ?_
                simp only [List.setIfInBounds_toArray, List.set_cons_zero, List.set_cons_succ]
                refine takeH 12 14 (.bool true) rfl rfl (by kernel_rfl) (by kernel_rfl) (by kernel_rfl) (fun c a w h => h) (.inl ⟨rfl, fun w _ => rfl⟩) HS ?_
                simp only [List.setIfInBounds_toArray, List.set_cons_zero, List.set_cons_succ]
                refine wpAnyH_done (by kernel_rfl) ?_ _
                show K9 _ _
                try simp only [Act.put, List.getElem_toArray, List.getElem_cons_succ, List.getElem_cons_zero]
                exact HTl22.out wq20 q9 al9 cl9 nl9 HN9 HS9 hq9w _ _ _ _ _ _ _ _ _ _ _ _ _ _ _ _ _ _ _ _ _ _ _ _ _ _ _ _ _ _ _ _ _ _ _ _ _ _ _ _ _ _ _ _ _ _ _ _ _ _ _ _ _ _ _ _ _ _ _ _ _ _ _ _ _ _ _ _ _ _ _ _ _ _ _ _ _ _ _ _ _ _ _ _ _ _ _ _ _ _ _ _ _ _ _ _ _ _ _ _ _ _ _ _ _ _ _ _ _ _ _ _ _ _ _ _ _ _ _ _ _ _ _ _ _ _ _ _ _ _ _ _ _ _ _ _ _ _ _ _ _ _ _ _ _ _ _ _ _ _ _ _ _ _
            · refine wpOp_doG 9 (by rfl) (by rfl) ?_
              go_wp2_with fail
              have BO := Blk.new wq13 (stC 0 noV nilS) 28
              have hb := below_box wq13 (.cells (stC 0 noV nilS).toArray 28)
              have hq9w : w14.heap.size ≤ wq13.heap.size := HS.size
              obtain ⟨q9, hq9⟩ : ∃ q9, wq13.heap.size = q9 := ⟨_, rfl⟩
              change Blk (wq13.alloc (.cells #[.int .i64 0, .int .i64 0, .int .i64 0, .string ⟨#[]⟩, .int .i64 0, .slice none 0 0] 28)) _ _ _ at BO
              change Below _ wq13 (wq13.alloc (.cells #[.int .i64 0, .int .i64 0, .int .i64 0, .string ⟨#[]⟩, .int .i64 0, .slice none 0 0] 28)) at hb
              generalize wq13.alloc (.cells #[.int .i64 0, .int .i64 0, .int .i64 0, .string ⟨#[]⟩, .int .i64 0, .slice none 0 0] 28) = wq21 at BO hb ⊢
              simp only [hq9] at BO hq9w ⊢
              clear hq9
              refine ⟨HS.later hb, ?_⟩
              replace HS := HS.later hb
              replace HV9x := HV9x.later hb
              clear hb
              refine wpAnyH_all (rs := [1]) (by kernel_rfl) (by simp) (fun i hi => ?_)
              obtain rfl : i = 1 := by simpa using hi
              refine wpOp_doG 1 (by rfl) (by rfl) ?_
              go_wp2_with fail
              refine (num_any 1 wq21).mono ?_
              rintro e wq22 ⟨rfl, hb⟩
              refine ⟨HS.later hb, ?_⟩
              replace HS := HS.later hb
              replace HV9x := HV9x.later hb
              replace BO := BO.later hb
              clear hb
              refine wpAnyH_all (rs := [4]) (by kernel_rfl) (by simp) (fun i hi => ?_)
              obtain rfl : i = 4 := by simpa using hi
              refine wpOp_doG 4 (by rfl) (by rfl) ?_
              go_wp2_with fail
              refine (HK.out.yes w.heap.size (vN 1) va LA 4 (.slice (some ⟨q8, 0, none⟩) 1 1) [v9] wq22 (below_next HB.out HS).size (HT.out.later (below_next HB.out HS)) (HSa.out.later HS).l HSA.out HLnA.out HV9x (sz1 _ (by have := HVv.out.2; omega)) (Nat.zero_le _) (may_add HVv.out.1)).mono ?_
              rintro e wq23 ⟨vo, vl9, rfl, -, hl9, -, hb⟩
              rw [nx_add, HAg.out] at hl9
              obtain ⟨al9, cl9, hf9⟩ := hl9.form
              obtain ⟨nl9, hn9⟩ : ∃ nl9, (LA).length = nl9 := ⟨_, rfl⟩
              rw [hn9] at hf9
              subst hf9
              clear hn9
              refine ⟨HS.later hb, ?_⟩
              replace HS := HS.later hb
              replace HV9x := HV9x.later hb
              replace BO := BO.later hb
              clear hb
              clear HV9x
              refine takeH 5 104 (.tuple #[.agg (stC 3 noV (.slice al9 nl9 cl9)).toArray, vo, .bool true]) rfl rfl (by kernel_rfl) (by kernel_rfl) (by kernel_rfl) (fun c a w h => h) (.inl ⟨rfl, fun w _ => rfl⟩) HS ?_
              simp only [List.setIfInBounds_toArray, List.set_cons_zero, List.set_cons_succ]
              refine takeH 6 110 (.agg (stC 3 noV (.slice al9 nl9 cl9)).toArray) rfl rfl (by kernel_rfl) (by kernel_rfl) (by kernel_rfl) (fun c a w h => h) (.inl ⟨rfl, fun w _ => by go_simp⟩) HS ?_
              simp only [List.setIfInBounds_toArray, List.set_cons_zero, List.set_cons_succ]
              refine takeH 7 111 (vo) rfl rfl (by kernel_rfl) (by kernel_rfl) (by kernel_rfl) (fun c a w h => h) (.inl ⟨rfl, fun w _ => by go_simp⟩) HS ?_
              simp only [List.setIfInBounds_toArray, List.set_cons_zero, List.set_cons_succ]
              refine takeH 8 112 (.bool true) rfl rfl (by kernel_rfl) (by kernel_rfl) (by kernel_rfl) (fun c a w h => h) (.inl ⟨rfl, fun w _ => by go_simp⟩) HS ?_
              simp only [List.setIfInBounds_toArray, List.set_cons_zero, List.set_cons_succ]
              refine wpAnyH_all (rs := [10]) (by kernel_rfl) (by simp) (fun i hi => ?_)
              obtain rfl : i = 10 := by simpa using hi
              refine wpOp_doG 10 (by rfl) (by rfl) ?_
              refine wpo_storeB 28 (.tmp 12) (.tmp 110) q9 0 (stC 3 noV (.slice al9 nl9 cl9)) (stC 0 noV nilS) 28 infoSt (show 0 + 6 ≤ 6 by decide) (stC_one _ _ rfl) rfl rfl rfl BO ?_
              intro wq24 BP ho
              replace BP : Blk wq24 q9 (stC 3 noV (.slice al9 nl9 cl9)) 28 := BP
              have HN9 : Hs w wq24 q9 (.slice al9 nl9 cl9) LA := ⟨BP, hl9.oth ho BO (by decide), Nat.le_trans HB.out.size hq9w⟩
              have HS9 : Stay w14 wq24 := below_oth HS ho hq9w hq9w HS.size
              refine ⟨HS9, ?_⟩
              have HS := HS9
              refine takeH 11 13 (vo) rfl rfl (by kernel_rfl) (by kernel_rfl) (by kernel_rfl) (fun c a w h => h) (.inl ⟨rfl, fun w _ => rfl⟩) HS ?_
              simp only [List.setIfInBounds_toArray, List.set_cons_zero, List.set_cons_succ]
              refine takeH 12 14 (.bool true) rfl rfl (by kernel_rfl) (by kernel_rfl) (by kernel_rfl) (fun c a w h => h) (.inl ⟨rfl, fun w _ => rfl⟩) HS ?_
              simp only [List.setIfInBounds_toArray, List.set_cons_zero, List.set_cons_succ]
              refine wpAnyH_done (by kernel_rfl) ?_ _
              show K9 _ _
              try simp only [Act.put, List.getElem_toArray, List.getElem_cons_succ, List.getElem_cons_zero]
              exact HTl22.out wq24 q9 al9 cl9 nl9 HN9 HS9 hq9w _ _ _ _ _ _ _ _ _ _ _ _ _ _ _ _ _ _ _ _ _ _ _ _ _ _ _ _ _ _ _ _ _ _ _ _ _ _ _ _ _ _ _ _ _ _ _ _ _ _ _ _ _ _ _ _ _ _ _ _ _ _ _ _ _ _ _ _ _ _ _ _ _ _ _ _ _ _ _ _ _ _ _ _ _ _ _ _ _ _ _ _ _ _ _ _ _ _ _ _ _ _ _ _ _ _ _ _ _ _ _ _ _ _ _ _ _ _ _ _ _ _ _ _ _ _ _ _ _ _ _ _ _ _ _ _ _ _ _ _ _ _ _ _ _ _ _ _ _ _ _ _ _ _
          · refine wpOp_doG 9 (by rfl) (by rfl) ?_
            go_wp2_with fail
            have BO := Blk.new n0 (stC 0 noV nilS) 28
            have hb := below_box n0 (.cells (stC 0 noV nilS).toArray 28)
            have hq9w : w14.heap.size ≤ n0.heap.size := HS.size
            obtain ⟨q9, hq9⟩ : ∃ q9, n0.heap.size = q9 := ⟨_, rfl⟩
            change Blk (n0.alloc (.cells #[.int .i64 0, .int .i64 0, .int .i64 0, .string ⟨#[]⟩, .int .i64 0, .slice none 0 0] 28)) _ _ _ at BO
            change Below _ n0 (n0.alloc (.cells #[.int .i64 0, .int .i64 0, .int .i64 0, .string ⟨#[]⟩, .int .i64 0, .slice none 0 0] 28)) at hb
            generalize n0.alloc (.cells #[.int .i64 0, .int .i64 0, .int .i64 0, .string ⟨#[]⟩, .int .i64 0, .slice none 0 0] 28) = wq25 at BO hb ⊢
            simp only [hq9] at BO hq9w ⊢
            clear hq9
            refine ⟨HS.later hb, ?_⟩
            replace HS := HS.later hb
            clear hb
            refine wpAnyH_all (rs := [1, 3]) (by kernel_rfl) (by simp) (fun i hi => ?_)
            simp only [List.mem_cons, List.not_mem_nil, or_false] at hi
            rcases hi with rfl | rfl
            · refine wpOp_doG 1 (by rfl) (by rfl) ?_
              go_wp2_with fail
              refine (num_any 1 wq25).mono ?_
              rintro e wq26 ⟨rfl, hb⟩
              refine ⟨HS.later hb, ?_⟩
              replace HS := HS.later hb
              replace BO := BO.later hb
              clear hb
              refine wpAnyH_all (rs := [3]) (by kernel_rfl) (by simp) (fun i hi => ?_)
              obtain rfl : i = 3 := by simpa using hi
              refine wpOp_doG 3 (by rfl) (by rfl) ?_
              go_wp2_with fail
              have HV9x := (own_one wq26 wq26.heap.size (Nat.le_refl _) v9).vsl
              have hb := below_box wq26 (.cells (encV v9).toArray 25)
              obtain ⟨q8, hq8⟩ : ∃ q8, wq26.heap.size = q8 := ⟨_, rfl⟩
              change VSl (wq26.alloc (.cells #[.int .i64 v9.1, .int .i64 v9.2.1, .string v9.2.2] 25)) _ _ at HV9x
              change Below _ wq26 (wq26.alloc (.cells #[.int .i64 v9.1, .int .i64 v9.2.1, .string v9.2.2] 25)) at hb
              generalize wq26.alloc (.cells #[.int .i64 v9.1, .int .i64 v9.2.1, .string v9.2.2] 25) = wq27 at HV9x hb ⊢
              simp only [hq8] at HV9x ⊢
              clear hq8
              refine ⟨HS.later hb, ?_⟩
              replace HS := HS.later hb
              replace BO := BO.later hb
              clear hb
              refine wpAnyH_all (rs := [4]) (by kernel_rfl) (by simp) (fun i hi => ?_)
              obtain rfl : i = 4 := by simpa using hi
              refine wpOp_doG 4 (by rfl) (by rfl) ?_
              go_wp2_with fail
              refine (HK.out.yes w.heap.size (vN 1) va LA 4 (.slice (some ⟨q8, 0, none⟩) 1 1) [v9] wq27 (below_next HB.out HS).size (HT.out.later (below_next HB.out HS)) (HSa.out.later HS).l HSA.out HLnA.out HV9x (sz1 _ (by have := HVv.out.2; omega)) (Nat.zero_le _) (may_add HVv.out.1)).mono ?_
              rintro e wq28 ⟨vo, vl9, rfl, -, hl9, -, hb⟩
              rw [nx_add, HAg.out] at hl9
              obtain ⟨al9, cl9, hf9⟩ := hl9.form
              obtain ⟨nl9, hn9⟩ : ∃ nl9, (LA).length = nl9 := ⟨_, rfl⟩
              rw [hn9] at hf9
              subst hf9
              clear hn9
              refine ⟨HS.later hb, ?_⟩
              replace HS := HS.later hb
              replace BO := BO.later hb
              replace HV9x := HV9x.later hb
              clear hb
              clear HV9x
              refine takeH 5 104 (.tuple #[.agg (stC 3 noV (.slice al9 nl9 cl9)).toArray, vo, .bool true]) rfl rfl (by kernel_rfl) (by kernel_rfl) (by kernel_rfl) (fun c a w h => h) (.inl ⟨rfl, fun w _ => rfl⟩) HS ?_
              simp only [List.setIfInBounds_toArray, List.set_cons_zero, List.set_cons_succ]
              refine takeH 6 110 (.agg (stC 3 noV (.slice al9 nl9 cl9)).toArray) rfl rfl (by kernel_rfl) (by kernel_rfl) (by kernel_rfl) (fun c a w h => h) (.inl ⟨rfl, fun w _ => by go_simp⟩) HS ?_
              simp only [List.setIfInBounds_toArray, List.set_cons_zero, List.set_cons_succ]
              refine takeH 7 111 (vo) rfl rfl (by kernel_rfl) (by kernel_rfl) (by kernel_rfl) (fun c a w h => h) (.inl ⟨rfl, fun w _ => by go_simp⟩) HS ?_
              simp only [List.setIfInBounds_toArray, List.set_cons_zero, List.set_cons_succ]
              refine takeH 8 112 (.bool true) rfl rfl (by kernel_rfl) (by kernel_rfl) (by kernel_rfl) (fun c a w h => h) (.inl ⟨rfl, fun w _ => by go_simp⟩) HS ?_
              simp only [List.setIfInBounds_toArray, List.set_cons_zero, List.set_cons_succ]
              refine wpAnyH_all (rs := [10]) (by kernel_rfl) (by simp) (fun i hi => ?_)
              obtain rfl : i = 10 := by simpa using hi
              refine wpOp_doG 10 (by rfl) (by rfl) ?_
              refine wpo_storeB 28 (.tmp 12) (.tmp 110) q9 0 (stC 3 noV (.slice al9 nl9 cl9)) (stC 0 noV nilS) 28 infoSt (show 0 + 6 ≤ 6 by decide) (stC_one _ _ rfl) rfl rfl rfl BO ?_
              intro wq29 BP ho
              replace BP : Blk wq29 q9 (stC 3 noV (.slice al9 nl9 cl9)) 28 := BP
              have HN9 : Hs w wq29 q9 (.slice al9 nl9 cl9) LA := ⟨BP, hl9.oth ho BO (by decide), Nat.le_trans HB.out.size hq9w⟩
              have HS9 : Stay w14 wq29 := below_oth HS ho hq9w hq9w HS.size
              refine ⟨HS9, ?_⟩
              have HS := HS9
              refine takeH 11 13 (vo) rfl rfl (by kernel_rfl) (by kernel_rfl) (by kernel_rfl) (fun c a w h => h) (.inl ⟨rfl, fun w _ => rfl⟩) HS ?_
              simp only [List.setIfInBounds_toArray, List.set_cons_zero, List.set_cons_succ]
              refine takeH 12 14 (.bool true) rfl rfl (by kernel_rfl) (by kernel_rfl) (by kernel_rfl) (fun c a w h => h) (.inl ⟨rfl, fun w _ => rfl⟩) HS ?_
              simp only [List.setIfInBounds_toArray, List.set_cons_zero, List.set_cons_succ]
              refine wpAnyH_done (by kernel_rfl) ?_ _
              show K9 _ _
              try simp only [Act.put, List.getElem_toArray, List.getElem_cons_succ, List.getElem_cons_zero]
              exact HTl22.out wq29 q9 al9 cl9 nl9 HN9 HS9 hq9w _ _ _ _ _ _ _ _ _ _ _ _ _ _ _ _ _ _ _ _ _ _ _ _ _ _ _ _ _ _ _ _ _ _ _ _ _ _ _ _ _ _ _ _ _ _ _ _ _ _ _ _ _ _ _ _ _ _ _ _ _ _ _ _ _ _ _ _ _ _ _ _ _ _ _ _ _ _ _ _ _ _ _ _ _ _ _ _ _ _ _ _ _ _ _ _ _ _ _ _ _ _ _ _ _ _ _ _ _ _ _ _ _ _ _ _ _ _ _ _ _ _ _ _ _ _ _ _ _ _ _ _ _ _ _ _ _ _ _ _ _ _ _ _ _ _ _ _ _ _ _ _ _ _
            · refine wpOp_doG 3 (by rfl) (by rfl) ?_
              go_wp2_with fail
              have HV9x := (own_one wq25 wq25.heap.size (Nat.le_refl _) v9).vsl
              have hb := below_box wq25 (.cells (encV v9).toArray 25)
              obtain ⟨q8, hq8⟩ : ∃ q8, wq25.heap.size = q8 := ⟨_, rfl⟩
              change VSl (wq25.alloc (.cells #[.int .i64 v9.1, .int .i64 v9.2.1, .string v9.2.2] 25)) _ _ at HV9x
              change Below _ wq25 (wq25.alloc (.cells #[.int .i64 v9.1, .int .i64 v9.2.1, .string v9.2.2] 25)) at hb
              generalize wq25.alloc (.cells #[.int .i64 v9.1, .int .i64 v9.2.1, .string v9.2.2] 25) = wq30 at HV9x hb ⊢
              simp only [hq8] at HV9x ⊢
              clear hq8
              refine ⟨HS.later hb, ?_⟩
              replace HS := HS.later hb
              replace BO := BO.later hb
              clear hb
              refine wpAnyH_all (rs := [1]) (by kernel_rfl) (by simp) (fun i hi => ?_)
              obtain rfl : i = 1 := by simpa using hi
              refine wpOp_doG 1 (by rfl) (by rfl) ?_
              go_wp2_with fail
              refine (num_any 1 wq30).mono ?_
              rintro e wq31 ⟨rfl, hb⟩
              refine ⟨HS.later hb, ?_⟩
              replace HS := HS.later hb
              replace BO := BO.later hb
              replace HV9x := HV9x.later hb
              clear hb
              refine wpAnyH_all (rs := [4]) (by kernel_rfl) (by simp) (fun i hi => ?_)
              obtain rfl : i = 4 := by simpa using hi
              refine wpOp_doG 4 (by rfl) (by rfl) ?_
              go_wp2_with fail
              refine (HK.out.yes w.heap.size (vN 1) va LA 4 (.slice (some ⟨q8, 0, none⟩) 1 1) [v9] wq31 (below_next HB.out HS).size (HT.out.later (below_next HB.out HS)) (HSa.out.later HS).l HSA.out HLnA.out HV9x (sz1 _ (by have := HVv.out.2; omega)) (Nat.zero_le _) (may_add HVv.out.1)).mono ?_
              rintro e wq32 ⟨vo, vl9, rfl, -, hl9, -, hb⟩
              rw [nx_add, HAg.out] at hl9
              obtain ⟨al9, cl9, hf9⟩ := hl9.form
              obtain ⟨nl9, hn9⟩ : ∃ nl9, (LA).length = nl9 := ⟨_, rfl⟩
              rw [hn9] at hf9
              subst hf9
              clear hn9
              refine ⟨HS.later hb, ?_⟩
              replace HS := HS.later hb
              replace BO := BO.later hb
              replace HV9x := HV9x.later hb
              clear hb
              clear HV9x
              refine takeH 5 104 (.tuple #[.agg (stC 3 noV (.slice al9 nl9 cl9)).toArray, vo, .bool true]) rfl rfl (by kernel_rfl) (by kernel_rfl) (by kernel_rfl) (fun c a w h => h) (.inl ⟨rfl, fun w _ => rfl⟩) HS ?_
              simp only [List.setIfInBounds_toArray, List.set_cons_zero, List.set_cons_succ]
              refine takeH 6 110 (.agg (stC 3 noV (.slice al9 nl9 cl9)).toArray) rfl rfl (by kernel_rfl) (by kernel_rfl) (by kernel_rfl) (fun c a w h => h) (.inl ⟨rfl, fun w _ => by go_simp⟩) HS ?_
              simp only [List.setIfInBounds_toArray, List.set_cons_zero, List.set_cons_succ]
              refine takeH 7 111 (vo) rfl rfl (by kernel_rfl) (by kernel_rfl) (by kernel_rfl) (fun c a w h => h) (.inl ⟨rfl, fun w _ => by go_simp⟩) HS ?_
              simp only [List.setIfInBounds_toArray, List.set_cons_zero, List.set_cons_succ]
              refine takeH 8 112 (.bool true) rfl rfl (by kernel_rfl) (by kernel_rfl) (by kernel_rfl) (fun c a w h => h) (.inl ⟨rfl, fun w _ => by go_simp⟩) HS ?_
              simp only [List.setIfInBounds_toArray, List.set_cons_zero, List.set_cons_succ]
              refine wpAnyH_all (rs := [10]) (by kernel_rfl) (by simp) (fun i hi => ?_)
              obtain rfl : i = 10 := by simpa using hi
              refine wpOp_doG 10 (by rfl) (by rfl) ?_
              refine wpo_storeB 28 (.tmp 12) (.tmp 110) q9 0 (stC 3 noV (.slice al9 nl9 cl9)) (stC 0 noV nilS) 28 infoSt (show 0 + 6 ≤ 6 by decide) (stC_one _ _ rfl) rfl rfl rfl BO ?_
              intro wq33 BP ho
              replace BP : Blk wq33 q9 (stC 3 noV (.slice al9 nl9 cl9)) 28 := BP
              have HN9 : Hs w wq33 q9 (.slice al9 nl9 cl9) LA := ⟨BP, hl9.oth ho BO (by decide), Nat.le_trans HB.out.size hq9w⟩
              have HS9 : Stay w14 wq33 := below_oth HS ho hq9w hq9w HS.size
              refine ⟨HS9, ?_⟩
              have HS := HS9
              refine takeH 11 13 (vo) rfl rfl (by kernel_rfl) (by kernel_rfl) (by kernel_rfl) (fun c a w h => h) (.inl ⟨rfl, fun w _ => rfl⟩) HS ?_
              simp only [List.setIfInBounds_toArray, List.set_cons_zero, List.set_cons_succ]
              refine takeH 12 14 (.bool true) rfl rfl (by kernel_rfl) (by kernel_rfl) (by kernel_rfl) (fun c a w h => h) (.inl ⟨rfl, fun w _ => rfl⟩) HS ?_
              simp only [List.setIfInBounds_toArray, List.set_cons_zero, List.set_cons_succ]
              refine wpAnyH_done (by kernel_rfl) ?_ _
              show K9 _ _
              try simp only [Act.put, List.getElem_toArray, List.getElem_cons_succ, List.getElem_cons_zero]
              exact HTl22.out wq33 q9 al9 cl9 nl9 HN9 HS9 hq9w _ _ _ _ _ _ _ _ _ _ _ _ _ _ _ _ _ _ _ _ _ _ _ _ _ _ _ _ _ _ _ _ _ _ _ _ _ _ _ _ _ _ _ _ _ _ _ _ _ _ _ _ _ _ _ _ _ _ _ _ _ _ _ _ _ _ _ _ _ _ _ _ _ _ _ _ _ _ _ _ _ _ _ _ _ _ _ _ _ _ _ _ _ _ _ _ _ _ _ _ _ _ _ _ _ _ _ _ _ _ _ _ _ _ _ _ _ _ _ _ _ _ _ _ _ _ _ _ _ _ _ _ _ _ _ _ _ _ _ _ _ _ _ _ _ _ _ _ _ _ _ _ _ _
end Go.Proofs.YtgiefgmhjcjabaaDoor
