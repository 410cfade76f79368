/- The walk of BagTurns, on what is asked of New and Step. Conditions: the table of signs lies in memory. -/
import Derived.Test.YtgiefgmhjcjabaaDoorGI
import Derived.Test.YtgiefgmhjcjabaaDoorUK
import Derived.OrdersHeld
import Derived.Test.YtgiefgmhjcjabaaDoorGR
namespace Go.Proofs.YtgiefgmhjcjabaaDoor
open Go.RowKit Go.PlainAid Ln Go.Sort
set_option linter.unusedVariables false
set_option linter.unusedSimpArgs false

/-- a state of a set lies here, its list a row that the call owns -/
structure Hs (w wr : World) (z : Nat) (vl : Value) (L : List Val) : Prop where
  s : Blk wr z (stC 3 noV vl) 28
  l : OwnV wr w.heap.size vl L
  z : w.heap.size ≤ z
theorem Hs.later {w wr wn : World} {z : Nat} {vl : Value} {L : List Val} (h : Hs w wr z vl L) (hb : Below wr.heap.size wr wn) : Hs w wn z vl L := ⟨h.s.later hb, h.l.later hb, h.z⟩
theorem Hs.oth {w wr wn : World} {z p : Nat} {vl : Value} {L : List Val} {c : List Value} (h : Hs w wr z vl L) (ho : Oth p p wr wn) (hb : Blk wr p c 28) (hp : z ≠ p) : Hs w wn z vl L := ⟨h.s.oth ho hp hp, h.l.oth ho hb (by decide), h.z⟩
/-- what lay stays -/
def StW (w wx : World) : Prop := Below w.heap.size w wx
theorem StW.later {w wx wy : World} (h : StW w wx) (hb : Below wx.heap.size wx wy) : StW w wy := below_next h hb
theorem may_add {y : Val} (h : nV y = true) : mayD 3 ⟨vN 1, 4, [y]⟩ = true := by
  have e1 : nV (vN 1) = true := by kernel_rfl
  have e2 : fi 3 4 = true := by kernel_rfl
  have e3 : (fr 3 4).inn = [2] := by kernel_rfl
  show (nV (vN 1) && (fi 3 4 && fitsL (fr 3 4).inn [y])) = true
  rw [e1, e2, e3, Bool.true_and, Bool.true_and]
  refine fitsL_all rfl fun i hi => ?_
  have e : i = 0 := by simpa using hi
  subst e
  rw [show nth [2] 0 = 2 from rfl, takesB_n (by decide)]
  exact h
theorem may_del {y : Val} (h : nV y = true) : mayD 3 ⟨vN 1, 5, [y]⟩ = true := by
  have e1 : nV (vN 1) = true := by kernel_rfl
  have e2 : fi 3 5 = true := by kernel_rfl
  have e3 : (fr 3 5).inn = [2] := by kernel_rfl
  show (nV (vN 1) && (fi 3 5 && fitsL (fr 3 5).inn [y])) = true
  rw [e1, e2, e3, Bool.true_and, Bool.true_and]
  refine fitsL_all rfl fun i hi => ?_
  have e : i = 0 := by simpa using hi
  subst e
  rw [show nth [2] 0 = 2 from rfl, takesB_n (by decide)]
  exact h
theorem nx_add (l : List Val) (y : Val) : nxB l ⟨vN 1, 4, [y]⟩ = addB y l := nxB_4 rfl
theorem nx_del (l : List Val) (y : Val) : nxB l ⟨vN 1, 5, [y]⟩ = delB y l := nxB_5 rfl
theorem addAll_len (xs : List Val) : (addAll xs).length ≤ xs.length := by
  refine list_snoc (p := fun xs => (addAll xs).length ≤ xs.length) (Nat.le_refl _) (fun l a ih => ?_) xs
  rw [addAll_snoc, List.length_append]
  have := insL_len1 a (addAll l)
  simp; omega
theorem take_nvT (xs : List Val) (k : Nat) (h : k < xs.length) : xs.take (k + 1) = xs.take k ++ [nv xs k] := by
  rw [List.take_add_one, List.getElem?_eq_getElem h, nv_eq xs k h]; rfl
theorem addK_next {xs : List Val} {k : Nat} (h : k < xs.length) : addAll (xs.take (k + 1)) = addB (nv xs k) (addAll (xs.take k)) := by rw [take_nvT xs k h, addAll_snoc]
theorem turn_len (xs : List Val) (b : Nat) : (turn xs b).length = xs.length := by unfold turn; rw [List.length_map, List.length_range]
theorem turn_nv (xs : List Val) (b k : Nat) (h : k < xs.length) : nv (turn xs b) k = nv xs ((k + b) % xs.length) := by
  rw [nv_eq _ k (by rw [turn_len]; exact h)]
  unfold turn
  rw [List.getElem_map, List.getElem_range]
/-- all that stays while another state is made -/
def Rs (w wr : World) (z7 : Nat) (va : Value) (q9 : Nat) (vc : Value) (LA : List Val) (q11 : Nat) (v9 : Val) : Prop := Hs w wr z7 va LA ∧ Hs w wr q9 vc LA ∧ Blk wr q11 (encV v9) 25
theorem Rs.later {w wr wn : World} {z7 q9 q11 : Nat} {va vc : Value} {LA : List Val} {v9 : Val} (h : Rs w wr z7 va q9 vc LA q11 v9) (hb : Below wr.heap.size wr wn) : Rs w wn z7 va q9 vc LA q11 v9 := ⟨h.1.later hb, h.2.1.later hb, h.2.2.later hb⟩
theorem Rs.oth {w wr wn : World} {z7 q9 q11 p : Nat} {va vc : Value} {LA : List Val} {v9 : Val} {c : List Value} (h : Rs w wr z7 va q9 vc LA q11 v9) (ho : Oth p p wr wn) (hb : Blk wr p c 28) (h1 : z7 ≠ p) (h2 : q9 ≠ p) (h3 : q11 ≠ p) : Rs w wn z7 va q9 vc LA q11 v9 := ⟨h.1.oth ho hb h1, h.2.1.oth ho hb h2, h.2.2.oth ho h3 h3⟩
def S28 (w : World) (q : Nat) (e : Val) (wx : World) : Prop := Below w.heap.size w wx ∧ Blk wx q (encV e) 25
theorem S28.later {w wx wy : World} {q : Nat} {e : Val} (h : S28 w q e wx) (hb : Below wx.heap.size wx wy) : S28 w q e wy := ⟨below_next h.1 hb, h.2.later hb⟩
def L1 (w wr : World) (z : Nat) (L : List Val) : Prop := ∃ vl, Hs w wr z vl L
def L2 (w wr : World) (z : Nat) (La Lb : List Val) : Prop := ∃ va vb, Hs w wr z va La ∧ Hs w wr (z + 1) vb Lb
theorem at_range {w : World} {b o : Nat} {x : Val} (h : At w b o x) : w.rangeAt b o (encV x) := by
  intro j u hj
  rcases j with _ | _ | _ | j
  · simp [encV] at hj; subst hj; exact h.1
  · simp [encV] at hj; subst hj; exact h.2.1
  · simp [encV] at hj; subst hj; exact h.2.2
  · simp [encV] at hj
/-- all but x, of the first k -/
def butK (xs : List Val) (x : Val) (k : Nat) : List Val := (xs.take k).filter fun y => decide (y ≠ x)
theorem butK_next {xs : List Val} {x : Val} {k : Nat} (h : k < xs.length) : butK xs x (k + 1) = if nv xs k = x then butK xs x k else butK xs x k ++ [nv xs k] := by
  unfold butK
  rw [take_nvT xs k h, List.filter_append]
  by_cases e : nv xs k = x
  · rw [if_pos e]; simp [e]
  · rw [if_neg e]; simp [e]
set_option maxRecDepth 100000 in
set_option maxHeartbeats 40000000 in
theorem law_turnsB (K : BagOK) (v : Value) (xs : List Val) (by' : Int) (w : World) (ht : Tb w) (hv : VSl w v xs) (hb0 : 0 ≤ by') (hb1 : by' < 256) : Calls Tryd.prog 5 #[v, .int .u8 by'] w fun e w' => e = .returned (.bool true) ∧ Below w.heap.size w w' := by
  have mixed : Tryd.prog.follows .mixedOrders = true := by kernel_rfl
  obtain ⟨bn, hbn⟩ : ∃ bn : Nat, by' = (bn : Int) := ⟨by'.toNat, by omega⟩
  subst hbn
  have hbn : bn < 256 := by omega
  have HBn : Hid (bn < 256) := hbn
  clear hb0 hb1 hbn
  have HT : Hid (Tb w) := ht
  have HV : Hid (VSl w v xs) := hv
  have HW : Hid (∀ w', Below w.heap.size w w' → Calls Tryd.prog 6 #[] w' fun e w'' => e = .returned (.bool true) ∧ Below w'.heap.size w' w'') := fun w' hb => wakes_anyB K w' (ht.later hb)
  have HK : Hid BagOK := K
  clear ht hv K
  obtain ⟨a, c, rfl, hc1, hc2, _⟩ := HV.out.form
  obtain ⟨n, hn⟩ : ∃ n, xs.length = n := ⟨_, rfl⟩
  have HN : Hid (xs.length = n) := hn
  rw [hn] at hc1 HV ⊢
  clear hn
  by_cases h30 : 30 < n
  · have h30' : (30 : Int) < (n : Int) := by omega
    go_enter Tryd.func5, Tryd.ntmps5
    go_wp2_with (go_at_call 6; refine (HW.out _ (Below.refl _ _)).mono ?_; rintro e w1 ⟨rfl, hb1⟩)
    go_ret
    exact ⟨rfl, hb1⟩
  have h30' : ¬ (30 : Int) < (n : Int) := by omega
  go_enter Tryd.func5, Tryd.ntmps5
  go_wp2_with (go_at_call 6; refine (HW.out _ (Below.refl _ _)).mono ?_; rintro e w1 ⟨rfl, hb1⟩)
  have HB1 : Hid (Below w.heap.size w w1) := hb1
  clear hb1 HW
  -- they are names, their texts short
  go_loopw [29] (fun i wr => ∃ k : Nat, k ≤ n ∧ i = .int .i64 (k : Int) ∧ (∀ j, j < k → nV (nv xs j) = true ∧ (nv xs j).2.2.size ≤ 100) ∧ Below w.heap.size w wr) (fun i wr => n - (intOf i).toNat)
  case atStart => exact ⟨0, by omega, rfl, fun j h => absurd h (Nat.not_lt_zero j), HB1.out⟩
  case round =>
    obtain ⟨k, hk, rfl, hall, hbw⟩ := hrel
    have HA : Hid (∀ j, j < k → nV (nv xs j) = true ∧ (nv xs j).2.2.size ≤ 100) := hall
    have HB : Hid (Below w.heap.size w wr) := hbw
    clear hall hbw HB1
    by_cases hlt : k < n
    · have hlt' : (k : Int) < (n : Int) := by omega
      obtain ⟨b, o, c', hv1, hbl, _, hat⟩ := vsl_first HV.out (by rw [HN.out]; omega)
      injection hv1 with hv1 hv2 hv3
      subst hv1 hv3
      clear hv2
      obtain ⟨c0, c1, c2⟩ := (hat k (by rw [HN.out]; exact hlt)).later hbl HB.out
      obtain ⟨y, hy⟩ : ∃ y, nv xs k = y := ⟨_, rfl⟩
      have HY : Hid (nv xs k = y) := hy
      rw [hy] at c0 c1 c2
      clear hy hat hbl
      have bx := below_box wr (.cells (encV y).toArray 25)
      have HB2 : Hid (Below w.heap.size w (wr.alloc (.cells (encV y).toArray 25))) := below_next HB.out bx
      change Hid (Below _ w (wr.alloc (.cells #[.int .i64 y.1, .int .i64 y.2.1, .string y.2.2] 25))) at HB2
      clear HB bx
      by_cases hsz : 100 < y.2.2.size
      · have hsz' : (100 : Int) < (y.2.2.size : Int) := by omega
        go_wp2
        go_ret
        exact ⟨rfl, HB2.out⟩
      have hsz' : ¬ (100 : Int) < (y.2.2.size : Int) := by omega
      have hNm := fun w => name_any y.1 y.2.1 y.2.2 w (by omega)
      cases hny : nameB y.1 y.2.1 y.2.2
      · rw [hny] at hNm
        go_wp2_with (go_at_call 18; refine (hNm _).mono ?_; rintro e w7 ⟨rfl, hb7⟩)
        go_ret
        exact ⟨rfl, below_next HB2.out hb7⟩
      rw [hny] at hNm
      have HNy : Hid (nV y = true) := hny
      have HSy : Hid (y.2.2.size ≤ 100) := Nat.le_of_not_lt hsz
      clear hny
      go_wp2_with (go_at_call 18; refine (hNm _).mono ?_; rintro e w7 ⟨rfl, hb7⟩)
      go_roundw
      case rel =>
        refine ⟨k + 1, by omega, by go_num, fun j hj => ?_, below_next HB2.out hb7⟩
        by_cases e : j = k
        · subst e; rw [HY.out]; exact ⟨HNy.out, HSy.out⟩
        · exact HA.out j (by omega)
      case measure => simp [intOf]; omega
    · have e : k = n := by omega
      subst e
      have hN := fun w => HK.out.new 3 w
      rw [if_pos (by kernel_rfl), show ownB 3 = true by kernel_rfl] at hN
      simp only [stC, noV] at hN
      go_wp2_with (go_at_call 7; refine (hN _).mono ?_; rintro e w2 ⟨rfl, hb2⟩)
      clear hN
      have hb2' : Below w.heap.size w w2 := below_next HB.out hb2
      have T := two_laid w2 (stC 3 noV nilS) (stC 3 noV nilS) 28 28
      have HB3 : Hid (Below w.heap.size w ((w2.alloc (.cells (stC 3 noV nilS).toArray 28)).alloc (.cells (stC 3 noV nilS).toArray 28))) := below_next hb2' T.2.2
      have HA0 : Hid (Hs w ((w2.alloc (.cells (stC 3 noV nilS).toArray 28)).alloc (.cells (stC 3 noV nilS).toArray 28)) w2.heap.size nilS []) := ⟨T.1, OwnV.nil _ _, hb2'.size⟩
      have HA1 : Hid (Hs w ((w2.alloc (.cells (stC 3 noV nilS).toArray 28)).alloc (.cells (stC 3 noV nilS).toArray 28)) (w2.heap.size + 1) nilS []) := ⟨T.2.1, OwnV.nil _ _, Nat.le_succ_of_le hb2'.size⟩
      change Hid (Below _ w ((w2.alloc (.cells #[.int .i64 3, .int .i64 0, .int .i64 0, .string noB, .int .i64 0, .slice none 0 0] 28)).alloc (.cells #[.int .i64 3, .int .i64 0, .int .i64 0, .string noB, .int .i64 0, .slice none 0 0] 28))) at HB3
      change Hid (Hs w ((w2.alloc (.cells #[.int .i64 3, .int .i64 0, .int .i64 0, .string noB, .int .i64 0, .slice none 0 0] 28)).alloc (.cells #[.int .i64 3, .int .i64 0, .int .i64 0, .string noB, .int .i64 0, .slice none 0 0] 28)) _ _ _) at HA0 HA1
      clear T hb2 hb2' HB
      generalize (w2.alloc (.cells #[.int .i64 3, .int .i64 0, .int .i64 0, .string noB, .int .i64 0, .slice none 0 0] 28)).alloc (.cells #[.int .i64 3, .int .i64 0, .int .i64 0, .string noB, .int .i64 0, .slice none 0 0] 28) = w3 at HB3 HA0 HA1 ⊢
      obtain ⟨z7, hz7⟩ : ∃ z7, w2.heap.size = z7 := ⟨_, rfl⟩
      rw [hz7] at HA0 HA1
      simp only [hz7]
      clear hz7
      go_loopw [50] (fun i wr => ∃ j : Nat, j ≤ k ∧ i = .int .i64 (j : Int) ∧ L2 w wr z7 (addAll (xs.take j)) (addAll ((turn xs bn).take j)) ∧ Below w.heap.size w wr) (fun i wr => k - (intOf i).toNat)
      case atStart => exact ⟨0, by omega, rfl, ⟨nilS, nilS, HA0.out, HA1.out⟩, HB3.out⟩
      case round =>
        obtain ⟨j, hj, rfl, ⟨va, vb, hsa, hsb⟩, hbw⟩ := hrel
        have HSa : Hid (Hs w wr z7 va (addAll (xs.take j))) := hsa
        have HSb : Hid (Hs w wr (z7 + 1) vb (addAll ((turn xs bn).take j))) := hsb
        have HB : Hid (Below w.heap.size w wr) := hbw
        clear hsa hsb hbw HA0 HA1 HB3
        by_cases hlt2 : j < k
        · have hlt2' : (j : Int) < (k : Int) := by omega
          have hjm : (j : Int) + 1 ≤ 9223372036854775807 := by omega
          obtain ⟨b, o, c', hv1, hbl, _, hat⟩ := vsl_first HV.out (by rw [HN.out]; omega)
          injection hv1 with hv1 hv2 hv3
          subst hv1 hv3
          clear hv2
          have HAt : Hid (∀ wx, StW w wx → ∀ i, i < k → wx.rangeAt b (o + i * 3) (encV (nv xs i))) := fun wx hx i hi => at_range ((hat i (by rw [HN.out]; exact hi)).later hbl hx)
          clear hat hbl
          go_wp2_with fail
          rename_i K9 hK9
          have HSz : Hid (∀ i, i < k → nV (nv xs i) = true ∧ (nv xs i).2.2.size ≤ 100) := HA
          have hle : Hid (Below w.heap.size w wr) := HB
          obtain ⟨y, hy⟩ : ∃ y, nv xs j = y := ⟨_, rfl⟩
          have HYs : Hid (nV y = true ∧ y.2.2.size ≤ 100) := by rw [← hy]; exact HA.out j hlt2
          have HEl : Hid (∀ wx, StW w wx → wx.rangeAt b (o + j * 3) (encV y)) := by rw [← hy]; exact fun wx hx => HAt.out wx hx j hlt2
          obtain ⟨La, hLa⟩ : ∃ L, addAll (xs.take j) = L := ⟨_, rfl⟩
          obtain ⟨La9, hLa9⟩ : ∃ L, addAll (xs.take (j + 1)) = L := ⟨_, rfl⟩
          have HNxA : Hid (addB y La = La9) := by show _ = _; rw [← hLa, ← hLa9, ← hy]; exact (addK_next (by rw [HN.out]; exact hlt2)).symm
          have HSrtA : Hid (Srt La) := by rw [← hLa]; exact addAll_srt _
          have HLnA : Hid (La.length ≤ 1000) := by
            have h := addAll_len (xs.take j)
            rw [hLa, List.length_take] at h
            exact (by omega : La.length ≤ 1000)
          obtain ⟨Lb, hLb⟩ : ∃ L, addAll ((turn xs bn).take j) = L := ⟨_, rfl⟩
          have HLa9 : Hid (addAll (xs.take (j + 1)) = La9) := hLa9
          have HLb : Hid (addAll ((turn xs bn).take j) = Lb) := hLb
          obtain ⟨m9, hm9⟩ : ∃ m9, (j + bn) % k = m9 := ⟨_, rfl⟩
          obtain ⟨s6, hs6⟩ : ∃ s6, j + bn = s6 := ⟨_, rfl⟩
          have hm9k : m9 < k := by rw [← hm9]; exact Nat.mod_lt _ (by omega)
          obtain ⟨y2, hy2⟩ : ∃ y2, nv xs m9 = y2 := ⟨_, rfl⟩
          have HYt : Hid (nV y2 = true ∧ y2.2.2.size ≤ 100) := by rw [← hy2]; exact HA.out m9 hm9k
          have HEt : Hid (∀ wx, StW w wx → wx.rangeAt b (o + m9 * 3) (encV y2)) := by rw [← hy2]; exact fun wx hx => HAt.out wx hx m9 hm9k
          obtain ⟨Lb9, hLb9⟩ : ∃ L, addAll ((turn xs bn).take (j + 1)) = L := ⟨_, rfl⟩
          have HLb9 : Hid (addAll ((turn xs bn).take (j + 1)) = Lb9) := hLb9
          have HNxB : Hid (addB y2 Lb = Lb9) := by
            show _ = _
            rw [← hLb, ← hLb9, ← hy2, ← hm9, addK_next (by rw [turn_len, HN.out]; exact hlt2), turn_nv xs bn j (by rw [HN.out]; exact hlt2), HN.out]
          have HSrtB : Hid (Srt Lb) := by rw [← hLb]; exact addAll_srt _
          have HLnB : Hid (Lb.length ≤ 1000) := by
            have h := addAll_len ((turn xs bn).take j)
            rw [hLb, List.length_take, turn_len, HN.out] at h
            exact (by omega : Lb.length ≤ 1000)
          have hs6i : (j : Int) + (bn : Int) = (s6 : Int) := by omega
          have hk0 : ((k : Int) == 0) = false := by simp; omega
          have hmod : (s6 : Int) % (k : Int) = (m9 : Int) := by rw [← hm9, ← hs6]; exact (Int.natCast_emod _ _).symm
          have hmod' : (s6 : Int).tmod (k : Int) = (m9 : Int) := by rw [Int.tmod_eq_emod_of_nonneg (by omega)]; exact hmod
          have hs6b : (s6 : Int) ≤ 9223372036854775807 := by have := HBn.out; omega
          have hm9i : (m9 : Int) < (k : Int) := by omega
          clear hm9 hs6 hy2 hLb9
          rw [hLa] at HSa
          rw [hLb] at HSb
          clear hLa hLa9 hLb hy
          have tail16 : ∀ (w' : World) (al9 : Option Addr) (cl9 nl9 : Nat), Hs w w' z7 (.slice al9 nl9 cl9) La9 → Hs w w' (z7 + 1) vb Lb → StW w w' → ∀ t53 t54 t55 t56 t57 t58 t59 t60 t61 t62 t63 t64 : Value, K9 ⟨#[Value.slice (some ⟨b, o, none⟩) k c, Value.int IntKind.u8 (bn : Int), undef, undef, u4, undef, u6, Value.pointer (some ⟨z7, 0, none⟩), Value.bool true, Value.pointer (some ⟨z7 + 1, 0, none⟩), Value.int IntKind.i64 (j : Int), undef, undef, undef, undef, undef, undef, undef, undef, undef, undef, undef, Value.bool true, Value.bool false, Value.slice (some ⟨b, o, none⟩) k c, Value.int IntKind.i64 (k : Int), Value.bool (decide (30 < (k : Int))), Value.slice (some ⟨b, o, none⟩) k c, Value.int IntKind.i64 (k : Int), Value.int IntKind.i64 (k : Int), Value.bool false, u31, u32, u33, u34, u35, u36, u37, u38, u39, u40, u41, u42, Value.tuple #[Value.agg #[Value.int IntKind.i64 3, Value.int IntKind.i64 0, Value.int IntKind.i64 0, Value.string noB, Value.int IntKind.i64 0, nilS], Value.bool true], Value.tuple #[Value.agg #[Value.int IntKind.i64 3, Value.int IntKind.i64 0, Value.int IntKind.i64 0, Value.string noB, Value.int IntKind.i64 0, nilS], Value.bool true], Value.agg #[Value.int IntKind.i64 3, Value.int IntKind.i64 0, Value.int IntKind.i64 0, Value.string noB, Value.int IntKind.i64 0, nilS], Value.bool true, Value.agg #[Value.int IntKind.i64 3, Value.int IntKind.i64 0, Value.int IntKind.i64 0, Value.string noB, Value.int IntKind.i64 0, Value.slice none 0 0], Value.slice (some ⟨b, o, none⟩) k c, Value.int IntKind.i64 (k : Int), Value.int IntKind.i64 (j : Int), Value.bool true, Value.int IntKind.i64 (j : Int), t53, t54, t55, t56, t57, t58, t59, t60, t61, t62, t63, t64, u65, u66, u67, u68, u69, u70, u71, u72, u73, u74, u75, u76, u77, u78, u79, u80, u81, u82, u83, undef, undef, undef, undef, undef, undef, undef, undef, undef, undef, undef, undef, undef, undef, undef, undef, undef, undef, undef, undef, undef, undef, undef, undef, undef, undef, undef, undef, undef, undef, undef, undef, undef, undef, undef, undef, undef, undef, undef, undef, undef, undef, undef, undef, undef, undef, undef, undef, undef, undef, undef, undef, undef, undef, undef, undef, undef, undef, undef, undef, undef, undef, undef, undef, undef, undef, undef, undef, undef, undef, undef, undef, undef, undef, undef], []⟩ w' := by
            intro w' al9 cl9 nl9 HN9 HO9 HS9 t53 t54 t55 t56 t57 t58 t59 t60 t61 t62 t63 t64
            apply hK9
            clear hK9 K9
            go_wp2_with fail
            rename_i K9 hK9
            obtain ⟨va9, hva9⟩ : ∃ va9, Value.slice al9 nl9 cl9 = va9 := ⟨_, rfl⟩
            rw [hva9] at HN9
            have HZa0 : Hid (Hs w w' z7 va9 La9) := HN9
            have HZb0 : Hid (Hs w w' (z7 + 1) vb Lb) := HO9
            have HS0 : Hid (StW w w') := HS9
            clear hva9 HN9 HO9 HS9
            have tail17 : ∀ (w' : World) (al9 : Option Addr) (cl9 nl9 : Nat), Hs w w' (z7 + 1) (.slice al9 nl9 cl9) Lb9 → Hs w w' z7 va9 La9 → StW w w' → ∀ t65 t66 t67 t68 t69 t70 t71 t72 t73 t74 t75 t76 t77 t78 t79 t80 t81 t82 : Value, K9 ⟨#[Value.slice (some ⟨b, o, none⟩) k c, Value.int IntKind.u8 (bn : Int), undef, undef, u4, undef, u6, Value.pointer (some ⟨z7, 0, none⟩), Value.bool true, Value.pointer (some ⟨z7 + 1, 0, none⟩), Value.int IntKind.i64 (j : Int), undef, undef, undef, undef, undef, undef, undef, undef, undef, undef, undef, Value.bool true, Value.bool false, Value.slice (some ⟨b, o, none⟩) k c, Value.int IntKind.i64 (k : Int), Value.bool (decide (30 < (k : Int))), Value.slice (some ⟨b, o, none⟩) k c, Value.int IntKind.i64 (k : Int), Value.int IntKind.i64 (k : Int), Value.bool false, u31, u32, u33, u34, u35, u36, u37, u38, u39, u40, u41, u42, Value.tuple #[Value.agg #[Value.int IntKind.i64 3, Value.int IntKind.i64 0, Value.int IntKind.i64 0, Value.string noB, Value.int IntKind.i64 0, nilS], Value.bool true], Value.tuple #[Value.agg #[Value.int IntKind.i64 3, Value.int IntKind.i64 0, Value.int IntKind.i64 0, Value.string noB, Value.int IntKind.i64 0, nilS], Value.bool true], Value.agg #[Value.int IntKind.i64 3, Value.int IntKind.i64 0, Value.int IntKind.i64 0, Value.string noB, Value.int IntKind.i64 0, nilS], Value.bool true, Value.agg #[Value.int IntKind.i64 3, Value.int IntKind.i64 0, Value.int IntKind.i64 0, Value.string noB, Value.int IntKind.i64 0, Value.slice none 0 0], Value.slice (some ⟨b, o, none⟩) k c, Value.int IntKind.i64 (k : Int), Value.int IntKind.i64 (j : Int), Value.bool true, Value.int IntKind.i64 (j : Int), t53, t54, t55, t56, t57, t58, t59, t60, t61, t62, t63, t64, t65, t66, t67, t68, t69, t70, t71, t72, t73, t74, t75, t76, t77, t78, t79, t80, t81, t82, u83, undef, undef, undef, undef, undef, undef, undef, undef, undef, undef, undef, undef, undef, undef, undef, undef, undef, undef, undef, undef, undef, undef, undef, undef, undef, undef, undef, undef, undef, undef, undef, undef, undef, undef, undef, undef, undef, undef, undef, undef, undef, undef, undef, undef, undef, undef, undef, undef, undef, undef, undef, undef, undef, undef, undef, undef, undef, undef, undef, undef, undef, undef, undef, undef, undef, undef, undef, undef, undef, undef, undef, undef, undef, undef, undef], []⟩ w' := by
              intro w' al9 cl9 nl9 HN9 HO9 HS9 t65 t66 t67 t68 t69 t70 t71 t72 t73 t74 t75 t76 t77 t78 t79 t80 t81 t82
              apply hK9
              clear hK9 K9
              go_wp2_with fail
              go_roundw
              case rel => exact ⟨j + 1, by omega, by go_num, ⟨_, _, by rw [HLa9.out]; exact HO9, by rw [HLb9.out]; exact HN9⟩, HS9⟩
              case measure => simp [intOf]; omega
            have HTl17 : Hid (∀ (w' : World) (al9 : Option Addr) (cl9 nl9 : Nat), Hs w w' (z7 + 1) (.slice al9 nl9 cl9) Lb9 → Hs w w' z7 va9 La9 → StW w w' → ∀ t65 t66 t67 t68 t69 t70 t71 t72 t73 t74 t75 t76 t77 t78 t79 t80 t81 t82 : Value, K9 ⟨#[Value.slice (some ⟨b, o, none⟩) k c, Value.int IntKind.u8 (bn : Int), undef, undef, u4, undef, u6, Value.pointer (some ⟨z7, 0, none⟩), Value.bool true, Value.pointer (some ⟨z7 + 1, 0, none⟩), Value.int IntKind.i64 (j : Int), undef, undef, undef, undef, undef, undef, undef, undef, undef, undef, undef, Value.bool true, Value.bool false, Value.slice (some ⟨b, o, none⟩) k c, Value.int IntKind.i64 (k : Int), Value.bool (decide (30 < (k : Int))), Value.slice (some ⟨b, o, none⟩) k c, Value.int IntKind.i64 (k : Int), Value.int IntKind.i64 (k : Int), Value.bool false, u31, u32, u33, u34, u35, u36, u37, u38, u39, u40, u41, u42, Value.tuple #[Value.agg #[Value.int IntKind.i64 3, Value.int IntKind.i64 0, Value.int IntKind.i64 0, Value.string noB, Value.int IntKind.i64 0, nilS], Value.bool true], Value.tuple #[Value.agg #[Value.int IntKind.i64 3, Value.int IntKind.i64 0, Value.int IntKind.i64 0, Value.string noB, Value.int IntKind.i64 0, nilS], Value.bool true], Value.agg #[Value.int IntKind.i64 3, Value.int IntKind.i64 0, Value.int IntKind.i64 0, Value.string noB, Value.int IntKind.i64 0, nilS], Value.bool true, Value.agg #[Value.int IntKind.i64 3, Value.int IntKind.i64 0, Value.int IntKind.i64 0, Value.string noB, Value.int IntKind.i64 0, Value.slice none 0 0], Value.slice (some ⟨b, o, none⟩) k c, Value.int IntKind.i64 (k : Int), Value.int IntKind.i64 (j : Int), Value.bool true, Value.int IntKind.i64 (j : Int), t53, t54, t55, t56, t57, t58, t59, t60, t61, t62, t63, t64, t65, t66, t67, t68, t69, t70, t71, t72, t73, t74, t75, t76, t77, t78, t79, t80, t81, t82, u83, undef, undef, undef, undef, undef, undef, undef, undef, undef, undef, undef, undef, undef, undef, undef, undef, undef, undef, undef, undef, undef, undef, undef, undef, undef, undef, undef, undef, undef, undef, undef, undef, undef, undef, undef, undef, undef, undef, undef, undef, undef, undef, undef, undef, undef, undef, undef, undef, undef, undef, undef, undef, undef, undef, undef, undef, undef, undef, undef, undef, undef, undef, undef, undef, undef, undef, undef, undef, undef, undef, undef, undef, undef, undef, undef], []⟩ w') := tail17
            clear tail17 hK9
            obtain ⟨I, hI⟩ : ∃ I : (Nat → Bool) → Act → World → Prop, ∀ L act wx, I L act wx ↔ (fun (L : Nat → Bool) (act : Act) (wx : World) => ∃ (t66 : Value) (t67 : Value) (t68 : Value) (t69 : Value) (t70 : Value) (t71 : Value) (t72 : Value) (t73 : Value) (t74 : Value) (t75 : Value) (t76 : Value) (t77 : Value) (t78 : Value) (t79 : Value) (t65 : Value) (t80 : Value) (t81 : Value) (t82 : Value) (al9 : Option Addr) (cl9 : Nat) (nl9 : Nat) (vo9 : Value) (q9 : Nat), act = ⟨#[Value.slice (some ⟨b, o, none⟩) k c, Value.int IntKind.u8 (bn : Int), undef, undef, u4, undef, u6, Value.pointer (some ⟨z7, 0, none⟩), Value.bool true, Value.pointer (some ⟨z7 + 1, 0, none⟩), Value.int IntKind.i64 (j : Int), undef, undef, undef, undef, undef, undef, undef, undef, undef, undef, undef, Value.bool true, Value.bool false, Value.slice (some ⟨b, o, none⟩) k c, Value.int IntKind.i64 (k : Int), Value.bool (decide (30 < (k : Int))), Value.slice (some ⟨b, o, none⟩) k c, Value.int IntKind.i64 (k : Int), Value.int IntKind.i64 (k : Int), Value.bool false, u31, u32, u33, u34, u35, u36, u37, u38, u39, u40, u41, u42, Value.tuple #[Value.agg #[Value.int IntKind.i64 3, Value.int IntKind.i64 0, Value.int IntKind.i64 0, Value.string noB, Value.int IntKind.i64 0, nilS], Value.bool true], Value.tuple #[Value.agg #[Value.int IntKind.i64 3, Value.int IntKind.i64 0, Value.int IntKind.i64 0, Value.string noB, Value.int IntKind.i64 0, nilS], Value.bool true], Value.agg #[Value.int IntKind.i64 3, Value.int IntKind.i64 0, Value.int IntKind.i64 0, Value.string noB, Value.int IntKind.i64 0, nilS], Value.bool true, Value.agg #[Value.int IntKind.i64 3, Value.int IntKind.i64 0, Value.int IntKind.i64 0, Value.string noB, Value.int IntKind.i64 0, Value.slice none 0 0], Value.slice (some ⟨b, o, none⟩) k c, Value.int IntKind.i64 (k : Int), Value.int IntKind.i64 (j : Int), Value.bool true, Value.int IntKind.i64 (j : Int), t53, t54, t55, t56, t57, t58, t59, t60, t61, t62, t63, t64, t65, t66, t67, t68, t69, t70, t71, t72, t73, t74, t75, t76, t77, t78, t79, t80, t81, t82, u83, undef, undef, undef, undef, undef, undef, undef, undef, undef, undef, undef, undef, undef, undef, undef, undef, undef, undef, undef, undef, undef, undef, undef, undef, undef, undef, undef, undef, undef, undef, undef, undef, undef, undef, undef, undef, undef, undef, undef, undef, undef, undef, undef, undef, undef, undef, undef, undef, undef, undef, undef, undef, undef, undef, undef, undef, undef, undef, undef, undef, undef, undef, undef, undef, undef, undef, undef, undef, undef, undef, undef, undef, undef, undef, undef], []⟩ ∧ Hid (StW w wx) ∧ Hid (L 18 = false → Hs w wx (z7 + 1) vb Lb) ∧ Hid (Hs w wx z7 va9 La9) ∧ Hid (L 0 = true → t66 = .agg #[.int .i64 3, .int .i64 0, .int .i64 0, .string noB, .int .i64 0, vb]) ∧ Hid (L 1 = true → t67 = .agg #[.int .i64 1, .int .i64 1, .string noB]) ∧ Hid (L 2 = true → t68 = .slice (some ⟨b, o, none⟩) k c) ∧ Hid (L 3 = true → t69 = .int .i64 (j : Int)) ∧ Hid (L 4 = true → t70 = .int .u8 (bn : Int)) ∧ Hid (L 5 = true → t71 = .int .i64 (bn : Int)) ∧ Hid (L 6 = true → t72 = .int .i64 (s6 : Int)) ∧ Hid (L 7 = true → t73 = .slice (some ⟨b, o, none⟩) k c) ∧ Hid (L 8 = true → t74 = .int .i64 (k : Int)) ∧ Hid (L 9 = true → t75 = .int .i64 (m9 : Int)) ∧ Hid (L 10 = true → t76 = .pointer (some ⟨b, o + m9 * 3, none⟩)) ∧ Hid (L 11 = true → t77 = .agg #[.int .i64 y2.1, .int .i64 y2.2.1, .string y2.2.2]) ∧ Hid (L 12 = true → ∃ q8 : Nat, t78 = .slice (some ⟨q8, 0, none⟩) 1 1 ∧ OwnV wx w.heap.size t78 [y2]) ∧ Hid (L 13 = true → t79 = .tuple #[.agg (stC 3 noV (.slice al9 nl9 cl9)).toArray, vo9, .bool true] ∧ OwnV wx w.heap.size vo9 [] ∧ OwnV wx w.heap.size (.slice al9 nl9 cl9) Lb9) ∧ Hid (L 14 = true → t65 = .tuple #[.agg (stC 3 noV (.slice al9 nl9 cl9)).toArray, vo9, .bool true]) ∧ Hid (L 15 = true → t80 = .agg (stC 3 noV (.slice al9 nl9 cl9)).toArray) ∧ Hid (L 16 = true → t81 = vo9) ∧ Hid (L 17 = true → t82 = .bool true) ∧ Hid (L 18 = true → Hs w wx (z7 + 1) (.slice al9 nl9 cl9) Lb9)) L act wx := ⟨_, fun _ _ _ => Iff.rfl⟩
            dsimp only at hI
            have HI : Hid (∀ L act wx, I L act wx ↔ _) := hI
            clear hI
            refine wp_region_inv mixed [[], [], [], [], [], [4], [3, 4, 5], [], [7], [3, 4, 5, 6, 7, 8], [2, 3, 4, 5, 6, 7, 8, 9], [2, 3, 4, 5, 6, 7, 8, 9, 10], [2, 3, 4, 5, 6, 7, 8, 9, 10, 11], [0, 1, 2, 3, 4, 5, 6, 7, 8, 9, 10, 11, 12], [0, 1, 2, 3, 4, 5, 6, 7, 8, 9, 10, 11, 12, 13], [0, 1, 2, 3, 4, 5, 6, 7, 8, 9, 10, 11, 12, 13, 14], [0, 1, 2, 3, 4, 5, 6, 7, 8, 9, 10, 11, 12, 13, 14], [0, 1, 2, 3, 4, 5, 6, 7, 8, 9, 10, 11, 12, 13, 14], [0, 1, 2, 3, 4, 5, 6, 7, 8, 9, 10, 11, 12, 13, 14, 15]] (by kernel_rfl) I ?_ ?_ ?_
            · refine (HI.out _ _ _).2 ⟨_, _, _, _, _, _, _, _, _, _, _, _, _, _, _, _, _, _, none, 0, 0, undef, 0, rfl, ?_, ?_, ?_, fun h => Bool.noConfusion h, fun h => Bool.noConfusion h, fun h => Bool.noConfusion h, fun h => Bool.noConfusion h, fun h => Bool.noConfusion h, fun h => Bool.noConfusion h, fun h => Bool.noConfusion h, fun h => Bool.noConfusion h, fun h => Bool.noConfusion h, fun h => Bool.noConfusion h, fun h => Bool.noConfusion h, fun h => Bool.noConfusion h, fun h => Bool.noConfusion h, fun h => Bool.noConfusion h, fun h => Bool.noConfusion h, fun h => Bool.noConfusion h, fun h => Bool.noConfusion h, fun h => Bool.noConfusion h, fun h => Bool.noConfusion h⟩
              · exact below_next (And.intro HS0.out HZb0.out).1 (Stay.drew _)
              · exact fun _ => (And.intro HS0.out HZb0.out).2.later (Stay.drew _)
              · exact HZa0.out.later (Stay.drew _)
            · intro i hi L act wx hIa hLi hcl hanc
              obtain ⟨t66, t67, t68, t69, t70, t71, t72, t73, t74, t75, t76, t77, t78, t79, t65, t80, t81, t82, al9, cl9, nl9, vo9, q9, rfl, HS, E0, E1, F0, F1, F2, F3, F4, F5, F6, F7, F8, F9, F10, F11, F12, F13, F14, F15, F16, F17, F18⟩ := (HI.out _ _ _).1 hIa
              clear hIa
              have hi' : i = 0 ∨ i = 1 ∨ i = 2 ∨ i = 3 ∨ i = 4 ∨ i = 5 ∨ i = 6 ∨ i = 7 ∨ i = 8 ∨ i = 9 ∨ i = 10 ∨ i = 11 ∨ i = 12 ∨ i = 13 ∨ i = 14 ∨ i = 15 ∨ i = 16 ∨ i = 17 ∨ i = 18 := by have hi : i < 19 := hi; omega
              clear hi
              rcases hi' with rfl | rfl | rfl | rfl | rfl | rfl | rfl | rfl | rfl | rfl | rfl | rfl | rfl | rfl | rfl | rfl | rfl | rfl | rfl
              · have hun : L 18 = false := by
                  cases h : L 18
                  · rfl
                  · exact absurd (hcl 18 h 0 (by decide)) (by rw [hLi]; decide)
                have hz := E0.out hun
                refine wpOp_doG 0 (by rfl) (by rfl) ?_
                refine wp_load_mid 28 (.tmp 9) rfl (z7 + 1) 0 rfl (stC 3 noV vb) _ (Blk.all hz.s) Tryd.underlying28 rfl infoSt ?_
                simp only [Act.put, List.setIfInBounds_toArray, List.set_cons_zero, List.set_cons_succ]
                have hb : Below wx.heap.size wx wx := Below.refl _ _
                show I (putL L 0) _ _
                exact (HI.out (putL L 0) _ _).2 ⟨_, _, _, _, _, _, _, _, _, _, _, _, _, _, _, _, _, _, al9, cl9, nl9, vo9, q9, rfl, HS.out.later hb, fun h => (E0.out ((putL_ne (i := 0) (by decide)).symm.trans h)).later hb, E1.out.later hb, fun _ => rfl, fun h => (by first | exact F1.out ((putL_ne (i := 0) (by decide)).symm.trans h) | rfl), fun h => (by first | exact F2.out ((putL_ne (i := 0) (by decide)).symm.trans h) | rfl), fun h => (by first | exact F3.out ((putL_ne (i := 0) (by decide)).symm.trans h) | rfl), fun h => (by first | exact F4.out ((putL_ne (i := 0) (by decide)).symm.trans h) | rfl), fun h => (by first | exact F5.out ((putL_ne (i := 0) (by decide)).symm.trans h) | rfl), fun h => (by first | exact F6.out ((putL_ne (i := 0) (by decide)).symm.trans h) | rfl), fun h => (by first | exact F7.out ((putL_ne (i := 0) (by decide)).symm.trans h) | rfl), fun h => (by first | exact F8.out ((putL_ne (i := 0) (by decide)).symm.trans h) | rfl), fun h => (by first | exact F9.out ((putL_ne (i := 0) (by decide)).symm.trans h) | rfl), fun h => (by first | exact F10.out ((putL_ne (i := 0) (by decide)).symm.trans h) | rfl), fun h => (by first | exact F11.out ((putL_ne (i := 0) (by decide)).symm.trans h) | rfl), fun h => (fun q => q.imp fun _ k => ⟨k.1, k.2.later hb⟩) (F12.out ((putL_ne (i := 0) (by decide)).symm.trans h)), fun h => absurd (hcl 13 ((putL_ne (i := 0) (by decide)).symm.trans h) 0 (by decide)) (by rw [hLi]; decide), fun h => absurd (hcl 14 ((putL_ne (i := 0) (by decide)).symm.trans h) 0 (by decide)) (by rw [hLi]; decide), fun h => absurd (hcl 15 ((putL_ne (i := 0) (by decide)).symm.trans h) 0 (by decide)) (by rw [hLi]; decide), fun h => absurd (hcl 16 ((putL_ne (i := 0) (by decide)).symm.trans h) 0 (by decide)) (by rw [hLi]; decide), fun h => absurd (hcl 17 ((putL_ne (i := 0) (by decide)).symm.trans h) 0 (by decide)) (by rw [hLi]; decide), fun h => absurd (hcl 18 ((putL_ne (i := 0) (by decide)).symm.trans h) 0 (by decide)) (by rw [hLi]; decide)⟩
              · refine wpOp_doG 1 (by rfl) (by rfl) ?_
                go_wp2_with fail
                refine (num_any 1 wx).mono ?_
                rintro e9 wn ⟨rfl, hb⟩
                show I (putL L 1) _ _
                exact (HI.out (putL L 1) _ _).2 ⟨_, _, _, _, _, _, _, _, _, _, _, _, _, _, _, _, _, _, al9, cl9, nl9, vo9, q9, rfl, HS.out.later hb, fun h => (E0.out ((putL_ne (i := 1) (by decide)).symm.trans h)).later hb, E1.out.later hb, fun h => (by first | exact F0.out ((putL_ne (i := 1) (by decide)).symm.trans h) | rfl), fun _ => rfl, fun h => (by first | exact F2.out ((putL_ne (i := 1) (by decide)).symm.trans h) | rfl), fun h => (by first | exact F3.out ((putL_ne (i := 1) (by decide)).symm.trans h) | rfl), fun h => (by first | exact F4.out ((putL_ne (i := 1) (by decide)).symm.trans h) | rfl), fun h => (by first | exact F5.out ((putL_ne (i := 1) (by decide)).symm.trans h) | rfl), fun h => (by first | exact F6.out ((putL_ne (i := 1) (by decide)).symm.trans h) | rfl), fun h => (by first | exact F7.out ((putL_ne (i := 1) (by decide)).symm.trans h) | rfl), fun h => (by first | exact F8.out ((putL_ne (i := 1) (by decide)).symm.trans h) | rfl), fun h => (by first | exact F9.out ((putL_ne (i := 1) (by decide)).symm.trans h) | rfl), fun h => (by first | exact F10.out ((putL_ne (i := 1) (by decide)).symm.trans h) | rfl), fun h => (by first | exact F11.out ((putL_ne (i := 1) (by decide)).symm.trans h) | rfl), fun h => (fun q => q.imp fun _ k => ⟨k.1, k.2.later hb⟩) (F12.out ((putL_ne (i := 1) (by decide)).symm.trans h)), fun h => absurd (hcl 13 ((putL_ne (i := 1) (by decide)).symm.trans h) 1 (by decide)) (by rw [hLi]; decide), fun h => absurd (hcl 14 ((putL_ne (i := 1) (by decide)).symm.trans h) 1 (by decide)) (by rw [hLi]; decide), fun h => absurd (hcl 15 ((putL_ne (i := 1) (by decide)).symm.trans h) 1 (by decide)) (by rw [hLi]; decide), fun h => absurd (hcl 16 ((putL_ne (i := 1) (by decide)).symm.trans h) 1 (by decide)) (by rw [hLi]; decide), fun h => absurd (hcl 17 ((putL_ne (i := 1) (by decide)).symm.trans h) 1 (by decide)) (by rw [hLi]; decide), fun h => absurd (hcl 18 ((putL_ne (i := 1) (by decide)).symm.trans h) 1 (by decide)) (by rw [hLi]; decide)⟩
              · refine YieldsIf.wpOp (S := fun _ => True) (v := .slice (some ⟨b, o, none⟩) k c) (by rfl) (.inl ⟨rfl, fun w _ => rfl⟩) trivial ?_
                simp only [Act.put, List.setIfInBounds_toArray, List.set_cons_zero, List.set_cons_succ]
                have hb : Below wx.heap.size wx wx := Below.refl _ _
                show I (putL L 2) _ _
                exact (HI.out (putL L 2) _ _).2 ⟨_, _, _, _, _, _, _, _, _, _, _, _, _, _, _, _, _, _, al9, cl9, nl9, vo9, q9, rfl, HS.out.later hb, fun h => (E0.out ((putL_ne (i := 2) (by decide)).symm.trans h)).later hb, E1.out.later hb, fun h => (by first | exact F0.out ((putL_ne (i := 2) (by decide)).symm.trans h) | rfl), fun h => (by first | exact F1.out ((putL_ne (i := 2) (by decide)).symm.trans h) | rfl), fun _ => rfl, fun h => (by first | exact F3.out ((putL_ne (i := 2) (by decide)).symm.trans h) | rfl), fun h => (by first | exact F4.out ((putL_ne (i := 2) (by decide)).symm.trans h) | rfl), fun h => (by first | exact F5.out ((putL_ne (i := 2) (by decide)).symm.trans h) | rfl), fun h => (by first | exact F6.out ((putL_ne (i := 2) (by decide)).symm.trans h) | rfl), fun h => (by first | exact F7.out ((putL_ne (i := 2) (by decide)).symm.trans h) | rfl), fun h => (by first | exact F8.out ((putL_ne (i := 2) (by decide)).symm.trans h) | rfl), fun h => (by first | exact F9.out ((putL_ne (i := 2) (by decide)).symm.trans h) | rfl), fun h => absurd (hcl 10 ((putL_ne (i := 2) (by decide)).symm.trans h) 2 (by decide)) (by rw [hLi]; decide), fun h => absurd (hcl 11 ((putL_ne (i := 2) (by decide)).symm.trans h) 2 (by decide)) (by rw [hLi]; decide), fun h => absurd (hcl 12 ((putL_ne (i := 2) (by decide)).symm.trans h) 2 (by decide)) (by rw [hLi]; decide), fun h => absurd (hcl 13 ((putL_ne (i := 2) (by decide)).symm.trans h) 2 (by decide)) (by rw [hLi]; decide), fun h => absurd (hcl 14 ((putL_ne (i := 2) (by decide)).symm.trans h) 2 (by decide)) (by rw [hLi]; decide), fun h => absurd (hcl 15 ((putL_ne (i := 2) (by decide)).symm.trans h) 2 (by decide)) (by rw [hLi]; decide), fun h => absurd (hcl 16 ((putL_ne (i := 2) (by decide)).symm.trans h) 2 (by decide)) (by rw [hLi]; decide), fun h => absurd (hcl 17 ((putL_ne (i := 2) (by decide)).symm.trans h) 2 (by decide)) (by rw [hLi]; decide), fun h => absurd (hcl 18 ((putL_ne (i := 2) (by decide)).symm.trans h) 2 (by decide)) (by rw [hLi]; decide)⟩
              · refine YieldsIf.wpOp (S := fun _ => True) (v := .int .i64 (j : Int)) (by rfl) (.inl ⟨rfl, fun w _ => rfl⟩) trivial ?_
                simp only [Act.put, List.setIfInBounds_toArray, List.set_cons_zero, List.set_cons_succ]
                have hb : Below wx.heap.size wx wx := Below.refl _ _
                show I (putL L 3) _ _
                exact (HI.out (putL L 3) _ _).2 ⟨_, _, _, _, _, _, _, _, _, _, _, _, _, _, _, _, _, _, al9, cl9, nl9, vo9, q9, rfl, HS.out.later hb, fun h => (E0.out ((putL_ne (i := 3) (by decide)).symm.trans h)).later hb, E1.out.later hb, fun h => (by first | exact F0.out ((putL_ne (i := 3) (by decide)).symm.trans h) | rfl), fun h => (by first | exact F1.out ((putL_ne (i := 3) (by decide)).symm.trans h) | rfl), fun h => (by first | exact F2.out ((putL_ne (i := 3) (by decide)).symm.trans h) | rfl), fun _ => rfl, fun h => (by first | exact F4.out ((putL_ne (i := 3) (by decide)).symm.trans h) | rfl), fun h => (by first | exact F5.out ((putL_ne (i := 3) (by decide)).symm.trans h) | rfl), fun h => absurd (hcl 6 ((putL_ne (i := 3) (by decide)).symm.trans h) 3 (by decide)) (by rw [hLi]; decide), fun h => (by first | exact F7.out ((putL_ne (i := 3) (by decide)).symm.trans h) | rfl), fun h => (by first | exact F8.out ((putL_ne (i := 3) (by decide)).symm.trans h) | rfl), fun h => absurd (hcl 9 ((putL_ne (i := 3) (by decide)).symm.trans h) 3 (by decide)) (by rw [hLi]; decide), fun h => absurd (hcl 10 ((putL_ne (i := 3) (by decide)).symm.trans h) 3 (by decide)) (by rw [hLi]; decide), fun h => absurd (hcl 11 ((putL_ne (i := 3) (by decide)).symm.trans h) 3 (by decide)) (by rw [hLi]; decide), fun h => absurd (hcl 12 ((putL_ne (i := 3) (by decide)).symm.trans h) 3 (by decide)) (by rw [hLi]; decide), fun h => absurd (hcl 13 ((putL_ne (i := 3) (by decide)).symm.trans h) 3 (by decide)) (by rw [hLi]; decide), fun h => absurd (hcl 14 ((putL_ne (i := 3) (by decide)).symm.trans h) 3 (by decide)) (by rw [hLi]; decide), fun h => absurd (hcl 15 ((putL_ne (i := 3) (by decide)).symm.trans h) 3 (by decide)) (by rw [hLi]; decide), fun h => absurd (hcl 16 ((putL_ne (i := 3) (by decide)).symm.trans h) 3 (by decide)) (by rw [hLi]; decide), fun h => absurd (hcl 17 ((putL_ne (i := 3) (by decide)).symm.trans h) 3 (by decide)) (by rw [hLi]; decide), fun h => absurd (hcl 18 ((putL_ne (i := 3) (by decide)).symm.trans h) 3 (by decide)) (by rw [hLi]; decide)⟩
              · refine YieldsIf.wpOp (S := fun _ => True) (v := .int .u8 (bn : Int)) (by rfl) (.inl ⟨rfl, fun w _ => rfl⟩) trivial ?_
                simp only [Act.put, List.setIfInBounds_toArray, List.set_cons_zero, List.set_cons_succ]
                have hb : Below wx.heap.size wx wx := Below.refl _ _
                show I (putL L 4) _ _
                exact (HI.out (putL L 4) _ _).2 ⟨_, _, _, _, _, _, _, _, _, _, _, _, _, _, _, _, _, _, al9, cl9, nl9, vo9, q9, rfl, HS.out.later hb, fun h => (E0.out ((putL_ne (i := 4) (by decide)).symm.trans h)).later hb, E1.out.later hb, fun h => (by first | exact F0.out ((putL_ne (i := 4) (by decide)).symm.trans h) | rfl), fun h => (by first | exact F1.out ((putL_ne (i := 4) (by decide)).symm.trans h) | rfl), fun h => (by first | exact F2.out ((putL_ne (i := 4) (by decide)).symm.trans h) | rfl), fun h => (by first | exact F3.out ((putL_ne (i := 4) (by decide)).symm.trans h) | rfl), fun _ => rfl, fun h => absurd (hcl 5 ((putL_ne (i := 4) (by decide)).symm.trans h) 4 (by decide)) (by rw [hLi]; decide), fun h => absurd (hcl 6 ((putL_ne (i := 4) (by decide)).symm.trans h) 4 (by decide)) (by rw [hLi]; decide), fun h => (by first | exact F7.out ((putL_ne (i := 4) (by decide)).symm.trans h) | rfl), fun h => (by first | exact F8.out ((putL_ne (i := 4) (by decide)).symm.trans h) | rfl), fun h => absurd (hcl 9 ((putL_ne (i := 4) (by decide)).symm.trans h) 4 (by decide)) (by rw [hLi]; decide), fun h => absurd (hcl 10 ((putL_ne (i := 4) (by decide)).symm.trans h) 4 (by decide)) (by rw [hLi]; decide), fun h => absurd (hcl 11 ((putL_ne (i := 4) (by decide)).symm.trans h) 4 (by decide)) (by rw [hLi]; decide), fun h => absurd (hcl 12 ((putL_ne (i := 4) (by decide)).symm.trans h) 4 (by decide)) (by rw [hLi]; decide), fun h => absurd (hcl 13 ((putL_ne (i := 4) (by decide)).symm.trans h) 4 (by decide)) (by rw [hLi]; decide), fun h => absurd (hcl 14 ((putL_ne (i := 4) (by decide)).symm.trans h) 4 (by decide)) (by rw [hLi]; decide), fun h => absurd (hcl 15 ((putL_ne (i := 4) (by decide)).symm.trans h) 4 (by decide)) (by rw [hLi]; decide), fun h => absurd (hcl 16 ((putL_ne (i := 4) (by decide)).symm.trans h) 4 (by decide)) (by rw [hLi]; decide), fun h => absurd (hcl 17 ((putL_ne (i := 4) (by decide)).symm.trans h) 4 (by decide)) (by rw [hLi]; decide), fun h => absurd (hcl 18 ((putL_ne (i := 4) (by decide)).symm.trans h) 4 (by decide)) (by rw [hLi]; decide)⟩
              · have f4 := F4.out (hanc 4 (by decide))
                have g4 := f4
                subst g4
                refine YieldsIf.wpOp (S := fun _ => True) (v := .int .i64 (bn : Int)) (by rfl) (.inl ⟨rfl, fun w _ => (by go_simp; exact IntWalk.i64_in _ ⟨by omega, by have := HBn.out; omega⟩)⟩) trivial ?_
                simp only [Act.put, List.setIfInBounds_toArray, List.set_cons_zero, List.set_cons_succ]
                have hb : Below wx.heap.size wx wx := Below.refl _ _
                show I (putL L 5) _ _
                exact (HI.out (putL L 5) _ _).2 ⟨_, _, _, _, _, _, _, _, _, _, _, _, _, _, _, _, _, _, al9, cl9, nl9, vo9, q9, rfl, HS.out.later hb, fun h => (E0.out ((putL_ne (i := 5) (by decide)).symm.trans h)).later hb, E1.out.later hb, fun h => (by first | exact F0.out ((putL_ne (i := 5) (by decide)).symm.trans h) | rfl), fun h => (by first | exact F1.out ((putL_ne (i := 5) (by decide)).symm.trans h) | rfl), fun h => (by first | exact F2.out ((putL_ne (i := 5) (by decide)).symm.trans h) | rfl), fun h => (by first | exact F3.out ((putL_ne (i := 5) (by decide)).symm.trans h) | rfl), fun h => (by first | exact F4.out ((putL_ne (i := 5) (by decide)).symm.trans h) | rfl), fun _ => rfl, fun h => absurd (hcl 6 ((putL_ne (i := 5) (by decide)).symm.trans h) 5 (by decide)) (by rw [hLi]; decide), fun h => (by first | exact F7.out ((putL_ne (i := 5) (by decide)).symm.trans h) | rfl), fun h => (by first | exact F8.out ((putL_ne (i := 5) (by decide)).symm.trans h) | rfl), fun h => absurd (hcl 9 ((putL_ne (i := 5) (by decide)).symm.trans h) 5 (by decide)) (by rw [hLi]; decide), fun h => absurd (hcl 10 ((putL_ne (i := 5) (by decide)).symm.trans h) 5 (by decide)) (by rw [hLi]; decide), fun h => absurd (hcl 11 ((putL_ne (i := 5) (by decide)).symm.trans h) 5 (by decide)) (by rw [hLi]; decide), fun h => absurd (hcl 12 ((putL_ne (i := 5) (by decide)).symm.trans h) 5 (by decide)) (by rw [hLi]; decide), fun h => absurd (hcl 13 ((putL_ne (i := 5) (by decide)).symm.trans h) 5 (by decide)) (by rw [hLi]; decide), fun h => absurd (hcl 14 ((putL_ne (i := 5) (by decide)).symm.trans h) 5 (by decide)) (by rw [hLi]; decide), fun h => absurd (hcl 15 ((putL_ne (i := 5) (by decide)).symm.trans h) 5 (by decide)) (by rw [hLi]; decide), fun h => absurd (hcl 16 ((putL_ne (i := 5) (by decide)).symm.trans h) 5 (by decide)) (by rw [hLi]; decide), fun h => absurd (hcl 17 ((putL_ne (i := 5) (by decide)).symm.trans h) 5 (by decide)) (by rw [hLi]; decide), fun h => absurd (hcl 18 ((putL_ne (i := 5) (by decide)).symm.trans h) 5 (by decide)) (by rw [hLi]; decide)⟩
              · have f3 := F3.out (hanc 3 (by decide))
                have f4 := F4.out (hanc 4 (by decide))
                have f5 := F5.out (hanc 5 (by decide))
                have g3 := f3
                subst g3
                have g5 := f5
                subst g5
                refine YieldsIf.wpOp (S := fun _ => True) (v := .int .i64 (s6 : Int)) (by rfl) (.inl ⟨rfl, fun w _ => (by go_simp; exact IntWalk.i64_in _ ⟨by omega, hs6b⟩)⟩) trivial ?_
                simp only [Act.put, List.setIfInBounds_toArray, List.set_cons_zero, List.set_cons_succ]
                have hb : Below wx.heap.size wx wx := Below.refl _ _
                show I (putL L 6) _ _
                exact (HI.out (putL L 6) _ _).2 ⟨_, _, _, _, _, _, _, _, _, _, _, _, _, _, _, _, _, _, al9, cl9, nl9, vo9, q9, rfl, HS.out.later hb, fun h => (E0.out ((putL_ne (i := 6) (by decide)).symm.trans h)).later hb, E1.out.later hb, fun h => (by first | exact F0.out ((putL_ne (i := 6) (by decide)).symm.trans h) | rfl), fun h => (by first | exact F1.out ((putL_ne (i := 6) (by decide)).symm.trans h) | rfl), fun h => (by first | exact F2.out ((putL_ne (i := 6) (by decide)).symm.trans h) | rfl), fun h => (by first | exact F3.out ((putL_ne (i := 6) (by decide)).symm.trans h) | rfl), fun h => (by first | exact F4.out ((putL_ne (i := 6) (by decide)).symm.trans h) | rfl), fun h => (by first | exact F5.out ((putL_ne (i := 6) (by decide)).symm.trans h) | rfl), fun _ => rfl, fun h => (by first | exact F7.out ((putL_ne (i := 6) (by decide)).symm.trans h) | rfl), fun h => (by first | exact F8.out ((putL_ne (i := 6) (by decide)).symm.trans h) | rfl), fun h => absurd (hcl 9 ((putL_ne (i := 6) (by decide)).symm.trans h) 6 (by decide)) (by rw [hLi]; decide), fun h => absurd (hcl 10 ((putL_ne (i := 6) (by decide)).symm.trans h) 6 (by decide)) (by rw [hLi]; decide), fun h => absurd (hcl 11 ((putL_ne (i := 6) (by decide)).symm.trans h) 6 (by decide)) (by rw [hLi]; decide), fun h => absurd (hcl 12 ((putL_ne (i := 6) (by decide)).symm.trans h) 6 (by decide)) (by rw [hLi]; decide), fun h => absurd (hcl 13 ((putL_ne (i := 6) (by decide)).symm.trans h) 6 (by decide)) (by rw [hLi]; decide), fun h => absurd (hcl 14 ((putL_ne (i := 6) (by decide)).symm.trans h) 6 (by decide)) (by rw [hLi]; decide), fun h => absurd (hcl 15 ((putL_ne (i := 6) (by decide)).symm.trans h) 6 (by decide)) (by rw [hLi]; decide), fun h => absurd (hcl 16 ((putL_ne (i := 6) (by decide)).symm.trans h) 6 (by decide)) (by rw [hLi]; decide), fun h => absurd (hcl 17 ((putL_ne (i := 6) (by decide)).symm.trans h) 6 (by decide)) (by rw [hLi]; decide), fun h => absurd (hcl 18 ((putL_ne (i := 6) (by decide)).symm.trans h) 6 (by decide)) (by rw [hLi]; decide)⟩
              · refine YieldsIf.wpOp (S := fun _ => True) (v := .slice (some ⟨b, o, none⟩) k c) (by rfl) (.inl ⟨rfl, fun w _ => rfl⟩) trivial ?_
                simp only [Act.put, List.setIfInBounds_toArray, List.set_cons_zero, List.set_cons_succ]
                have hb : Below wx.heap.size wx wx := Below.refl _ _
                show I (putL L 7) _ _
                exact (HI.out (putL L 7) _ _).2 ⟨_, _, _, _, _, _, _, _, _, _, _, _, _, _, _, _, _, _, al9, cl9, nl9, vo9, q9, rfl, HS.out.later hb, fun h => (E0.out ((putL_ne (i := 7) (by decide)).symm.trans h)).later hb, E1.out.later hb, fun h => (by first | exact F0.out ((putL_ne (i := 7) (by decide)).symm.trans h) | rfl), fun h => (by first | exact F1.out ((putL_ne (i := 7) (by decide)).symm.trans h) | rfl), fun h => (by first | exact F2.out ((putL_ne (i := 7) (by decide)).symm.trans h) | rfl), fun h => (by first | exact F3.out ((putL_ne (i := 7) (by decide)).symm.trans h) | rfl), fun h => (by first | exact F4.out ((putL_ne (i := 7) (by decide)).symm.trans h) | rfl), fun h => (by first | exact F5.out ((putL_ne (i := 7) (by decide)).symm.trans h) | rfl), fun h => (by first | exact F6.out ((putL_ne (i := 7) (by decide)).symm.trans h) | rfl), fun _ => rfl, fun h => absurd (hcl 8 ((putL_ne (i := 7) (by decide)).symm.trans h) 7 (by decide)) (by rw [hLi]; decide), fun h => absurd (hcl 9 ((putL_ne (i := 7) (by decide)).symm.trans h) 7 (by decide)) (by rw [hLi]; decide), fun h => absurd (hcl 10 ((putL_ne (i := 7) (by decide)).symm.trans h) 7 (by decide)) (by rw [hLi]; decide), fun h => absurd (hcl 11 ((putL_ne (i := 7) (by decide)).symm.trans h) 7 (by decide)) (by rw [hLi]; decide), fun h => absurd (hcl 12 ((putL_ne (i := 7) (by decide)).symm.trans h) 7 (by decide)) (by rw [hLi]; decide), fun h => absurd (hcl 13 ((putL_ne (i := 7) (by decide)).symm.trans h) 7 (by decide)) (by rw [hLi]; decide), fun h => absurd (hcl 14 ((putL_ne (i := 7) (by decide)).symm.trans h) 7 (by decide)) (by rw [hLi]; decide), fun h => absurd (hcl 15 ((putL_ne (i := 7) (by decide)).symm.trans h) 7 (by decide)) (by rw [hLi]; decide), fun h => absurd (hcl 16 ((putL_ne (i := 7) (by decide)).symm.trans h) 7 (by decide)) (by rw [hLi]; decide), fun h => absurd (hcl 17 ((putL_ne (i := 7) (by decide)).symm.trans h) 7 (by decide)) (by rw [hLi]; decide), fun h => absurd (hcl 18 ((putL_ne (i := 7) (by decide)).symm.trans h) 7 (by decide)) (by rw [hLi]; decide)⟩
              · have f7 := F7.out (hanc 7 (by decide))
                have g7 := f7
                subst g7
                refine YieldsIf.wpOp (S := fun _ => True) (v := .int .i64 (k : Int)) (by rfl) (.inl ⟨rfl, fun w _ => by go_simp⟩) trivial ?_
                simp only [Act.put, List.setIfInBounds_toArray, List.set_cons_zero, List.set_cons_succ]
                have hb : Below wx.heap.size wx wx := Below.refl _ _
                show I (putL L 8) _ _
                exact (HI.out (putL L 8) _ _).2 ⟨_, _, _, _, _, _, _, _, _, _, _, _, _, _, _, _, _, _, al9, cl9, nl9, vo9, q9, rfl, HS.out.later hb, fun h => (E0.out ((putL_ne (i := 8) (by decide)).symm.trans h)).later hb, E1.out.later hb, fun h => (by first | exact F0.out ((putL_ne (i := 8) (by decide)).symm.trans h) | rfl), fun h => (by first | exact F1.out ((putL_ne (i := 8) (by decide)).symm.trans h) | rfl), fun h => (by first | exact F2.out ((putL_ne (i := 8) (by decide)).symm.trans h) | rfl), fun h => (by first | exact F3.out ((putL_ne (i := 8) (by decide)).symm.trans h) | rfl), fun h => (by first | exact F4.out ((putL_ne (i := 8) (by decide)).symm.trans h) | rfl), fun h => (by first | exact F5.out ((putL_ne (i := 8) (by decide)).symm.trans h) | rfl), fun h => (by first | exact F6.out ((putL_ne (i := 8) (by decide)).symm.trans h) | rfl), fun h => (by first | exact F7.out ((putL_ne (i := 8) (by decide)).symm.trans h) | rfl), fun _ => rfl, fun h => absurd (hcl 9 ((putL_ne (i := 8) (by decide)).symm.trans h) 8 (by decide)) (by rw [hLi]; decide), fun h => absurd (hcl 10 ((putL_ne (i := 8) (by decide)).symm.trans h) 8 (by decide)) (by rw [hLi]; decide), fun h => absurd (hcl 11 ((putL_ne (i := 8) (by decide)).symm.trans h) 8 (by decide)) (by rw [hLi]; decide), fun h => absurd (hcl 12 ((putL_ne (i := 8) (by decide)).symm.trans h) 8 (by decide)) (by rw [hLi]; decide), fun h => absurd (hcl 13 ((putL_ne (i := 8) (by decide)).symm.trans h) 8 (by decide)) (by rw [hLi]; decide), fun h => absurd (hcl 14 ((putL_ne (i := 8) (by decide)).symm.trans h) 8 (by decide)) (by rw [hLi]; decide), fun h => absurd (hcl 15 ((putL_ne (i := 8) (by decide)).symm.trans h) 8 (by decide)) (by rw [hLi]; decide), fun h => absurd (hcl 16 ((putL_ne (i := 8) (by decide)).symm.trans h) 8 (by decide)) (by rw [hLi]; decide), fun h => absurd (hcl 17 ((putL_ne (i := 8) (by decide)).symm.trans h) 8 (by decide)) (by rw [hLi]; decide), fun h => absurd (hcl 18 ((putL_ne (i := 8) (by decide)).symm.trans h) 8 (by decide)) (by rw [hLi]; decide)⟩
              · have f3 := F3.out (hanc 3 (by decide))
                have f4 := F4.out (hanc 4 (by decide))
                have f5 := F5.out (hanc 5 (by decide))
                have f6 := F6.out (hanc 6 (by decide))
                have f7 := F7.out (hanc 7 (by decide))
                have f8 := F8.out (hanc 8 (by decide))
                have g6 := f6
                subst g6
                have g8 := f8
                subst g8
                refine YieldsIf.wpOp (S := fun _ => True) (v := .int .i64 (m9 : Int)) (by rfl) (.inl ⟨rfl, fun w _ => (by go_simp; omega)⟩) trivial ?_
                simp only [Act.put, List.setIfInBounds_toArray, List.set_cons_zero, List.set_cons_succ]
                have hb : Below wx.heap.size wx wx := Below.refl _ _
                show I (putL L 9) _ _
                exact (HI.out (putL L 9) _ _).2 ⟨_, _, _, _, _, _, _, _, _, _, _, _, _, _, _, _, _, _, al9, cl9, nl9, vo9, q9, rfl, HS.out.later hb, fun h => (E0.out ((putL_ne (i := 9) (by decide)).symm.trans h)).later hb, E1.out.later hb, fun h => (by first | exact F0.out ((putL_ne (i := 9) (by decide)).symm.trans h) | rfl), fun h => (by first | exact F1.out ((putL_ne (i := 9) (by decide)).symm.trans h) | rfl), fun h => (by first | exact F2.out ((putL_ne (i := 9) (by decide)).symm.trans h) | rfl), fun h => (by first | exact F3.out ((putL_ne (i := 9) (by decide)).symm.trans h) | rfl), fun h => (by first | exact F4.out ((putL_ne (i := 9) (by decide)).symm.trans h) | rfl), fun h => (by first | exact F5.out ((putL_ne (i := 9) (by decide)).symm.trans h) | rfl), fun h => (by first | exact F6.out ((putL_ne (i := 9) (by decide)).symm.trans h) | rfl), fun h => (by first | exact F7.out ((putL_ne (i := 9) (by decide)).symm.trans h) | rfl), fun h => (by first | exact F8.out ((putL_ne (i := 9) (by decide)).symm.trans h) | rfl), fun _ => rfl, fun h => absurd (hcl 10 ((putL_ne (i := 9) (by decide)).symm.trans h) 9 (by decide)) (by rw [hLi]; decide), fun h => absurd (hcl 11 ((putL_ne (i := 9) (by decide)).symm.trans h) 9 (by decide)) (by rw [hLi]; decide), fun h => absurd (hcl 12 ((putL_ne (i := 9) (by decide)).symm.trans h) 9 (by decide)) (by rw [hLi]; decide), fun h => absurd (hcl 13 ((putL_ne (i := 9) (by decide)).symm.trans h) 9 (by decide)) (by rw [hLi]; decide), fun h => absurd (hcl 14 ((putL_ne (i := 9) (by decide)).symm.trans h) 9 (by decide)) (by rw [hLi]; decide), fun h => absurd (hcl 15 ((putL_ne (i := 9) (by decide)).symm.trans h) 9 (by decide)) (by rw [hLi]; decide), fun h => absurd (hcl 16 ((putL_ne (i := 9) (by decide)).symm.trans h) 9 (by decide)) (by rw [hLi]; decide), fun h => absurd (hcl 17 ((putL_ne (i := 9) (by decide)).symm.trans h) 9 (by decide)) (by rw [hLi]; decide), fun h => absurd (hcl 18 ((putL_ne (i := 9) (by decide)).symm.trans h) 9 (by decide)) (by rw [hLi]; decide)⟩
              · have f2 := F2.out (hanc 2 (by decide))
                have f3 := F3.out (hanc 3 (by decide))
                have f4 := F4.out (hanc 4 (by decide))
                have f5 := F5.out (hanc 5 (by decide))
                have f6 := F6.out (hanc 6 (by decide))
                have f7 := F7.out (hanc 7 (by decide))
                have f8 := F8.out (hanc 8 (by decide))
                have f9 := F9.out (hanc 9 (by decide))
                have g2 := f2
                subst g2
                have g9 := f9
                subst g9
                refine YieldsIf.wpOp (S := fun _ => True) (v := .pointer (some ⟨b, o + m9 * 3, none⟩)) (by rfl) (.inl ⟨rfl, fun w _ => by go_simp⟩) trivial ?_
                simp only [Act.put, List.setIfInBounds_toArray, List.set_cons_zero, List.set_cons_succ]
                have hb : Below wx.heap.size wx wx := Below.refl _ _
                show I (putL L 10) _ _
                exact (HI.out (putL L 10) _ _).2 ⟨_, _, _, _, _, _, _, _, _, _, _, _, _, _, _, _, _, _, al9, cl9, nl9, vo9, q9, rfl, HS.out.later hb, fun h => (E0.out ((putL_ne (i := 10) (by decide)).symm.trans h)).later hb, E1.out.later hb, fun h => (by first | exact F0.out ((putL_ne (i := 10) (by decide)).symm.trans h) | rfl), fun h => (by first | exact F1.out ((putL_ne (i := 10) (by decide)).symm.trans h) | rfl), fun h => (by first | exact F2.out ((putL_ne (i := 10) (by decide)).symm.trans h) | rfl), fun h => (by first | exact F3.out ((putL_ne (i := 10) (by decide)).symm.trans h) | rfl), fun h => (by first | exact F4.out ((putL_ne (i := 10) (by decide)).symm.trans h) | rfl), fun h => (by first | exact F5.out ((putL_ne (i := 10) (by decide)).symm.trans h) | rfl), fun h => (by first | exact F6.out ((putL_ne (i := 10) (by decide)).symm.trans h) | rfl), fun h => (by first | exact F7.out ((putL_ne (i := 10) (by decide)).symm.trans h) | rfl), fun h => (by first | exact F8.out ((putL_ne (i := 10) (by decide)).symm.trans h) | rfl), fun h => (by first | exact F9.out ((putL_ne (i := 10) (by decide)).symm.trans h) | rfl), fun _ => rfl, fun h => absurd (hcl 11 ((putL_ne (i := 10) (by decide)).symm.trans h) 10 (by decide)) (by rw [hLi]; decide), fun h => absurd (hcl 12 ((putL_ne (i := 10) (by decide)).symm.trans h) 10 (by decide)) (by rw [hLi]; decide), fun h => absurd (hcl 13 ((putL_ne (i := 10) (by decide)).symm.trans h) 10 (by decide)) (by rw [hLi]; decide), fun h => absurd (hcl 14 ((putL_ne (i := 10) (by decide)).symm.trans h) 10 (by decide)) (by rw [hLi]; decide), fun h => absurd (hcl 15 ((putL_ne (i := 10) (by decide)).symm.trans h) 10 (by decide)) (by rw [hLi]; decide), fun h => absurd (hcl 16 ((putL_ne (i := 10) (by decide)).symm.trans h) 10 (by decide)) (by rw [hLi]; decide), fun h => absurd (hcl 17 ((putL_ne (i := 10) (by decide)).symm.trans h) 10 (by decide)) (by rw [hLi]; decide), fun h => absurd (hcl 18 ((putL_ne (i := 10) (by decide)).symm.trans h) 10 (by decide)) (by rw [hLi]; decide)⟩
              · have f2 := F2.out (hanc 2 (by decide))
                have f3 := F3.out (hanc 3 (by decide))
                have f4 := F4.out (hanc 4 (by decide))
                have f5 := F5.out (hanc 5 (by decide))
                have f6 := F6.out (hanc 6 (by decide))
                have f7 := F7.out (hanc 7 (by decide))
                have f8 := F8.out (hanc 8 (by decide))
                have f9 := F9.out (hanc 9 (by decide))
                have f10 := F10.out (hanc 10 (by decide))
                have g10 := f10
                subst g10
                refine wpOp_doG 11 (by rfl) (by rfl) ?_
                refine wp_load_mid 25 (.tmp 76) rfl b (o + m9 * 3) rfl (encV y2) _ (HEt.out wx HS.out) Tryd.underlying25 rfl infoVv ?_
                simp only [Act.put, List.setIfInBounds_toArray, List.set_cons_zero, List.set_cons_succ]
                have hb : Below wx.heap.size wx wx := Below.refl _ _
                show I (putL L 11) _ _
                exact (HI.out (putL L 11) _ _).2 ⟨_, _, _, _, _, _, _, _, _, _, _, _, _, _, _, _, _, _, al9, cl9, nl9, vo9, q9, rfl, HS.out.later hb, fun h => (E0.out ((putL_ne (i := 11) (by decide)).symm.trans h)).later hb, E1.out.later hb, fun h => (by first | exact F0.out ((putL_ne (i := 11) (by decide)).symm.trans h) | rfl), fun h => (by first | exact F1.out ((putL_ne (i := 11) (by decide)).symm.trans h) | rfl), fun h => (by first | exact F2.out ((putL_ne (i := 11) (by decide)).symm.trans h) | rfl), fun h => (by first | exact F3.out ((putL_ne (i := 11) (by decide)).symm.trans h) | rfl), fun h => (by first | exact F4.out ((putL_ne (i := 11) (by decide)).symm.trans h) | rfl), fun h => (by first | exact F5.out ((putL_ne (i := 11) (by decide)).symm.trans h) | rfl), fun h => (by first | exact F6.out ((putL_ne (i := 11) (by decide)).symm.trans h) | rfl), fun h => (by first | exact F7.out ((putL_ne (i := 11) (by decide)).symm.trans h) | rfl), fun h => (by first | exact F8.out ((putL_ne (i := 11) (by decide)).symm.trans h) | rfl), fun h => (by first | exact F9.out ((putL_ne (i := 11) (by decide)).symm.trans h) | rfl), fun h => (by first | exact F10.out ((putL_ne (i := 11) (by decide)).symm.trans h) | rfl), fun _ => rfl, fun h => absurd (hcl 12 ((putL_ne (i := 11) (by decide)).symm.trans h) 11 (by decide)) (by rw [hLi]; decide), fun h => absurd (hcl 13 ((putL_ne (i := 11) (by decide)).symm.trans h) 11 (by decide)) (by rw [hLi]; decide), fun h => absurd (hcl 14 ((putL_ne (i := 11) (by decide)).symm.trans h) 11 (by decide)) (by rw [hLi]; decide), fun h => absurd (hcl 15 ((putL_ne (i := 11) (by decide)).symm.trans h) 11 (by decide)) (by rw [hLi]; decide), fun h => absurd (hcl 16 ((putL_ne (i := 11) (by decide)).symm.trans h) 11 (by decide)) (by rw [hLi]; decide), fun h => absurd (hcl 17 ((putL_ne (i := 11) (by decide)).symm.trans h) 11 (by decide)) (by rw [hLi]; decide), fun h => absurd (hcl 18 ((putL_ne (i := 11) (by decide)).symm.trans h) 11 (by decide)) (by rw [hLi]; decide)⟩
              · have f2 := F2.out (hanc 2 (by decide))
                have f3 := F3.out (hanc 3 (by decide))
                have f4 := F4.out (hanc 4 (by decide))
                have f5 := F5.out (hanc 5 (by decide))
                have f6 := F6.out (hanc 6 (by decide))
                have f7 := F7.out (hanc 7 (by decide))
                have f8 := F8.out (hanc 8 (by decide))
                have f9 := F9.out (hanc 9 (by decide))
                have f10 := F10.out (hanc 10 (by decide))
                have f11 := F11.out (hanc 11 (by decide))
                have f := f11
                subst f
                refine wpOp_doG 12 (by rfl) (by rfl) ?_
                go_wp2_with fail
                have HV9 := own_one wx w.heap.size HS.out.size y2
                have hb := below_box wx (.cells (encV y2).toArray 25)
                change OwnV (wx.alloc (.cells #[.int .i64 y2.1, .int .i64 y2.2.1, .string y2.2.2] 25)) _ _ _ at HV9
                change Below _ wx (wx.alloc (.cells #[.int .i64 y2.1, .int .i64 y2.2.1, .string y2.2.2] 25)) at hb
                show I (putL L 12) _ _
                exact (HI.out (putL L 12) _ _).2 ⟨_, _, _, _, _, _, _, _, _, _, _, _, _, _, _, _, _, _, al9, cl9, nl9, vo9, q9, rfl, HS.out.later hb, fun h => (E0.out ((putL_ne (i := 12) (by decide)).symm.trans h)).later hb, E1.out.later hb, fun h => (by first | exact F0.out ((putL_ne (i := 12) (by decide)).symm.trans h) | rfl), fun h => (by first | exact F1.out ((putL_ne (i := 12) (by decide)).symm.trans h) | rfl), fun h => (by first | exact F2.out ((putL_ne (i := 12) (by decide)).symm.trans h) | rfl), fun h => (by first | exact F3.out ((putL_ne (i := 12) (by decide)).symm.trans h) | rfl), fun h => (by first | exact F4.out ((putL_ne (i := 12) (by decide)).symm.trans h) | rfl), fun h => (by first | exact F5.out ((putL_ne (i := 12) (by decide)).symm.trans h) | rfl), fun h => (by first | exact F6.out ((putL_ne (i := 12) (by decide)).symm.trans h) | rfl), fun h => (by first | exact F7.out ((putL_ne (i := 12) (by decide)).symm.trans h) | rfl), fun h => (by first | exact F8.out ((putL_ne (i := 12) (by decide)).symm.trans h) | rfl), fun h => (by first | exact F9.out ((putL_ne (i := 12) (by decide)).symm.trans h) | rfl), fun h => (by first | exact F10.out ((putL_ne (i := 12) (by decide)).symm.trans h) | rfl), fun h => (by first | exact F11.out ((putL_ne (i := 12) (by decide)).symm.trans h) | rfl), fun _ => ⟨_, rfl, HV9⟩, fun h => absurd (hcl 13 ((putL_ne (i := 12) (by decide)).symm.trans h) 12 (by decide)) (by rw [hLi]; decide), fun h => absurd (hcl 14 ((putL_ne (i := 12) (by decide)).symm.trans h) 12 (by decide)) (by rw [hLi]; decide), fun h => absurd (hcl 15 ((putL_ne (i := 12) (by decide)).symm.trans h) 12 (by decide)) (by rw [hLi]; decide), fun h => absurd (hcl 16 ((putL_ne (i := 12) (by decide)).symm.trans h) 12 (by decide)) (by rw [hLi]; decide), fun h => absurd (hcl 17 ((putL_ne (i := 12) (by decide)).symm.trans h) 12 (by decide)) (by rw [hLi]; decide), fun h => absurd (hcl 18 ((putL_ne (i := 12) (by decide)).symm.trans h) 12 (by decide)) (by rw [hLi]; decide)⟩
              · have f0 := F0.out (hanc 0 (by decide))
                have f1 := F1.out (hanc 1 (by decide))
                have f2 := F2.out (hanc 2 (by decide))
                have f3 := F3.out (hanc 3 (by decide))
                have f4 := F4.out (hanc 4 (by decide))
                have f5 := F5.out (hanc 5 (by decide))
                have f6 := F6.out (hanc 6 (by decide))
                have f7 := F7.out (hanc 7 (by decide))
                have f8 := F8.out (hanc 8 (by decide))
                have f9 := F9.out (hanc 9 (by decide))
                have f10 := F10.out (hanc 10 (by decide))
                have f11 := F11.out (hanc 11 (by decide))
                have f12 := F12.out (hanc 12 (by decide))
                have hun : L 18 = false := by
                  cases h : L 18
                  · rfl
                  · exact absurd (hcl 18 h 13 (by decide)) (by rw [hLi]; decide)
                have hz := E0.out hun
                have g0 := f0
                have g1 := f1
                subst g0 g1
                obtain ⟨q8, g3, hv8⟩ := f12
                subst g3
                refine wpOp_doG 13 (by rfl) (by rfl) ?_
                go_wp2_with fail
                refine (HK.out.yes w.heap.size (vN 1) vb Lb 4 (.slice (some ⟨q8, 0, none⟩) 1 1) [y2] wx HS.out.size (HT.out.later HS.out) hz.l HSrtB.out HLnB.out hv8.vsl (sz1 _ (by have := HYt.out.2; omega)) (Nat.zero_le _) (may_add HYt.out.1)).mono ?_
                rintro e9 wn ⟨vo, vl9, rfl, ho9, hl9, -, hb⟩
                have ho9 := ho9.base HS.out.size
                rw [nx_add, HNxB.out] at hl9
                skip
                obtain ⟨al8, cl8, hf9⟩ := hl9.form
                obtain ⟨nl8, hn9⟩ : ∃ nl8, (Lb9).length = nl8 := ⟨_, rfl⟩
                rw [hn9] at hf9
                subst hf9
                clear hn9
                show I (putL L 13) _ _
                exact (HI.out (putL L 13) _ _).2 ⟨_, _, _, _, _, _, _, _, _, _, _, _, _, _, _, _, _, _, al8, cl8, nl8, vo, q9, rfl, HS.out.later hb, fun h => (E0.out ((putL_ne (i := 13) (by decide)).symm.trans h)).later hb, E1.out.later hb, fun h => (by first | exact F0.out ((putL_ne (i := 13) (by decide)).symm.trans h) | rfl), fun h => (by first | exact F1.out ((putL_ne (i := 13) (by decide)).symm.trans h) | rfl), fun h => (by first | exact F2.out ((putL_ne (i := 13) (by decide)).symm.trans h) | rfl), fun h => (by first | exact F3.out ((putL_ne (i := 13) (by decide)).symm.trans h) | rfl), fun h => (by first | exact F4.out ((putL_ne (i := 13) (by decide)).symm.trans h) | rfl), fun h => (by first | exact F5.out ((putL_ne (i := 13) (by decide)).symm.trans h) | rfl), fun h => (by first | exact F6.out ((putL_ne (i := 13) (by decide)).symm.trans h) | rfl), fun h => (by first | exact F7.out ((putL_ne (i := 13) (by decide)).symm.trans h) | rfl), fun h => (by first | exact F8.out ((putL_ne (i := 13) (by decide)).symm.trans h) | rfl), fun h => (by first | exact F9.out ((putL_ne (i := 13) (by decide)).symm.trans h) | rfl), fun h => (by first | exact F10.out ((putL_ne (i := 13) (by decide)).symm.trans h) | rfl), fun h => (by first | exact F11.out ((putL_ne (i := 13) (by decide)).symm.trans h) | rfl), fun h => (fun q => q.imp fun _ k => ⟨k.1, k.2.later hb⟩) (F12.out ((putL_ne (i := 13) (by decide)).symm.trans h)), fun _ => ⟨rfl, ho9, hl9⟩, fun h => absurd (hcl 14 ((putL_ne (i := 13) (by decide)).symm.trans h) 13 (by decide)) (by rw [hLi]; decide), fun h => absurd (hcl 15 ((putL_ne (i := 13) (by decide)).symm.trans h) 13 (by decide)) (by rw [hLi]; decide), fun h => absurd (hcl 16 ((putL_ne (i := 13) (by decide)).symm.trans h) 13 (by decide)) (by rw [hLi]; decide), fun h => absurd (hcl 17 ((putL_ne (i := 13) (by decide)).symm.trans h) 13 (by decide)) (by rw [hLi]; decide), fun h => absurd (hcl 18 ((putL_ne (i := 13) (by decide)).symm.trans h) 13 (by decide)) (by rw [hLi]; decide)⟩
              · have f0 := F0.out (hanc 0 (by decide))
                have f1 := F1.out (hanc 1 (by decide))
                have f2 := F2.out (hanc 2 (by decide))
                have f3 := F3.out (hanc 3 (by decide))
                have f4 := F4.out (hanc 4 (by decide))
                have f5 := F5.out (hanc 5 (by decide))
                have f6 := F6.out (hanc 6 (by decide))
                have f7 := F7.out (hanc 7 (by decide))
                have f8 := F8.out (hanc 8 (by decide))
                have f9 := F9.out (hanc 9 (by decide))
                have f10 := F10.out (hanc 10 (by decide))
                have f11 := F11.out (hanc 11 (by decide))
                have f12 := F12.out (hanc 12 (by decide))
                have f13 := F13.out (hanc 13 (by decide))
                have f := f13.1
                subst f
                refine YieldsIf.wpOp (S := fun _ => True) (v := .tuple #[.agg (stC 3 noV (.slice al9 nl9 cl9)).toArray, vo9, .bool true]) (by rfl) (.inl ⟨rfl, fun w _ => rfl⟩) trivial ?_
                simp only [Act.put, List.setIfInBounds_toArray, List.set_cons_zero, List.set_cons_succ]
                have hb : Below wx.heap.size wx wx := Below.refl _ _
                show I (putL L 14) _ _
                exact (HI.out (putL L 14) _ _).2 ⟨_, _, _, _, _, _, _, _, _, _, _, _, _, _, _, _, _, _, al9, cl9, nl9, vo9, q9, rfl, HS.out.later hb, fun h => (E0.out ((putL_ne (i := 14) (by decide)).symm.trans h)).later hb, E1.out.later hb, fun h => (by first | exact F0.out ((putL_ne (i := 14) (by decide)).symm.trans h) | rfl), fun h => (by first | exact F1.out ((putL_ne (i := 14) (by decide)).symm.trans h) | rfl), fun h => (by first | exact F2.out ((putL_ne (i := 14) (by decide)).symm.trans h) | rfl), fun h => (by first | exact F3.out ((putL_ne (i := 14) (by decide)).symm.trans h) | rfl), fun h => (by first | exact F4.out ((putL_ne (i := 14) (by decide)).symm.trans h) | rfl), fun h => (by first | exact F5.out ((putL_ne (i := 14) (by decide)).symm.trans h) | rfl), fun h => (by first | exact F6.out ((putL_ne (i := 14) (by decide)).symm.trans h) | rfl), fun h => (by first | exact F7.out ((putL_ne (i := 14) (by decide)).symm.trans h) | rfl), fun h => (by first | exact F8.out ((putL_ne (i := 14) (by decide)).symm.trans h) | rfl), fun h => (by first | exact F9.out ((putL_ne (i := 14) (by decide)).symm.trans h) | rfl), fun h => (by first | exact F10.out ((putL_ne (i := 14) (by decide)).symm.trans h) | rfl), fun h => (by first | exact F11.out ((putL_ne (i := 14) (by decide)).symm.trans h) | rfl), fun h => (fun q => q.imp fun _ k => ⟨k.1, k.2.later hb⟩) (F12.out ((putL_ne (i := 14) (by decide)).symm.trans h)), fun h => (fun q => ⟨q.1, q.2.1.later hb, q.2.2.later hb⟩) (F13.out ((putL_ne (i := 14) (by decide)).symm.trans h)), fun _ => rfl, fun h => absurd (hcl 15 ((putL_ne (i := 14) (by decide)).symm.trans h) 14 (by decide)) (by rw [hLi]; decide), fun h => absurd (hcl 16 ((putL_ne (i := 14) (by decide)).symm.trans h) 14 (by decide)) (by rw [hLi]; decide), fun h => absurd (hcl 17 ((putL_ne (i := 14) (by decide)).symm.trans h) 14 (by decide)) (by rw [hLi]; decide), fun h => absurd (hcl 18 ((putL_ne (i := 14) (by decide)).symm.trans h) 14 (by decide)) (by rw [hLi]; decide)⟩
              · have f0 := F0.out (hanc 0 (by decide))
                have f1 := F1.out (hanc 1 (by decide))
                have f2 := F2.out (hanc 2 (by decide))
                have f3 := F3.out (hanc 3 (by decide))
                have f4 := F4.out (hanc 4 (by decide))
                have f5 := F5.out (hanc 5 (by decide))
                have f6 := F6.out (hanc 6 (by decide))
                have f7 := F7.out (hanc 7 (by decide))
                have f8 := F8.out (hanc 8 (by decide))
                have f9 := F9.out (hanc 9 (by decide))
                have f10 := F10.out (hanc 10 (by decide))
                have f11 := F11.out (hanc 11 (by decide))
                have f12 := F12.out (hanc 12 (by decide))
                have f13 := F13.out (hanc 13 (by decide))
                have f14 := F14.out (hanc 14 (by decide))
                have f := f14
                subst f
                refine YieldsIf.wpOp (S := fun _ => True) (v := .agg (stC 3 noV (.slice al9 nl9 cl9)).toArray) (by rfl) (.inl ⟨rfl, fun w _ => by go_simp⟩) trivial ?_
                simp only [Act.put, List.setIfInBounds_toArray, List.set_cons_zero, List.set_cons_succ]
                have hb : Below wx.heap.size wx wx := Below.refl _ _
                show I (putL L 15) _ _
                exact (HI.out (putL L 15) _ _).2 ⟨_, _, _, _, _, _, _, _, _, _, _, _, _, _, _, _, _, _, al9, cl9, nl9, vo9, q9, rfl, HS.out.later hb, fun h => (E0.out ((putL_ne (i := 15) (by decide)).symm.trans h)).later hb, E1.out.later hb, fun h => (by first | exact F0.out ((putL_ne (i := 15) (by decide)).symm.trans h) | rfl), fun h => (by first | exact F1.out ((putL_ne (i := 15) (by decide)).symm.trans h) | rfl), fun h => (by first | exact F2.out ((putL_ne (i := 15) (by decide)).symm.trans h) | rfl), fun h => (by first | exact F3.out ((putL_ne (i := 15) (by decide)).symm.trans h) | rfl), fun h => (by first | exact F4.out ((putL_ne (i := 15) (by decide)).symm.trans h) | rfl), fun h => (by first | exact F5.out ((putL_ne (i := 15) (by decide)).symm.trans h) | rfl), fun h => (by first | exact F6.out ((putL_ne (i := 15) (by decide)).symm.trans h) | rfl), fun h => (by first | exact F7.out ((putL_ne (i := 15) (by decide)).symm.trans h) | rfl), fun h => (by first | exact F8.out ((putL_ne (i := 15) (by decide)).symm.trans h) | rfl), fun h => (by first | exact F9.out ((putL_ne (i := 15) (by decide)).symm.trans h) | rfl), fun h => (by first | exact F10.out ((putL_ne (i := 15) (by decide)).symm.trans h) | rfl), fun h => (by first | exact F11.out ((putL_ne (i := 15) (by decide)).symm.trans h) | rfl), fun h => (fun q => q.imp fun _ k => ⟨k.1, k.2.later hb⟩) (F12.out ((putL_ne (i := 15) (by decide)).symm.trans h)), fun h => (fun q => ⟨q.1, q.2.1.later hb, q.2.2.later hb⟩) (F13.out ((putL_ne (i := 15) (by decide)).symm.trans h)), fun h => (by first | exact F14.out ((putL_ne (i := 15) (by decide)).symm.trans h) | rfl), fun _ => rfl, fun h => (by first | exact F16.out ((putL_ne (i := 15) (by decide)).symm.trans h) | rfl), fun h => (by first | exact F17.out ((putL_ne (i := 15) (by decide)).symm.trans h) | rfl), fun h => absurd (hcl 18 ((putL_ne (i := 15) (by decide)).symm.trans h) 15 (by decide)) (by rw [hLi]; decide)⟩
              · have f0 := F0.out (hanc 0 (by decide))
                have f1 := F1.out (hanc 1 (by decide))
                have f2 := F2.out (hanc 2 (by decide))
                have f3 := F3.out (hanc 3 (by decide))
                have f4 := F4.out (hanc 4 (by decide))
                have f5 := F5.out (hanc 5 (by decide))
                have f6 := F6.out (hanc 6 (by decide))
                have f7 := F7.out (hanc 7 (by decide))
                have f8 := F8.out (hanc 8 (by decide))
                have f9 := F9.out (hanc 9 (by decide))
                have f10 := F10.out (hanc 10 (by decide))
                have f11 := F11.out (hanc 11 (by decide))
                have f12 := F12.out (hanc 12 (by decide))
                have f13 := F13.out (hanc 13 (by decide))
                have f14 := F14.out (hanc 14 (by decide))
                have f := f14
                subst f
                refine YieldsIf.wpOp (S := fun _ => True) (v := vo9) (by rfl) (.inl ⟨rfl, fun w _ => by go_simp⟩) trivial ?_
                simp only [Act.put, List.setIfInBounds_toArray, List.set_cons_zero, List.set_cons_succ]
                have hb : Below wx.heap.size wx wx := Below.refl _ _
                show I (putL L 16) _ _
                exact (HI.out (putL L 16) _ _).2 ⟨_, _, _, _, _, _, _, _, _, _, _, _, _, _, _, _, _, _, al9, cl9, nl9, vo9, q9, rfl, HS.out.later hb, fun h => (E0.out ((putL_ne (i := 16) (by decide)).symm.trans h)).later hb, E1.out.later hb, fun h => (by first | exact F0.out ((putL_ne (i := 16) (by decide)).symm.trans h) | rfl), fun h => (by first | exact F1.out ((putL_ne (i := 16) (by decide)).symm.trans h) | rfl), fun h => (by first | exact F2.out ((putL_ne (i := 16) (by decide)).symm.trans h) | rfl), fun h => (by first | exact F3.out ((putL_ne (i := 16) (by decide)).symm.trans h) | rfl), fun h => (by first | exact F4.out ((putL_ne (i := 16) (by decide)).symm.trans h) | rfl), fun h => (by first | exact F5.out ((putL_ne (i := 16) (by decide)).symm.trans h) | rfl), fun h => (by first | exact F6.out ((putL_ne (i := 16) (by decide)).symm.trans h) | rfl), fun h => (by first | exact F7.out ((putL_ne (i := 16) (by decide)).symm.trans h) | rfl), fun h => (by first | exact F8.out ((putL_ne (i := 16) (by decide)).symm.trans h) | rfl), fun h => (by first | exact F9.out ((putL_ne (i := 16) (by decide)).symm.trans h) | rfl), fun h => (by first | exact F10.out ((putL_ne (i := 16) (by decide)).symm.trans h) | rfl), fun h => (by first | exact F11.out ((putL_ne (i := 16) (by decide)).symm.trans h) | rfl), fun h => (fun q => q.imp fun _ k => ⟨k.1, k.2.later hb⟩) (F12.out ((putL_ne (i := 16) (by decide)).symm.trans h)), fun h => (fun q => ⟨q.1, q.2.1.later hb, q.2.2.later hb⟩) (F13.out ((putL_ne (i := 16) (by decide)).symm.trans h)), fun h => (by first | exact F14.out ((putL_ne (i := 16) (by decide)).symm.trans h) | rfl), fun h => (by first | exact F15.out ((putL_ne (i := 16) (by decide)).symm.trans h) | rfl), fun _ => rfl, fun h => (by first | exact F17.out ((putL_ne (i := 16) (by decide)).symm.trans h) | rfl), fun h => (fun q => q.later hb) (F18.out ((putL_ne (i := 16) (by decide)).symm.trans h))⟩
              · have f0 := F0.out (hanc 0 (by decide))
                have f1 := F1.out (hanc 1 (by decide))
                have f2 := F2.out (hanc 2 (by decide))
                have f3 := F3.out (hanc 3 (by decide))
                have f4 := F4.out (hanc 4 (by decide))
                have f5 := F5.out (hanc 5 (by decide))
                have f6 := F6.out (hanc 6 (by decide))
                have f7 := F7.out (hanc 7 (by decide))
                have f8 := F8.out (hanc 8 (by decide))
                have f9 := F9.out (hanc 9 (by decide))
                have f10 := F10.out (hanc 10 (by decide))
                have f11 := F11.out (hanc 11 (by decide))
                have f12 := F12.out (hanc 12 (by decide))
                have f13 := F13.out (hanc 13 (by decide))
                have f14 := F14.out (hanc 14 (by decide))
                have f := f14
                subst f
                refine YieldsIf.wpOp (S := fun _ => True) (v := .bool true) (by rfl) (.inl ⟨rfl, fun w _ => by go_simp⟩) trivial ?_
                simp only [Act.put, List.setIfInBounds_toArray, List.set_cons_zero, List.set_cons_succ]
                have hb : Below wx.heap.size wx wx := Below.refl _ _
                show I (putL L 17) _ _
                exact (HI.out (putL L 17) _ _).2 ⟨_, _, _, _, _, _, _, _, _, _, _, _, _, _, _, _, _, _, al9, cl9, nl9, vo9, q9, rfl, HS.out.later hb, fun h => (E0.out ((putL_ne (i := 17) (by decide)).symm.trans h)).later hb, E1.out.later hb, fun h => (by first | exact F0.out ((putL_ne (i := 17) (by decide)).symm.trans h) | rfl), fun h => (by first | exact F1.out ((putL_ne (i := 17) (by decide)).symm.trans h) | rfl), fun h => (by first | exact F2.out ((putL_ne (i := 17) (by decide)).symm.trans h) | rfl), fun h => (by first | exact F3.out ((putL_ne (i := 17) (by decide)).symm.trans h) | rfl), fun h => (by first | exact F4.out ((putL_ne (i := 17) (by decide)).symm.trans h) | rfl), fun h => (by first | exact F5.out ((putL_ne (i := 17) (by decide)).symm.trans h) | rfl), fun h => (by first | exact F6.out ((putL_ne (i := 17) (by decide)).symm.trans h) | rfl), fun h => (by first | exact F7.out ((putL_ne (i := 17) (by decide)).symm.trans h) | rfl), fun h => (by first | exact F8.out ((putL_ne (i := 17) (by decide)).symm.trans h) | rfl), fun h => (by first | exact F9.out ((putL_ne (i := 17) (by decide)).symm.trans h) | rfl), fun h => (by first | exact F10.out ((putL_ne (i := 17) (by decide)).symm.trans h) | rfl), fun h => (by first | exact F11.out ((putL_ne (i := 17) (by decide)).symm.trans h) | rfl), fun h => (fun q => q.imp fun _ k => ⟨k.1, k.2.later hb⟩) (F12.out ((putL_ne (i := 17) (by decide)).symm.trans h)), fun h => (fun q => ⟨q.1, q.2.1.later hb, q.2.2.later hb⟩) (F13.out ((putL_ne (i := 17) (by decide)).symm.trans h)), fun h => (by first | exact F14.out ((putL_ne (i := 17) (by decide)).symm.trans h) | rfl), fun h => (by first | exact F15.out ((putL_ne (i := 17) (by decide)).symm.trans h) | rfl), fun h => (by first | exact F16.out ((putL_ne (i := 17) (by decide)).symm.trans h) | rfl), fun _ => rfl, fun h => (fun q => q.later hb) (F18.out ((putL_ne (i := 17) (by decide)).symm.trans h))⟩
              · have f0 := F0.out (hanc 0 (by decide))
                have f1 := F1.out (hanc 1 (by decide))
                have f2 := F2.out (hanc 2 (by decide))
                have f3 := F3.out (hanc 3 (by decide))
                have f4 := F4.out (hanc 4 (by decide))
                have f5 := F5.out (hanc 5 (by decide))
                have f6 := F6.out (hanc 6 (by decide))
                have f7 := F7.out (hanc 7 (by decide))
                have f8 := F8.out (hanc 8 (by decide))
                have f9 := F9.out (hanc 9 (by decide))
                have f10 := F10.out (hanc 10 (by decide))
                have f11 := F11.out (hanc 11 (by decide))
                have f12 := F12.out (hanc 12 (by decide))
                have f13 := F13.out (hanc 13 (by decide))
                have f14 := F14.out (hanc 14 (by decide))
                have f15 := F15.out (hanc 15 (by decide))
                have hun : L 18 = false := hLi
                have hz := E0.out hun
                have f := f15
                subst f
                refine wpOp_doG 18 (by rfl) (by rfl) ?_
                refine wpo_storeB 28 (.tmp 9) (.tmp 80) (z7 + 1) 0 (stC 3 noV (.slice al9 nl9 cl9)) (stC 3 noV vb) 28 infoSt (show 0 + 6 ≤ 6 by decide) (stC_one _ _ rfl) rfl rfl rfl hz.s ?_
                intro wn BP ho
                replace BP : Blk wn (z7 + 1) (stC 3 noV (.slice al9 nl9 cl9)) 28 := BP
                have BS := hz.s
                simp only [Act.put, List.setIfInBounds_toArray, List.set_cons_zero, List.set_cons_succ]
                show I (putL L 18) _ _
                exact (HI.out (putL L 18) _ _).2 ⟨_, _, _, _, _, _, _, _, _, _, _, _, _, _, _, _, _, _, al9, cl9, nl9, vo9, q9, rfl, below_oth HS.out ho hz.z hz.z HS.out.size, fun h => (by rw [putL_self] at h; cases h), E1.out.oth ho hz.s (by omega), fun h => (by first | exact F0.out ((putL_ne (i := 18) (by decide)).symm.trans h) | rfl), fun h => (by first | exact F1.out ((putL_ne (i := 18) (by decide)).symm.trans h) | rfl), fun h => (by first | exact F2.out ((putL_ne (i := 18) (by decide)).symm.trans h) | rfl), fun h => (by first | exact F3.out ((putL_ne (i := 18) (by decide)).symm.trans h) | rfl), fun h => (by first | exact F4.out ((putL_ne (i := 18) (by decide)).symm.trans h) | rfl), fun h => (by first | exact F5.out ((putL_ne (i := 18) (by decide)).symm.trans h) | rfl), fun h => (by first | exact F6.out ((putL_ne (i := 18) (by decide)).symm.trans h) | rfl), fun h => (by first | exact F7.out ((putL_ne (i := 18) (by decide)).symm.trans h) | rfl), fun h => (by first | exact F8.out ((putL_ne (i := 18) (by decide)).symm.trans h) | rfl), fun h => (by first | exact F9.out ((putL_ne (i := 18) (by decide)).symm.trans h) | rfl), fun h => (by first | exact F10.out ((putL_ne (i := 18) (by decide)).symm.trans h) | rfl), fun h => (by first | exact F11.out ((putL_ne (i := 18) (by decide)).symm.trans h) | rfl), fun h => (fun q => q.imp fun _ k => ⟨k.1, k.2.oth ho BS (by decide)⟩) (F12.out ((putL_ne (i := 18) (by decide)).symm.trans h)), fun h => (fun q => ⟨q.1, q.2.1.oth ho BS (by decide), q.2.2.oth ho BS (by decide)⟩) (F13.out ((putL_ne (i := 18) (by decide)).symm.trans h)), fun h => (by first | exact F14.out ((putL_ne (i := 18) (by decide)).symm.trans h) | rfl), fun h => (by first | exact F15.out ((putL_ne (i := 18) (by decide)).symm.trans h) | rfl), fun h => (by first | exact F16.out ((putL_ne (i := 18) (by decide)).symm.trans h) | rfl), fun h => (by first | exact F17.out ((putL_ne (i := 18) (by decide)).symm.trans h) | rfl), fun _ => ⟨BP, f13.2.2.oth ho BS (by decide), hz.z⟩⟩
            · intro L act wx hall hIa
              obtain ⟨t66, t67, t68, t69, t70, t71, t72, t73, t74, t75, t76, t77, t78, t79, t65, t80, t81, t82, al9, cl9, nl9, vo9, q9, rfl, HS, E0, E1, F0, F1, F2, F3, F4, F5, F6, F7, F8, F9, F10, F11, F12, F13, F14, F15, F16, F17, F18⟩ := (HI.out _ _ _).1 hIa
              have f0 := F0.out (hall 0 (by decide))
              have f1 := F1.out (hall 1 (by decide))
              have f2 := F2.out (hall 2 (by decide))
              have f3 := F3.out (hall 3 (by decide))
              have f4 := F4.out (hall 4 (by decide))
              have f5 := F5.out (hall 5 (by decide))
              have f6 := F6.out (hall 6 (by decide))
              have f7 := F7.out (hall 7 (by decide))
              have f8 := F8.out (hall 8 (by decide))
              have f9 := F9.out (hall 9 (by decide))
              have f10 := F10.out (hall 10 (by decide))
              have f11 := F11.out (hall 11 (by decide))
              have f12 := F12.out (hall 12 (by decide))
              have f13 := F13.out (hall 13 (by decide))
              have f14 := F14.out (hall 14 (by decide))
              have f15 := F15.out (hall 15 (by decide))
              have f16 := F16.out (hall 16 (by decide))
              have f17 := F17.out (hall 17 (by decide))
              have f18 := F18.out (hall 18 (by decide))
              clear hIa HI F0 F1 F2 F3 F4 F5 F6 F7 F8 F9 F10 F11 F12 F13 F14 F15 F16 F17 F18
              show K9 _ _
              exact HTl17.out wx al9 cl9 nl9 f18 E1.out HS.out _ _ _ _ _ _ _ _ _ _ _ _ _ _ _ _ _ _
          have HTl16 : Hid (∀ (w' : World) (al9 : Option Addr) (cl9 nl9 : Nat), Hs w w' z7 (.slice al9 nl9 cl9) La9 → Hs w w' (z7 + 1) vb Lb → StW w w' → ∀ t53 t54 t55 t56 t57 t58 t59 t60 t61 t62 t63 t64 : Value, K9 ⟨#[Value.slice (some ⟨b, o, none⟩) k c, Value.int IntKind.u8 (bn : Int), undef, undef, u4, undef, u6, Value.pointer (some ⟨z7, 0, none⟩), Value.bool true, Value.pointer (some ⟨z7 + 1, 0, none⟩), Value.int IntKind.i64 (j : Int), undef, undef, undef, undef, undef, undef, undef, undef, undef, undef, undef, Value.bool true, Value.bool false, Value.slice (some ⟨b, o, none⟩) k c, Value.int IntKind.i64 (k : Int), Value.bool (decide (30 < (k : Int))), Value.slice (some ⟨b, o, none⟩) k c, Value.int IntKind.i64 (k : Int), Value.int IntKind.i64 (k : Int), Value.bool false, u31, u32, u33, u34, u35, u36, u37, u38, u39, u40, u41, u42, Value.tuple #[Value.agg #[Value.int IntKind.i64 3, Value.int IntKind.i64 0, Value.int IntKind.i64 0, Value.string noB, Value.int IntKind.i64 0, nilS], Value.bool true], Value.tuple #[Value.agg #[Value.int IntKind.i64 3, Value.int IntKind.i64 0, Value.int IntKind.i64 0, Value.string noB, Value.int IntKind.i64 0, nilS], Value.bool true], Value.agg #[Value.int IntKind.i64 3, Value.int IntKind.i64 0, Value.int IntKind.i64 0, Value.string noB, Value.int IntKind.i64 0, nilS], Value.bool true, Value.agg #[Value.int IntKind.i64 3, Value.int IntKind.i64 0, Value.int IntKind.i64 0, Value.string noB, Value.int IntKind.i64 0, Value.slice none 0 0], Value.slice (some ⟨b, o, none⟩) k c, Value.int IntKind.i64 (k : Int), Value.int IntKind.i64 (j : Int), Value.bool true, Value.int IntKind.i64 (j : Int), t53, t54, t55, t56, t57, t58, t59, t60, t61, t62, t63, t64, u65, u66, u67, u68, u69, u70, u71, u72, u73, u74, u75, u76, u77, u78, u79, u80, u81, u82, u83, undef, undef, undef, undef, undef, undef, undef, undef, undef, undef, undef, undef, undef, undef, undef, undef, undef, undef, undef, undef, undef, undef, undef, undef, undef, undef, undef, undef, undef, undef, undef, undef, undef, undef, undef, undef, undef, undef, undef, undef, undef, undef, undef, undef, undef, undef, undef, undef, undef, undef, undef, undef, undef, undef, undef, undef, undef, undef, undef, undef, undef, undef, undef, undef, undef, undef, undef, undef, undef, undef, undef, undef, undef, undef, undef], []⟩ w') := tail16
          clear tail16 hK9
          obtain ⟨I, hI⟩ : ∃ I : (Nat → Bool) → Act → World → Prop, ∀ L act wx, I L act wx ↔ (fun (L : Nat → Bool) (act : Act) (wx : World) => ∃ (t54 : Value) (t55 : Value) (t56 : Value) (t57 : Value) (t58 : Value) (t59 : Value) (t60 : Value) (t61 : Value) (t53 : Value) (t62 : Value) (t63 : Value) (t64 : Value) (al9 : Option Addr) (cl9 : Nat) (nl9 : Nat) (vo9 : Value) (q9 : Nat), act = ⟨#[Value.slice (some ⟨b, o, none⟩) k c, Value.int IntKind.u8 (bn : Int), undef, undef, u4, undef, u6, Value.pointer (some ⟨z7, 0, none⟩), Value.bool true, Value.pointer (some ⟨z7 + 1, 0, none⟩), Value.int IntKind.i64 (j : Int), undef, undef, undef, undef, undef, undef, undef, undef, undef, undef, undef, Value.bool true, Value.bool false, Value.slice (some ⟨b, o, none⟩) k c, Value.int IntKind.i64 (k : Int), Value.bool (decide (30 < (k : Int))), Value.slice (some ⟨b, o, none⟩) k c, Value.int IntKind.i64 (k : Int), Value.int IntKind.i64 (k : Int), Value.bool false, u31, u32, u33, u34, u35, u36, u37, u38, u39, u40, u41, u42, Value.tuple #[Value.agg #[Value.int IntKind.i64 3, Value.int IntKind.i64 0, Value.int IntKind.i64 0, Value.string noB, Value.int IntKind.i64 0, nilS], Value.bool true], Value.tuple #[Value.agg #[Value.int IntKind.i64 3, Value.int IntKind.i64 0, Value.int IntKind.i64 0, Value.string noB, Value.int IntKind.i64 0, nilS], Value.bool true], Value.agg #[Value.int IntKind.i64 3, Value.int IntKind.i64 0, Value.int IntKind.i64 0, Value.string noB, Value.int IntKind.i64 0, nilS], Value.bool true, Value.agg #[Value.int IntKind.i64 3, Value.int IntKind.i64 0, Value.int IntKind.i64 0, Value.string noB, Value.int IntKind.i64 0, Value.slice none 0 0], Value.slice (some ⟨b, o, none⟩) k c, Value.int IntKind.i64 (k : Int), Value.int IntKind.i64 (j : Int), Value.bool true, Value.int IntKind.i64 (j : Int), t53, t54, t55, t56, t57, t58, t59, t60, t61, t62, t63, t64, u65, u66, u67, u68, u69, u70, u71, u72, u73, u74, u75, u76, u77, u78, u79, u80, u81, u82, u83, undef, undef, undef, undef, undef, undef, undef, undef, undef, undef, undef, undef, undef, undef, undef, undef, undef, undef, undef, undef, undef, undef, undef, undef, undef, undef, undef, undef, undef, undef, undef, undef, undef, undef, undef, undef, undef, undef, undef, undef, undef, undef, undef, undef, undef, undef, undef, undef, undef, undef, undef, undef, undef, undef, undef, undef, undef, undef, undef, undef, undef, undef, undef, undef, undef, undef, undef, undef, undef, undef, undef, undef, undef, undef, undef], []⟩ ∧ Hid (StW w wx) ∧ Hid (L 12 = false → Hs w wx z7 va La) ∧ Hid (Hs w wx (z7 + 1) vb Lb) ∧ Hid (L 0 = true → t54 = .agg #[.int .i64 3, .int .i64 0, .int .i64 0, .string noB, .int .i64 0, va]) ∧ Hid (L 1 = true → t55 = .agg #[.int .i64 1, .int .i64 1, .string noB]) ∧ Hid (L 2 = true → t56 = .slice (some ⟨b, o, none⟩) k c) ∧ Hid (L 3 = true → t57 = .int .i64 (j : Int)) ∧ Hid (L 4 = true → t58 = .pointer (some ⟨b, o + j * 3, none⟩)) ∧ Hid (L 5 = true → t59 = .agg #[.int .i64 y.1, .int .i64 y.2.1, .string y.2.2]) ∧ Hid (L 6 = true → ∃ q8 : Nat, t60 = .slice (some ⟨q8, 0, none⟩) 1 1 ∧ OwnV wx w.heap.size t60 [y]) ∧ Hid (L 7 = true → t61 = .tuple #[.agg (stC 3 noV (.slice al9 nl9 cl9)).toArray, vo9, .bool true] ∧ OwnV wx w.heap.size vo9 [] ∧ OwnV wx w.heap.size (.slice al9 nl9 cl9) La9) ∧ Hid (L 8 = true → t53 = .tuple #[.agg (stC 3 noV (.slice al9 nl9 cl9)).toArray, vo9, .bool true]) ∧ Hid (L 9 = true → t62 = .agg (stC 3 noV (.slice al9 nl9 cl9)).toArray) ∧ Hid (L 10 = true → t63 = vo9) ∧ Hid (L 11 = true → t64 = .bool true) ∧ Hid (L 12 = true → Hs w wx z7 (.slice al9 nl9 cl9) La9)) L act wx := ⟨_, fun _ _ _ => Iff.rfl⟩
          dsimp only at hI
          have HI : Hid (∀ L act wx, I L act wx ↔ _) := hI
          clear hI
          refine wp_region_inv mixed [[], [], [], [], [2, 3], [2, 3, 4], [2, 3, 4, 5], [0, 1, 2, 3, 4, 5, 6], [0, 1, 2, 3, 4, 5, 6, 7], [0, 1, 2, 3, 4, 5, 6, 7, 8], [0, 1, 2, 3, 4, 5, 6, 7, 8], [0, 1, 2, 3, 4, 5, 6, 7, 8], [0, 1, 2, 3, 4, 5, 6, 7, 8, 9]] (by kernel_rfl) I ?_ ?_ ?_
          · refine (HI.out _ _ _).2 ⟨_, _, _, _, _, _, _, _, _, _, _, _, none, 0, 0, undef, 0, rfl, ?_, ?_, ?_, fun h => Bool.noConfusion h, fun h => Bool.noConfusion h, fun h => Bool.noConfusion h, fun h => Bool.noConfusion h, fun h => Bool.noConfusion h, fun h => Bool.noConfusion h, fun h => Bool.noConfusion h, fun h => Bool.noConfusion h, fun h => Bool.noConfusion h, fun h => Bool.noConfusion h, fun h => Bool.noConfusion h, fun h => Bool.noConfusion h, fun h => Bool.noConfusion h⟩
            · exact below_next (And.intro HB.out HSa.out).1 (Stay.drew _)
            · exact fun _ => (And.intro HB.out HSa.out).2.later (Stay.drew _)
            · exact HSb.out.later (Stay.drew _)
          · intro i hi L act wx hIa hLi hcl hanc
            obtain ⟨t54, t55, t56, t57, t58, t59, t60, t61, t53, t62, t63, t64, al9, cl9, nl9, vo9, q9, rfl, HS, E0, E1, F0, F1, F2, F3, F4, F5, F6, F7, F8, F9, F10, F11, F12⟩ := (HI.out _ _ _).1 hIa
            clear hIa
            have hi' : i = 0 ∨ i = 1 ∨ i = 2 ∨ i = 3 ∨ i = 4 ∨ i = 5 ∨ i = 6 ∨ i = 7 ∨ i = 8 ∨ i = 9 ∨ i = 10 ∨ i = 11 ∨ i = 12 := by have hi : i < 13 := hi; omega
            clear hi
            rcases hi' with rfl | rfl | rfl | rfl | rfl | rfl | rfl | rfl | rfl | rfl | rfl | rfl | rfl
            · have hun : L 12 = false := by
                cases h : L 12
                · rfl
                · exact absurd (hcl 12 h 0 (by decide)) (by rw [hLi]; decide)
              have hz := E0.out hun
              refine wpOp_doG 0 (by rfl) (by rfl) ?_
              refine wp_load_mid 28 (.tmp 7) rfl z7 0 rfl (stC 3 noV va) _ (Blk.all hz.s) Tryd.underlying28 rfl infoSt ?_
              simp only [Act.put, List.setIfInBounds_toArray, List.set_cons_zero, List.set_cons_succ]
              have hb : Below wx.heap.size wx wx := Below.refl _ _
              show I (putL L 0) _ _
              exact (HI.out (putL L 0) _ _).2 ⟨_, _, _, _, _, _, _, _, _, _, _, _, al9, cl9, nl9, vo9, q9, rfl, HS.out.later hb, fun h => (E0.out ((putL_ne (i := 0) (by decide)).symm.trans h)).later hb, E1.out.later hb, fun _ => rfl, fun h => (by first | exact F1.out ((putL_ne (i := 0) (by decide)).symm.trans h) | rfl), fun h => (by first | exact F2.out ((putL_ne (i := 0) (by decide)).symm.trans h) | rfl), fun h => (by first | exact F3.out ((putL_ne (i := 0) (by decide)).symm.trans h) | rfl), fun h => (by first | exact F4.out ((putL_ne (i := 0) (by decide)).symm.trans h) | rfl), fun h => (by first | exact F5.out ((putL_ne (i := 0) (by decide)).symm.trans h) | rfl), fun h => (fun q => q.imp fun _ k => ⟨k.1, k.2.later hb⟩) (F6.out ((putL_ne (i := 0) (by decide)).symm.trans h)), fun h => absurd (hcl 7 ((putL_ne (i := 0) (by decide)).symm.trans h) 0 (by decide)) (by rw [hLi]; decide), fun h => absurd (hcl 8 ((putL_ne (i := 0) (by decide)).symm.trans h) 0 (by decide)) (by rw [hLi]; decide), fun h => absurd (hcl 9 ((putL_ne (i := 0) (by decide)).symm.trans h) 0 (by decide)) (by rw [hLi]; decide), fun h => absurd (hcl 10 ((putL_ne (i := 0) (by decide)).symm.trans h) 0 (by decide)) (by rw [hLi]; decide), fun h => absurd (hcl 11 ((putL_ne (i := 0) (by decide)).symm.trans h) 0 (by decide)) (by rw [hLi]; decide), fun h => absurd (hcl 12 ((putL_ne (i := 0) (by decide)).symm.trans h) 0 (by decide)) (by rw [hLi]; decide)⟩
            · refine wpOp_doG 1 (by rfl) (by rfl) ?_
              go_wp2_with fail
              refine (num_any 1 wx).mono ?_
              rintro e9 wn ⟨rfl, hb⟩
              show I (putL L 1) _ _
              exact (HI.out (putL L 1) _ _).2 ⟨_, _, _, _, _, _, _, _, _, _, _, _, al9, cl9, nl9, vo9, q9, rfl, HS.out.later hb, fun h => (E0.out ((putL_ne (i := 1) (by decide)).symm.trans h)).later hb, E1.out.later hb, fun h => (by first | exact F0.out ((putL_ne (i := 1) (by decide)).symm.trans h) | rfl), fun _ => rfl, fun h => (by first | exact F2.out ((putL_ne (i := 1) (by decide)).symm.trans h) | rfl), fun h => (by first | exact F3.out ((putL_ne (i := 1) (by decide)).symm.trans h) | rfl), fun h => (by first | exact F4.out ((putL_ne (i := 1) (by decide)).symm.trans h) | rfl), fun h => (by first | exact F5.out ((putL_ne (i := 1) (by decide)).symm.trans h) | rfl), fun h => (fun q => q.imp fun _ k => ⟨k.1, k.2.later hb⟩) (F6.out ((putL_ne (i := 1) (by decide)).symm.trans h)), fun h => absurd (hcl 7 ((putL_ne (i := 1) (by decide)).symm.trans h) 1 (by decide)) (by rw [hLi]; decide), fun h => absurd (hcl 8 ((putL_ne (i := 1) (by decide)).symm.trans h) 1 (by decide)) (by rw [hLi]; decide), fun h => absurd (hcl 9 ((putL_ne (i := 1) (by decide)).symm.trans h) 1 (by decide)) (by rw [hLi]; decide), fun h => absurd (hcl 10 ((putL_ne (i := 1) (by decide)).symm.trans h) 1 (by decide)) (by rw [hLi]; decide), fun h => absurd (hcl 11 ((putL_ne (i := 1) (by decide)).symm.trans h) 1 (by decide)) (by rw [hLi]; decide), fun h => absurd (hcl 12 ((putL_ne (i := 1) (by decide)).symm.trans h) 1 (by decide)) (by rw [hLi]; decide)⟩
            · refine YieldsIf.wpOp (S := fun _ => True) (v := .slice (some ⟨b, o, none⟩) k c) (by rfl) (.inl ⟨rfl, fun w _ => rfl⟩) trivial ?_
              simp only [Act.put, List.setIfInBounds_toArray, List.set_cons_zero, List.set_cons_succ]
              have hb : Below wx.heap.size wx wx := Below.refl _ _
              show I (putL L 2) _ _
              exact (HI.out (putL L 2) _ _).2 ⟨_, _, _, _, _, _, _, _, _, _, _, _, al9, cl9, nl9, vo9, q9, rfl, HS.out.later hb, fun h => (E0.out ((putL_ne (i := 2) (by decide)).symm.trans h)).later hb, E1.out.later hb, fun h => (by first | exact F0.out ((putL_ne (i := 2) (by decide)).symm.trans h) | rfl), fun h => (by first | exact F1.out ((putL_ne (i := 2) (by decide)).symm.trans h) | rfl), fun _ => rfl, fun h => (by first | exact F3.out ((putL_ne (i := 2) (by decide)).symm.trans h) | rfl), fun h => absurd (hcl 4 ((putL_ne (i := 2) (by decide)).symm.trans h) 2 (by decide)) (by rw [hLi]; decide), fun h => absurd (hcl 5 ((putL_ne (i := 2) (by decide)).symm.trans h) 2 (by decide)) (by rw [hLi]; decide), fun h => absurd (hcl 6 ((putL_ne (i := 2) (by decide)).symm.trans h) 2 (by decide)) (by rw [hLi]; decide), fun h => absurd (hcl 7 ((putL_ne (i := 2) (by decide)).symm.trans h) 2 (by decide)) (by rw [hLi]; decide), fun h => absurd (hcl 8 ((putL_ne (i := 2) (by decide)).symm.trans h) 2 (by decide)) (by rw [hLi]; decide), fun h => absurd (hcl 9 ((putL_ne (i := 2) (by decide)).symm.trans h) 2 (by decide)) (by rw [hLi]; decide), fun h => absurd (hcl 10 ((putL_ne (i := 2) (by decide)).symm.trans h) 2 (by decide)) (by rw [hLi]; decide), fun h => absurd (hcl 11 ((putL_ne (i := 2) (by decide)).symm.trans h) 2 (by decide)) (by rw [hLi]; decide), fun h => absurd (hcl 12 ((putL_ne (i := 2) (by decide)).symm.trans h) 2 (by decide)) (by rw [hLi]; decide)⟩
            · refine YieldsIf.wpOp (S := fun _ => True) (v := .int .i64 (j : Int)) (by rfl) (.inl ⟨rfl, fun w _ => rfl⟩) trivial ?_
              simp only [Act.put, List.setIfInBounds_toArray, List.set_cons_zero, List.set_cons_succ]
              have hb : Below wx.heap.size wx wx := Below.refl _ _
              show I (putL L 3) _ _
              exact (HI.out (putL L 3) _ _).2 ⟨_, _, _, _, _, _, _, _, _, _, _, _, al9, cl9, nl9, vo9, q9, rfl, HS.out.later hb, fun h => (E0.out ((putL_ne (i := 3) (by decide)).symm.trans h)).later hb, E1.out.later hb, fun h => (by first | exact F0.out ((putL_ne (i := 3) (by decide)).symm.trans h) | rfl), fun h => (by first | exact F1.out ((putL_ne (i := 3) (by decide)).symm.trans h) | rfl), fun h => (by first | exact F2.out ((putL_ne (i := 3) (by decide)).symm.trans h) | rfl), fun _ => rfl, fun h => absurd (hcl 4 ((putL_ne (i := 3) (by decide)).symm.trans h) 3 (by decide)) (by rw [hLi]; decide), fun h => absurd (hcl 5 ((putL_ne (i := 3) (by decide)).symm.trans h) 3 (by decide)) (by rw [hLi]; decide), fun h => absurd (hcl 6 ((putL_ne (i := 3) (by decide)).symm.trans h) 3 (by decide)) (by rw [hLi]; decide), fun h => absurd (hcl 7 ((putL_ne (i := 3) (by decide)).symm.trans h) 3 (by decide)) (by rw [hLi]; decide), fun h => absurd (hcl 8 ((putL_ne (i := 3) (by decide)).symm.trans h) 3 (by decide)) (by rw [hLi]; decide), fun h => absurd (hcl 9 ((putL_ne (i := 3) (by decide)).symm.trans h) 3 (by decide)) (by rw [hLi]; decide), fun h => absurd (hcl 10 ((putL_ne (i := 3) (by decide)).symm.trans h) 3 (by decide)) (by rw [hLi]; decide), fun h => absurd (hcl 11 ((putL_ne (i := 3) (by decide)).symm.trans h) 3 (by decide)) (by rw [hLi]; decide), fun h => absurd (hcl 12 ((putL_ne (i := 3) (by decide)).symm.trans h) 3 (by decide)) (by rw [hLi]; decide)⟩
            · have f2 := F2.out (hanc 2 (by decide))
              have f3 := F3.out (hanc 3 (by decide))
              have g2 := f2
              subst g2
              have g3 := f3
              subst g3
              refine YieldsIf.wpOp (S := fun _ => True) (v := .pointer (some ⟨b, o + j * 3, none⟩)) (by rfl) (.inl ⟨rfl, fun w _ => by go_simp⟩) trivial ?_
              simp only [Act.put, List.setIfInBounds_toArray, List.set_cons_zero, List.set_cons_succ]
              have hb : Below wx.heap.size wx wx := Below.refl _ _
              show I (putL L 4) _ _
              exact (HI.out (putL L 4) _ _).2 ⟨_, _, _, _, _, _, _, _, _, _, _, _, al9, cl9, nl9, vo9, q9, rfl, HS.out.later hb, fun h => (E0.out ((putL_ne (i := 4) (by decide)).symm.trans h)).later hb, E1.out.later hb, fun h => (by first | exact F0.out ((putL_ne (i := 4) (by decide)).symm.trans h) | rfl), fun h => (by first | exact F1.out ((putL_ne (i := 4) (by decide)).symm.trans h) | rfl), fun h => (by first | exact F2.out ((putL_ne (i := 4) (by decide)).symm.trans h) | rfl), fun h => (by first | exact F3.out ((putL_ne (i := 4) (by decide)).symm.trans h) | rfl), fun _ => rfl, fun h => absurd (hcl 5 ((putL_ne (i := 4) (by decide)).symm.trans h) 4 (by decide)) (by rw [hLi]; decide), fun h => absurd (hcl 6 ((putL_ne (i := 4) (by decide)).symm.trans h) 4 (by decide)) (by rw [hLi]; decide), fun h => absurd (hcl 7 ((putL_ne (i := 4) (by decide)).symm.trans h) 4 (by decide)) (by rw [hLi]; decide), fun h => absurd (hcl 8 ((putL_ne (i := 4) (by decide)).symm.trans h) 4 (by decide)) (by rw [hLi]; decide), fun h => absurd (hcl 9 ((putL_ne (i := 4) (by decide)).symm.trans h) 4 (by decide)) (by rw [hLi]; decide), fun h => absurd (hcl 10 ((putL_ne (i := 4) (by decide)).symm.trans h) 4 (by decide)) (by rw [hLi]; decide), fun h => absurd (hcl 11 ((putL_ne (i := 4) (by decide)).symm.trans h) 4 (by decide)) (by rw [hLi]; decide), fun h => absurd (hcl 12 ((putL_ne (i := 4) (by decide)).symm.trans h) 4 (by decide)) (by rw [hLi]; decide)⟩
            · have f2 := F2.out (hanc 2 (by decide))
              have f3 := F3.out (hanc 3 (by decide))
              have f4 := F4.out (hanc 4 (by decide))
              have g4 := f4
              subst g4
              refine wpOp_doG 5 (by rfl) (by rfl) ?_
              refine wp_load_mid 25 (.tmp 58) rfl b (o + j * 3) rfl (encV y) _ (HEl.out wx HS.out) Tryd.underlying25 rfl infoVv ?_
              simp only [Act.put, List.setIfInBounds_toArray, List.set_cons_zero, List.set_cons_succ]
              have hb : Below wx.heap.size wx wx := Below.refl _ _
              show I (putL L 5) _ _
              exact (HI.out (putL L 5) _ _).2 ⟨_, _, _, _, _, _, _, _, _, _, _, _, al9, cl9, nl9, vo9, q9, rfl, HS.out.later hb, fun h => (E0.out ((putL_ne (i := 5) (by decide)).symm.trans h)).later hb, E1.out.later hb, fun h => (by first | exact F0.out ((putL_ne (i := 5) (by decide)).symm.trans h) | rfl), fun h => (by first | exact F1.out ((putL_ne (i := 5) (by decide)).symm.trans h) | rfl), fun h => (by first | exact F2.out ((putL_ne (i := 5) (by decide)).symm.trans h) | rfl), fun h => (by first | exact F3.out ((putL_ne (i := 5) (by decide)).symm.trans h) | rfl), fun h => (by first | exact F4.out ((putL_ne (i := 5) (by decide)).symm.trans h) | rfl), fun _ => rfl, fun h => absurd (hcl 6 ((putL_ne (i := 5) (by decide)).symm.trans h) 5 (by decide)) (by rw [hLi]; decide), fun h => absurd (hcl 7 ((putL_ne (i := 5) (by decide)).symm.trans h) 5 (by decide)) (by rw [hLi]; decide), fun h => absurd (hcl 8 ((putL_ne (i := 5) (by decide)).symm.trans h) 5 (by decide)) (by rw [hLi]; decide), fun h => absurd (hcl 9 ((putL_ne (i := 5) (by decide)).symm.trans h) 5 (by decide)) (by rw [hLi]; decide), fun h => absurd (hcl 10 ((putL_ne (i := 5) (by decide)).symm.trans h) 5 (by decide)) (by rw [hLi]; decide), fun h => absurd (hcl 11 ((putL_ne (i := 5) (by decide)).symm.trans h) 5 (by decide)) (by rw [hLi]; decide), fun h => absurd (hcl 12 ((putL_ne (i := 5) (by decide)).symm.trans h) 5 (by decide)) (by rw [hLi]; decide)⟩
            · have f2 := F2.out (hanc 2 (by decide))
              have f3 := F3.out (hanc 3 (by decide))
              have f4 := F4.out (hanc 4 (by decide))
              have f5 := F5.out (hanc 5 (by decide))
              have f := f5
              subst f
              refine wpOp_doG 6 (by rfl) (by rfl) ?_
              go_wp2_with fail
              have HV9 := own_one wx w.heap.size HS.out.size y
              have hb := below_box wx (.cells (encV y).toArray 25)
              change OwnV (wx.alloc (.cells #[.int .i64 y.1, .int .i64 y.2.1, .string y.2.2] 25)) _ _ _ at HV9
              change Below _ wx (wx.alloc (.cells #[.int .i64 y.1, .int .i64 y.2.1, .string y.2.2] 25)) at hb
              show I (putL L 6) _ _
              exact (HI.out (putL L 6) _ _).2 ⟨_, _, _, _, _, _, _, _, _, _, _, _, al9, cl9, nl9, vo9, q9, rfl, HS.out.later hb, fun h => (E0.out ((putL_ne (i := 6) (by decide)).symm.trans h)).later hb, E1.out.later hb, fun h => (by first | exact F0.out ((putL_ne (i := 6) (by decide)).symm.trans h) | rfl), fun h => (by first | exact F1.out ((putL_ne (i := 6) (by decide)).symm.trans h) | rfl), fun h => (by first | exact F2.out ((putL_ne (i := 6) (by decide)).symm.trans h) | rfl), fun h => (by first | exact F3.out ((putL_ne (i := 6) (by decide)).symm.trans h) | rfl), fun h => (by first | exact F4.out ((putL_ne (i := 6) (by decide)).symm.trans h) | rfl), fun h => (by first | exact F5.out ((putL_ne (i := 6) (by decide)).symm.trans h) | rfl), fun _ => ⟨_, rfl, HV9⟩, fun h => absurd (hcl 7 ((putL_ne (i := 6) (by decide)).symm.trans h) 6 (by decide)) (by rw [hLi]; decide), fun h => absurd (hcl 8 ((putL_ne (i := 6) (by decide)).symm.trans h) 6 (by decide)) (by rw [hLi]; decide), fun h => absurd (hcl 9 ((putL_ne (i := 6) (by decide)).symm.trans h) 6 (by decide)) (by rw [hLi]; decide), fun h => absurd (hcl 10 ((putL_ne (i := 6) (by decide)).symm.trans h) 6 (by decide)) (by rw [hLi]; decide), fun h => absurd (hcl 11 ((putL_ne (i := 6) (by decide)).symm.trans h) 6 (by decide)) (by rw [hLi]; decide), fun h => absurd (hcl 12 ((putL_ne (i := 6) (by decide)).symm.trans h) 6 (by decide)) (by rw [hLi]; decide)⟩
            · have f0 := F0.out (hanc 0 (by decide))
              have f1 := F1.out (hanc 1 (by decide))
              have f2 := F2.out (hanc 2 (by decide))
              have f3 := F3.out (hanc 3 (by decide))
              have f4 := F4.out (hanc 4 (by decide))
              have f5 := F5.out (hanc 5 (by decide))
              have f6 := F6.out (hanc 6 (by decide))
              have hun : L 12 = false := by
                cases h : L 12
                · rfl
                · exact absurd (hcl 12 h 7 (by decide)) (by rw [hLi]; decide)
              have hz := E0.out hun
              have g0 := f0
              have g1 := f1
              subst g0 g1
              obtain ⟨q8, g3, hv8⟩ := f6
              subst g3
              refine wpOp_doG 7 (by rfl) (by rfl) ?_
              go_wp2_with fail
              refine (HK.out.yes w.heap.size (vN 1) va La 4 (.slice (some ⟨q8, 0, none⟩) 1 1) [y] wx HS.out.size (HT.out.later HS.out) hz.l HSrtA.out HLnA.out hv8.vsl (sz1 _ (by have := HYs.out.2; omega)) (Nat.zero_le _) (may_add HYs.out.1)).mono ?_
              rintro e9 wn ⟨vo, vl9, rfl, ho9, hl9, -, hb⟩
              have ho9 := ho9.base HS.out.size
              rw [nx_add, HNxA.out] at hl9
              skip
              obtain ⟨al8, cl8, hf9⟩ := hl9.form
              obtain ⟨nl8, hn9⟩ : ∃ nl8, (La9).length = nl8 := ⟨_, rfl⟩
              rw [hn9] at hf9
              subst hf9
              clear hn9
              show I (putL L 7) _ _
              exact (HI.out (putL L 7) _ _).2 ⟨_, _, _, _, _, _, _, _, _, _, _, _, al8, cl8, nl8, vo, q9, rfl, HS.out.later hb, fun h => (E0.out ((putL_ne (i := 7) (by decide)).symm.trans h)).later hb, E1.out.later hb, fun h => (by first | exact F0.out ((putL_ne (i := 7) (by decide)).symm.trans h) | rfl), fun h => (by first | exact F1.out ((putL_ne (i := 7) (by decide)).symm.trans h) | rfl), fun h => (by first | exact F2.out ((putL_ne (i := 7) (by decide)).symm.trans h) | rfl), fun h => (by first | exact F3.out ((putL_ne (i := 7) (by decide)).symm.trans h) | rfl), fun h => (by first | exact F4.out ((putL_ne (i := 7) (by decide)).symm.trans h) | rfl), fun h => (by first | exact F5.out ((putL_ne (i := 7) (by decide)).symm.trans h) | rfl), fun h => (fun q => q.imp fun _ k => ⟨k.1, k.2.later hb⟩) (F6.out ((putL_ne (i := 7) (by decide)).symm.trans h)), fun _ => ⟨rfl, ho9, hl9⟩, fun h => absurd (hcl 8 ((putL_ne (i := 7) (by decide)).symm.trans h) 7 (by decide)) (by rw [hLi]; decide), fun h => absurd (hcl 9 ((putL_ne (i := 7) (by decide)).symm.trans h) 7 (by decide)) (by rw [hLi]; decide), fun h => absurd (hcl 10 ((putL_ne (i := 7) (by decide)).symm.trans h) 7 (by decide)) (by rw [hLi]; decide), fun h => absurd (hcl 11 ((putL_ne (i := 7) (by decide)).symm.trans h) 7 (by decide)) (by rw [hLi]; decide), fun h => absurd (hcl 12 ((putL_ne (i := 7) (by decide)).symm.trans h) 7 (by decide)) (by rw [hLi]; decide)⟩
            · have f0 := F0.out (hanc 0 (by decide))
              have f1 := F1.out (hanc 1 (by decide))
              have f2 := F2.out (hanc 2 (by decide))
              have f3 := F3.out (hanc 3 (by decide))
              have f4 := F4.out (hanc 4 (by decide))
              have f5 := F5.out (hanc 5 (by decide))
              have f6 := F6.out (hanc 6 (by decide))
              have f7 := F7.out (hanc 7 (by decide))
              have f := f7.1
              subst f
              refine YieldsIf.wpOp (S := fun _ => True) (v := .tuple #[.agg (stC 3 noV (.slice al9 nl9 cl9)).toArray, vo9, .bool true]) (by rfl) (.inl ⟨rfl, fun w _ => rfl⟩) trivial ?_
              simp only [Act.put, List.setIfInBounds_toArray, List.set_cons_zero, List.set_cons_succ]
              have hb : Below wx.heap.size wx wx := Below.refl _ _
              show I (putL L 8) _ _
              exact (HI.out (putL L 8) _ _).2 ⟨_, _, _, _, _, _, _, _, _, _, _, _, al9, cl9, nl9, vo9, q9, rfl, HS.out.later hb, fun h => (E0.out ((putL_ne (i := 8) (by decide)).symm.trans h)).later hb, E1.out.later hb, fun h => (by first | exact F0.out ((putL_ne (i := 8) (by decide)).symm.trans h) | rfl), fun h => (by first | exact F1.out ((putL_ne (i := 8) (by decide)).symm.trans h) | rfl), fun h => (by first | exact F2.out ((putL_ne (i := 8) (by decide)).symm.trans h) | rfl), fun h => (by first | exact F3.out ((putL_ne (i := 8) (by decide)).symm.trans h) | rfl), fun h => (by first | exact F4.out ((putL_ne (i := 8) (by decide)).symm.trans h) | rfl), fun h => (by first | exact F5.out ((putL_ne (i := 8) (by decide)).symm.trans h) | rfl), fun h => (fun q => q.imp fun _ k => ⟨k.1, k.2.later hb⟩) (F6.out ((putL_ne (i := 8) (by decide)).symm.trans h)), fun h => (fun q => ⟨q.1, q.2.1.later hb, q.2.2.later hb⟩) (F7.out ((putL_ne (i := 8) (by decide)).symm.trans h)), fun _ => rfl, fun h => absurd (hcl 9 ((putL_ne (i := 8) (by decide)).symm.trans h) 8 (by decide)) (by rw [hLi]; decide), fun h => absurd (hcl 10 ((putL_ne (i := 8) (by decide)).symm.trans h) 8 (by decide)) (by rw [hLi]; decide), fun h => absurd (hcl 11 ((putL_ne (i := 8) (by decide)).symm.trans h) 8 (by decide)) (by rw [hLi]; decide), fun h => absurd (hcl 12 ((putL_ne (i := 8) (by decide)).symm.trans h) 8 (by decide)) (by rw [hLi]; decide)⟩
            · have f0 := F0.out (hanc 0 (by decide))
              have f1 := F1.out (hanc 1 (by decide))
              have f2 := F2.out (hanc 2 (by decide))
              have f3 := F3.out (hanc 3 (by decide))
              have f4 := F4.out (hanc 4 (by decide))
              have f5 := F5.out (hanc 5 (by decide))
              have f6 := F6.out (hanc 6 (by decide))
              have f7 := F7.out (hanc 7 (by decide))
              have f8 := F8.out (hanc 8 (by decide))
              have f := f8
              subst f
              refine YieldsIf.wpOp (S := fun _ => True) (v := .agg (stC 3 noV (.slice al9 nl9 cl9)).toArray) (by rfl) (.inl ⟨rfl, fun w _ => by go_simp⟩) trivial ?_
              simp only [Act.put, List.setIfInBounds_toArray, List.set_cons_zero, List.set_cons_succ]
              have hb : Below wx.heap.size wx wx := Below.refl _ _
              show I (putL L 9) _ _
              exact (HI.out (putL L 9) _ _).2 ⟨_, _, _, _, _, _, _, _, _, _, _, _, al9, cl9, nl9, vo9, q9, rfl, HS.out.later hb, fun h => (E0.out ((putL_ne (i := 9) (by decide)).symm.trans h)).later hb, E1.out.later hb, fun h => (by first | exact F0.out ((putL_ne (i := 9) (by decide)).symm.trans h) | rfl), fun h => (by first | exact F1.out ((putL_ne (i := 9) (by decide)).symm.trans h) | rfl), fun h => (by first | exact F2.out ((putL_ne (i := 9) (by decide)).symm.trans h) | rfl), fun h => (by first | exact F3.out ((putL_ne (i := 9) (by decide)).symm.trans h) | rfl), fun h => (by first | exact F4.out ((putL_ne (i := 9) (by decide)).symm.trans h) | rfl), fun h => (by first | exact F5.out ((putL_ne (i := 9) (by decide)).symm.trans h) | rfl), fun h => (fun q => q.imp fun _ k => ⟨k.1, k.2.later hb⟩) (F6.out ((putL_ne (i := 9) (by decide)).symm.trans h)), fun h => (fun q => ⟨q.1, q.2.1.later hb, q.2.2.later hb⟩) (F7.out ((putL_ne (i := 9) (by decide)).symm.trans h)), fun h => (by first | exact F8.out ((putL_ne (i := 9) (by decide)).symm.trans h) | rfl), fun _ => rfl, fun h => (by first | exact F10.out ((putL_ne (i := 9) (by decide)).symm.trans h) | rfl), fun h => (by first | exact F11.out ((putL_ne (i := 9) (by decide)).symm.trans h) | rfl), fun h => absurd (hcl 12 ((putL_ne (i := 9) (by decide)).symm.trans h) 9 (by decide)) (by rw [hLi]; decide)⟩
            · have f0 := F0.out (hanc 0 (by decide))
              have f1 := F1.out (hanc 1 (by decide))
              have f2 := F2.out (hanc 2 (by decide))
              have f3 := F3.out (hanc 3 (by decide))
              have f4 := F4.out (hanc 4 (by decide))
              have f5 := F5.out (hanc 5 (by decide))
              have f6 := F6.out (hanc 6 (by decide))
              have f7 := F7.out (hanc 7 (by decide))
              have f8 := F8.out (hanc 8 (by decide))
              have f := f8
              subst f
              refine YieldsIf.wpOp (S := fun _ => True) (v := vo9) (by rfl) (.inl ⟨rfl, fun w _ => by go_simp⟩) trivial ?_
              simp only [Act.put, List.setIfInBounds_toArray, List.set_cons_zero, List.set_cons_succ]
              have hb : Below wx.heap.size wx wx := Below.refl _ _
              show I (putL L 10) _ _
              exact (HI.out (putL L 10) _ _).2 ⟨_, _, _, _, _, _, _, _, _, _, _, _, al9, cl9, nl9, vo9, q9, rfl, HS.out.later hb, fun h => (E0.out ((putL_ne (i := 10) (by decide)).symm.trans h)).later hb, E1.out.later hb, fun h => (by first | exact F0.out ((putL_ne (i := 10) (by decide)).symm.trans h) | rfl), fun h => (by first | exact F1.out ((putL_ne (i := 10) (by decide)).symm.trans h) | rfl), fun h => (by first | exact F2.out ((putL_ne (i := 10) (by decide)).symm.trans h) | rfl), fun h => (by first | exact F3.out ((putL_ne (i := 10) (by decide)).symm.trans h) | rfl), fun h => (by first | exact F4.out ((putL_ne (i := 10) (by decide)).symm.trans h) | rfl), fun h => (by first | exact F5.out ((putL_ne (i := 10) (by decide)).symm.trans h) | rfl), fun h => (fun q => q.imp fun _ k => ⟨k.1, k.2.later hb⟩) (F6.out ((putL_ne (i := 10) (by decide)).symm.trans h)), fun h => (fun q => ⟨q.1, q.2.1.later hb, q.2.2.later hb⟩) (F7.out ((putL_ne (i := 10) (by decide)).symm.trans h)), fun h => (by first | exact F8.out ((putL_ne (i := 10) (by decide)).symm.trans h) | rfl), fun h => (by first | exact F9.out ((putL_ne (i := 10) (by decide)).symm.trans h) | rfl), fun _ => rfl, fun h => (by first | exact F11.out ((putL_ne (i := 10) (by decide)).symm.trans h) | rfl), fun h => (fun q => q.later hb) (F12.out ((putL_ne (i := 10) (by decide)).symm.trans h))⟩
            · have f0 := F0.out (hanc 0 (by decide))
              have f1 := F1.out (hanc 1 (by decide))
              have f2 := F2.out (hanc 2 (by decide))
              have f3 := F3.out (hanc 3 (by decide))
              have f4 := F4.out (hanc 4 (by decide))
              have f5 := F5.out (hanc 5 (by decide))
              have f6 := F6.out (hanc 6 (by decide))
              have f7 := F7.out (hanc 7 (by decide))
              have f8 := F8.out (hanc 8 (by decide))
              have f := f8
              subst f
              refine YieldsIf.wpOp (S := fun _ => True) (v := .bool true) (by rfl) (.inl ⟨rfl, fun w _ => by go_simp⟩) trivial ?_
              simp only [Act.put, List.setIfInBounds_toArray, List.set_cons_zero, List.set_cons_succ]
              have hb : Below wx.heap.size wx wx := Below.refl _ _
              show I (putL L 11) _ _
              exact (HI.out (putL L 11) _ _).2 ⟨_, _, _, _, _, _, _, _, _, _, _, _, al9, cl9, nl9, vo9, q9, rfl, HS.out.later hb, fun h => (E0.out ((putL_ne (i := 11) (by decide)).symm.trans h)).later hb, E1.out.later hb, fun h => (by first | exact F0.out ((putL_ne (i := 11) (by decide)).symm.trans h) | rfl), fun h => (by first | exact F1.out ((putL_ne (i := 11) (by decide)).symm.trans h) | rfl), fun h => (by first | exact F2.out ((putL_ne (i := 11) (by decide)).symm.trans h) | rfl), fun h => (by first | exact F3.out ((putL_ne (i := 11) (by decide)).symm.trans h) | rfl), fun h => (by first | exact F4.out ((putL_ne (i := 11) (by decide)).symm.trans h) | rfl), fun h => (by first | exact F5.out ((putL_ne (i := 11) (by decide)).symm.trans h) | rfl), fun h => (fun q => q.imp fun _ k => ⟨k.1, k.2.later hb⟩) (F6.out ((putL_ne (i := 11) (by decide)).symm.trans h)), fun h => (fun q => ⟨q.1, q.2.1.later hb, q.2.2.later hb⟩) (F7.out ((putL_ne (i := 11) (by decide)).symm.trans h)), fun h => (by first | exact F8.out ((putL_ne (i := 11) (by decide)).symm.trans h) | rfl), fun h => (by first | exact F9.out ((putL_ne (i := 11) (by decide)).symm.trans h) | rfl), fun h => (by first | exact F10.out ((putL_ne (i := 11) (by decide)).symm.trans h) | rfl), fun _ => rfl, fun h => (fun q => q.later hb) (F12.out ((putL_ne (i := 11) (by decide)).symm.trans h))⟩
            · have f0 := F0.out (hanc 0 (by decide))
              have f1 := F1.out (hanc 1 (by decide))
              have f2 := F2.out (hanc 2 (by decide))
              have f3 := F3.out (hanc 3 (by decide))
              have f4 := F4.out (hanc 4 (by decide))
              have f5 := F5.out (hanc 5 (by decide))
              have f6 := F6.out (hanc 6 (by decide))
              have f7 := F7.out (hanc 7 (by decide))
              have f8 := F8.out (hanc 8 (by decide))
              have f9 := F9.out (hanc 9 (by decide))
              have hun : L 12 = false := hLi
              have hz := E0.out hun
              have f := f9
              subst f
              refine wpOp_doG 12 (by rfl) (by rfl) ?_
              refine wpo_storeB 28 (.tmp 7) (.tmp 62) z7 0 (stC 3 noV (.slice al9 nl9 cl9)) (stC 3 noV va) 28 infoSt (show 0 + 6 ≤ 6 by decide) (stC_one _ _ rfl) rfl rfl rfl hz.s ?_
              intro wn BP ho
              replace BP : Blk wn z7 (stC 3 noV (.slice al9 nl9 cl9)) 28 := BP
              have BS := hz.s
              simp only [Act.put, List.setIfInBounds_toArray, List.set_cons_zero, List.set_cons_succ]
              show I (putL L 12) _ _
              exact (HI.out (putL L 12) _ _).2 ⟨_, _, _, _, _, _, _, _, _, _, _, _, al9, cl9, nl9, vo9, q9, rfl, below_oth HS.out ho hz.z hz.z HS.out.size, fun h => (by rw [putL_self] at h; cases h), E1.out.oth ho hz.s (by omega), fun h => (by first | exact F0.out ((putL_ne (i := 12) (by decide)).symm.trans h) | rfl), fun h => (by first | exact F1.out ((putL_ne (i := 12) (by decide)).symm.trans h) | rfl), fun h => (by first | exact F2.out ((putL_ne (i := 12) (by decide)).symm.trans h) | rfl), fun h => (by first | exact F3.out ((putL_ne (i := 12) (by decide)).symm.trans h) | rfl), fun h => (by first | exact F4.out ((putL_ne (i := 12) (by decide)).symm.trans h) | rfl), fun h => (by first | exact F5.out ((putL_ne (i := 12) (by decide)).symm.trans h) | rfl), fun h => (fun q => q.imp fun _ k => ⟨k.1, k.2.oth ho BS (by decide)⟩) (F6.out ((putL_ne (i := 12) (by decide)).symm.trans h)), fun h => (fun q => ⟨q.1, q.2.1.oth ho BS (by decide), q.2.2.oth ho BS (by decide)⟩) (F7.out ((putL_ne (i := 12) (by decide)).symm.trans h)), fun h => (by first | exact F8.out ((putL_ne (i := 12) (by decide)).symm.trans h) | rfl), fun h => (by first | exact F9.out ((putL_ne (i := 12) (by decide)).symm.trans h) | rfl), fun h => (by first | exact F10.out ((putL_ne (i := 12) (by decide)).symm.trans h) | rfl), fun h => (by first | exact F11.out ((putL_ne (i := 12) (by decide)).symm.trans h) | rfl), fun _ => ⟨BP, f7.2.2.oth ho BS (by decide), hz.z⟩⟩
          · intro L act wx hall hIa
            obtain ⟨t54, t55, t56, t57, t58, t59, t60, t61, t53, t62, t63, t64, al9, cl9, nl9, vo9, q9, rfl, HS, E0, E1, F0, F1, F2, F3, F4, F5, F6, F7, F8, F9, F10, F11, F12⟩ := (HI.out _ _ _).1 hIa
            have f0 := F0.out (hall 0 (by decide))
            have f1 := F1.out (hall 1 (by decide))
            have f2 := F2.out (hall 2 (by decide))
            have f3 := F3.out (hall 3 (by decide))
            have f4 := F4.out (hall 4 (by decide))
            have f5 := F5.out (hall 5 (by decide))
            have f6 := F6.out (hall 6 (by decide))
            have f7 := F7.out (hall 7 (by decide))
            have f8 := F8.out (hall 8 (by decide))
            have f9 := F9.out (hall 9 (by decide))
            have f10 := F10.out (hall 10 (by decide))
            have f11 := F11.out (hall 11 (by decide))
            have f12 := F12.out (hall 12 (by decide))
            clear hIa HI F0 F1 F2 F3 F4 F5 F6 F7 F8 F9 F10 F11 F12
            show K9 _ _
            exact HTl16.out wx al9 cl9 nl9 f12 E1.out HS.out _ _ _ _ _ _ _ _ _ _ _ _
        · have ej : j = k := by omega
          subst ej
          obtain ⟨LA, hLA⟩ : ∃ L, addAll xs = L := ⟨_, rfl⟩
          have HLA : Hid (addAll xs = LA) := hLA
          have HSA : Hid (Srt LA) := by rw [← hLA]; exact addAll_srt _
          have hlenA : LA.length ≤ 1000 := by
            have h := addAll_len xs
            rw [hLA, HN.out] at h
            omega
          have HLnA : Hid (LA.length ≤ 1000) := hlenA
          have e1 : addAll (xs.take j) = LA := by rw [List.take_of_length_le (by rw [HN.out]; omega)]; exact hLA
          have e2 : addAll ((turn xs bn).take j) = LA := by rw [List.take_of_length_le (by rw [turn_len, HN.out]; omega), turn_one]; exact hLA
          rw [e1] at HSa
          rw [e2] at HSb
          clear hLA hlenA e1 e2 hj hlt2
          obtain ⟨s0, s1, s2, s3, s4, s5⟩ := st_cells HSa.out.s
          obtain ⟨r0, r1, r2, r3, r4, r5⟩ := st_cells HSb.out.s
          simp only [noV] at s1 s2 s3 r1 r2 r3
          have hsm := fun w' (h1 : OwnV w' w.heap.size va LA) (h2 : OwnV w' w.heap.size vb LA) => same_yesL 3 noV va vb LA w' h1.vsl h2.vsl (by have := HLnA.out; omega)
          simp only [stC, noV] at hsm
          have HSm : Hid (∀ w', OwnV w' w.heap.size va LA → OwnV w' w.heap.size vb LA → _) := hsm
          clear hsm
          by_cases hk00 : j = 0
          · subst hk00
            go_wp2_with (go_at_call 10; refine (HSm.out _ (HSa.out.l) (HSb.out.l)).mono ?_; rintro e w9 ⟨rfl, hb9⟩; have HSa9 := HSa.out.later hb9; have HSb9 := HSb.out.later hb9; have HB9 := below_next HB.out hb9; clear HSa HSb HB s0 s1 s2 s3 s4 s5 r0 r1 r2 r3 r4 r5; obtain ⟨s0, s1, s2, s3, s4, s5⟩ := st_cells HSa9.s; obtain ⟨r0, r1, r2, r3, r4, r5⟩ := st_cells HSb9.s; simp only [noV] at s1 s2 s3 r1 r2 r3; have HSa : Hid _ := HSa9; have HSb : Hid _ := HSb9; have HB : Hid _ := HB9; clear HSa9 HSb9 HB9 hb9)
            go_ret
            exact ⟨rfl, HB.out⟩
          have hj0 : 0 < j := by omega
          have hj0i : ((j : Int) == 0) = false := by simp; omega
          obtain ⟨m9, hm9⟩ : ∃ m9, bn % j = m9 := ⟨_, rfl⟩
          have hm9k : m9 < j := by rw [← hm9]; exact Nat.mod_lt _ hj0
          have hmod : (bn : Int) % (j : Int) = (m9 : Int) := by rw [← hm9]; exact (Int.natCast_emod _ _).symm
          have hmod' : (bn : Int).tmod (j : Int) = (m9 : Int) := by rw [Int.tmod_eq_emod_of_nonneg (by omega)]; exact hmod
          have hwb : IntKind.i64.wrap (bn : Int) = (bn : Int) := IntWalk.i64_in _ ⟨by omega, by have := HBn.out; omega⟩
          have hm9i : (m9 : Int) < (j : Int) := by omega
          obtain ⟨b, o, c', hv1, hbl, _, hat⟩ := vsl_first HV.out (by rw [HN.out]; exact hj0)
          injection hv1 with hv1 hv2 hv3
          subst hv1 hv3
          clear hv2
          have HAt : Hid (∀ wx, Below w.heap.size w wx → ∀ i, i < j → At wx b (o + i * 3) (nv xs i)) := fun wx hx i hi => (hat i (by rw [HN.out]; exact hi)).later hbl hx
          obtain ⟨v9, hv9⟩ : ∃ v9, nv xs m9 = v9 := ⟨_, rfl⟩
          have HVv : Hid (nV v9 = true ∧ v9.2.2.size ≤ 100) := by rw [← hv9]; exact HA.out m9 hm9k
          have HVm : Hid (v9 ∈ xs) := by rw [← hv9, nv_eq xs m9 (by rw [HN.out]; exact hm9k)]; exact List.getElem_mem _
          have HV9 : Hid (∀ wx, Below w.heap.size w wx → At wx b (o + m9 * 3) v9) := by rw [← hv9]; exact fun wx hx => HAt.out wx hx m9 hm9k
          clear hat hbl hm9 hv9
          go_wp2_with (go_at_call 10; refine (HSm.out _ (HSa.out.l) (HSb.out.l)).mono ?_; rintro e w9 ⟨rfl, hb9⟩; have HSa9 : Hid (Hs w w9 z7 va LA) := HSa.out.later hb9; have HB9 : Hid (Below w.heap.size w w9) := below_next HB.out hb9; obtain ⟨c0, c1, c2⟩ := HV9.out w9 HB9.out; clear HSa HSb HB s0 s1 s2 s3 s4 s5 r0 r1 r2 r3 r4 r5 hb9)
          have bx := below_box w9 (.cells (encV v9).toArray 25)
          have HSa : Hid (Hs w (w9.alloc (.cells (encV v9).toArray 25)) z7 va LA) := HSa9.out.later bx
          have HB : Hid (Below w.heap.size w (w9.alloc (.cells (encV v9).toArray 25))) := below_next HB9.out bx
          have HQ : Hid (Blk (w9.alloc (.cells (encV v9).toArray 25)) w9.heap.size (encV v9) 25) := Blk.new w9 _ _
          change Code.wp _ _ _ _ (w9.alloc (.cells (encV v9).toArray 25))
          obtain ⟨q11, hq11⟩ : ∃ q11, w9.heap.size = q11 := ⟨_, rfl⟩
          generalize w9.alloc (.cells (encV v9).toArray 25) = w14 at HSa HB HQ ⊢
          rw [hq11] at HQ
          simp only [hq11]
          clear hq11 bx HSa9 HB9 c0 c1 c2 hwb hmod hmod'
          rename_i K9 hK9
          have HAg : Hid (addB v9 LA = LA) := by show _ = _; rw [← HLA.out]; exact addAll_again HVm.out
          have tail22 : ∀ (w' : World) (q9 : Nat) (al9 : Option Addr) (cl9 nl9 : Nat), Hs w w' q9 (.slice al9 nl9 cl9) LA → Stay w14 w' → w14.heap.size ≤ q9 → ∀ t1 t2 t3 t4 t5 t6 t8 t9 t10 t13 t15 t16 t17 t18 t19 t20 t21 t22 t23 t24 t25 t26 t27 t28 t29 t30 t31 t32 t33 t34 t35 t36 t37 t38 t39 t40 t41 t42 t43 t44 t45 t46 t47 t48 t49 t50 t51 t52 t53 t54 t55 t56 t57 t58 t59 t60 t61 t62 t63 t64 t65 t66 t67 t68 t69 t70 t71 t72 t73 t74 t75 t76 t77 t78 t79 t80 t81 t82 t83 t84 t85 t86 t87 t88 t89 t90 t91 t92 t93 t94 t95 t96 t97 t98 t99 t100 t101 t102 t103 t104 t105 t106 t107 t108 t109 t110 t111 t112 t113 t114 t115 t116 t117 t118 t119 t120 t121 t122 t123 t124 t125 t126 t127 t128 t129 t130 t131 t132 t133 t134 t135 t136 t137 t138 t139 t140 t141 t142 t143 t144 t145 t146 t147 t148 t149 t150 t151 t152 t153 t154 t155 t156 t157 t158 : Value, K9 ⟨#[Value.slice (some ⟨b, o, none⟩) j c, t1, t2, t3, t4, t5, t6, Value.pointer (some ⟨z7, 0, none⟩), t8, t9, t10, Value.pointer (some ⟨q11, 0, none⟩), Value.pointer (some ⟨q9, 0, none⟩), t13, Value.bool true, t15, t16, t17, t18, t19, t20, t21, t22, t23, t24, t25, t26, t27, t28, t29, t30, t31, t32, t33, t34, t35, t36, t37, t38, t39, t40, t41, t42, t43, t44, t45, t46, t47, t48, t49, t50, t51, t52, t53, t54, t55, t56, t57, t58, t59, t60, t61, t62, t63, t64, t65, t66, t67, t68, t69, t70, t71, t72, t73, t74, t75, t76, t77, t78, t79, t80, t81, t82, t83, t84, t85, t86, t87, t88, t89, t90, t91, t92, t93, t94, t95, t96, t97, t98, t99, t100, t101, t102, t103, t104, t105, t106, t107, t108, t109, t110, t111, t112, t113, t114, t115, t116, t117, t118, t119, t120, t121, t122, t123, t124, t125, t126, t127, t128, t129, t130, t131, t132, t133, t134, t135, t136, t137, t138, t139, t140, t141, t142, t143, t144, t145, t146, t147, t148, t149, t150, t151, t152, t153, t154, t155, t156, t157, t158], []⟩ w' := by
            intro w' z12 al9 cl9 nl9 HN9 HS9 hq9w t1 t2 t3 t4 t5 t6 t8 t9 t10 t13 t15 t16 t17 t18 t19 t20 t21 t22 t23 t24 t25 t26 t27 t28 t29 t30 t31 t32 t33 t34 t35 t36 t37 t38 t39 t40 t41 t42 t43 t44 t45 t46 t47 t48 t49 t50 t51 t52 t53 t54 t55 t56 t57 t58 t59 t60 t61 t62 t63 t64 t65 t66 t67 t68 t69 t70 t71 t72 t73 t74 t75 t76 t77 t78 t79 t80 t81 t82 t83 t84 t85 t86 t87 t88 t89 t90 t91 t92 t93 t94 t95 t96 t97 t98 t99 t100 t101 t102 t103 t104 t105 t106 t107 t108 t109 t110 t111 t112 t113 t114 t115 t116 t117 t118 t119 t120 t121 t122 t123 t124 t125 t126 t127 t128 t129 t130 t131 t132 t133 t134 t135 t136 t137 t138 t139 t140 t141 t142 t143 t144 t145 t146 t147 t148 t149 t150 t151 t152 t153 t154 t155 t156 t157 t158
            apply hK9
            clear hK9 K9
            obtain ⟨vc, hvc⟩ : ∃ vc, Value.slice al9 nl9 cl9 = vc := ⟨_, rfl⟩
            rw [hvc] at HN9
            have HSa2 : Hid (Hs w w' z7 va LA) := HSa.out.later HS9
            have HSc2 : Hid (Hs w w' z12 vc LA) := HN9
            have HQ2 : Hid (Blk w' q11 (encV v9) 25) := HQ.out.later HS9
            have HB2 : Hid (Below w.heap.size w w') := below_next HB.out HS9
            have hN := fun w => HK.out.new 3 w
            rw [if_pos (by kernel_rfl), show ownB 3 = true by kernel_rfl] at hN
            simp only [stC, noV] at hN
            have hq79 : z7 < z12 := by have := HSa.out.s.lt; omega
            have hq119 : q11 < z12 := by have := HQ.out.lt; omega
            have HLt : Hid (z7 < z12 ∧ q11 < z12) := ⟨hq79, hq119⟩
            clear hvc HN9 HS9 hq9w HSa HQ HB hq79 hq119
            go_wp2_with (go_at_call 7; refine (hN _).mono ?_; rintro e w16 ⟨rfl, hb16⟩)
            clear hN
            have bx := below_box w16 (.cells (stC 3 noV nilS).toArray 28)
            have HSa : Hid (Hs w (w16.alloc (.cells (stC 3 noV nilS).toArray 28)) z7 va LA) := (HSa2.out.later hb16).later bx
            have HSc : Hid (Hs w (w16.alloc (.cells (stC 3 noV nilS).toArray 28)) z12 vc LA) := (HSc2.out.later hb16).later bx
            have HQ : Hid (Blk (w16.alloc (.cells (stC 3 noV nilS).toArray 28)) q11 (encV v9) 25) := (HQ2.out.later hb16).later bx
            have HB : Hid (Below w.heap.size w (w16.alloc (.cells (stC 3 noV nilS).toArray 28))) := below_next (below_next HB2.out hb16) bx
            have HSw : Hid (Hs w (w16.alloc (.cells (stC 3 noV nilS).toArray 28)) w16.heap.size nilS []) := ⟨Blk.new w16 _ _, OwnV.nil _ _, (below_next HB2.out hb16).size⟩
            have hlt15 : z12 < w16.heap.size := (HSc2.out.later hb16).s.lt
            change Hid (Hs w (w16.alloc (.cells #[.int .i64 3, .int .i64 0, .int .i64 0, .string noB, .int .i64 0, .slice none 0 0] 28)) _ _ _) at HSa HSc HSw
            change Hid (Blk (w16.alloc (.cells #[.int .i64 3, .int .i64 0, .int .i64 0, .string noB, .int .i64 0, .slice none 0 0] 28)) _ _ _) at HQ
            change Hid (Below _ w (w16.alloc (.cells #[.int .i64 3, .int .i64 0, .int .i64 0, .string noB, .int .i64 0, .slice none 0 0] 28))) at HB
            generalize w16.alloc (.cells #[.int .i64 3, .int .i64 0, .int .i64 0, .string noB, .int .i64 0, .slice none 0 0] 28) = w17 at HSa HSc HQ HB HSw ⊢
            obtain ⟨z15, hz15⟩ : ∃ z15, w16.heap.size = z15 := ⟨_, rfl⟩
            rw [hz15] at HSw hlt15
            simp only [hz15]
            clear hz15 hb16 bx HSa2 HSc2 HQ2 HB2
            go_loopw [119] (fun i wr => ∃ r : Nat, r ≤ j ∧ i = .int .i64 (r : Int) ∧ L1 w wr z15 (addAll (butK xs v9 r)) ∧ Hs w wr z7 va LA ∧ Hs w wr z12 vc LA ∧ Blk wr q11 (encV v9) 25 ∧ Below w.heap.size w wr) (fun i wr => j - (intOf i).toNat)
            case atStart => exact ⟨0, by omega, rfl, ⟨nilS, HSw.out⟩, HSa.out, HSc.out, HQ.out, HB.out⟩
            case round =>
              obtain ⟨r, hr, rfl, ⟨vw, hsw⟩, hsa, hsc, hqq, hbb⟩ := hrel
              clear HSa HSc HQ HB HSw
              have HSw : Hid (Hs w wr z15 vw (addAll (butK xs v9 r))) := hsw
              have HSa : Hid (Hs w wr z7 va LA) := hsa
              have HSc : Hid (Hs w wr z12 vc LA) := hsc
              have HQ : Hid (Blk wr q11 (encV v9) 25) := hqq
              have HB : Hid (Below w.heap.size w wr) := hbb
              clear hsw hsa hsc hqq hbb
              by_cases hrj : r < j
              · have hrj' : (r : Int) < (j : Int) := by omega
                have hrm : (r : Int) + 1 ≤ 9223372036854775807 := by omega
                obtain ⟨e, he⟩ : ∃ e, nv xs r = e := ⟨_, rfl⟩
                have HEe : Hid (nV e = true ∧ e.2.2.size ≤ 100) := by rw [← he]; exact HA.out r hrj
                have hat := HAt.out wr HB.out r hrj
                have HNx : Hid (butK xs v9 (r + 1) = if e = v9 then butK xs v9 r else butK xs v9 r ++ [e]) := by show _ = _; rw [← he]; exact butK_next (by rw [HN.out]; exact hrj)
                rw [he] at hat
                obtain ⟨c0, c1, c2⟩ := hat
                clear he
                obtain ⟨v0, v1, v2⟩ := v_cells HQ.out
                have hql : q11 < wr.heap.size := HQ.out.lt
                have bx := below_box wr (.cells (encV e).toArray 25)
                have HSw5 : Hid (Hs w (wr.alloc (.cells (encV e).toArray 25)) z15 vw (addAll (butK xs v9 r))) := HSw.out.later bx
                have HSa5 : Hid (Hs w (wr.alloc (.cells (encV e).toArray 25)) z7 va LA) := HSa.out.later bx
                have HSc5 : Hid (Hs w (wr.alloc (.cells (encV e).toArray 25)) z12 vc LA) := HSc.out.later bx
                have HQ5 : Hid (Blk (wr.alloc (.cells (encV e).toArray 25)) q11 (encV v9) 25) := HQ.out.later bx
                have HB5 : Hid (Below w.heap.size w (wr.alloc (.cells (encV e).toArray 25))) := below_next HB.out bx
                have HE5 : Hid (Blk (wr.alloc (.cells (encV e).toArray 25)) wr.heap.size (encV e) 25) := Blk.new wr _ _
                have hzq : z15 < wr.heap.size := HSw.out.s.lt
                change Hid (Hs w (wr.alloc (.cells #[.int .i64 e.1, .int .i64 e.2.1, .string e.2.2] 25)) _ _ _) at HSw5 HSa5 HSc5
                change Hid (Blk (wr.alloc (.cells #[.int .i64 e.1, .int .i64 e.2.1, .string e.2.2] 25)) _ _ _) at HQ5 HE5
                change Hid (Below _ w (wr.alloc (.cells #[.int .i64 e.1, .int .i64 e.2.1, .string e.2.2] 25))) at HB5
                clear HSw HSa HSc HQ HB bx
                have hq := fun w => neV e.1 e.2.1 v9.1 v9.2.1 e.2.2 v9.2.2 w
                have hg := eqgV
                by_cases hev : e = v9
                · have ee : eqvB e.1 e.2.1 e.2.2 v9.1 v9.2.1 v9.2.2 = true := (eqvB_iff _ _ _ _ _ _).2 hev
                  rw [ee, Bool.not_true] at hq
                  have HNb : Hid (butK xs v9 (r + 1) = butK xs v9 r) := by show _ = _; rw [HNx.out, if_pos hev]
                  clear ee hev HNx
                  go_wp2
                  go_roundw
                  case rel => exact ⟨r + 1, by omega, by go_num, ⟨vw, by rw [HNb.out]; exact HSw5.out⟩, HSa5.out, HSc5.out, HQ5.out, HB5.out⟩
                  case measure => simp [intOf]; omega
                · have ee : eqvB e.1 e.2.1 e.2.2 v9.1 v9.2.1 v9.2.2 = false := Bool.eq_false_iff.2 fun k => hev ((eqvB_iff _ _ _ _ _ _).1 k)
                  rw [ee, Bool.not_false] at hq
                  have HNb : Hid (butK xs v9 (r + 1) = butK xs v9 r ++ [e]) := by show _ = _; rw [HNx.out, if_neg hev]
                  clear ee hev HNx
                  go_wp2_with fail
                  generalize wr.alloc (.cells #[.int .i64 e.1, .int .i64 e.2.1, .string e.2.2] 25) = w18 at HSw5 HSa5 HSc5 HQ5 HB5 HE5 ⊢
                  obtain ⟨q18, hq18⟩ : ∃ q18, wr.heap.size = q18 := ⟨_, rfl⟩
                  rw [hq18] at HE5 hzq hql
                  simp only [hq18]
                  clear hq18 c0 c1 c2 v0 v1 v2 hq hg
                  rename_i K9 hK9
                  obtain ⟨Lw, hLw⟩ : ∃ L, addAll (butK xs v9 r) = L := ⟨_, rfl⟩
                  obtain ⟨Lw9, hLw9⟩ : ∃ L, addAll (butK xs v9 (r + 1)) = L := ⟨_, rfl⟩
                  have HLw9 : Hid (addAll (butK xs v9 (r + 1)) = Lw9) := hLw9
                  have HNxW : Hid (addB e Lw = Lw9) := by show _ = _; rw [← hLw, ← hLw9, HNb.out, addAll_snoc]
                  have HSrtW : Hid (Srt Lw) := by rw [← hLw]; exact addAll_srt _
                  have HLnW : Hid (Lw.length ≤ 1000) := by
                    have h := addAll_len (butK xs v9 r)
                    have h2 : (butK xs v9 r).length ≤ r := by unfold butK; exact Nat.le_trans (List.length_filter_le _ _) (by rw [List.length_take]; omega)
                    rw [hLw] at h
                    exact (by omega : Lw.length ≤ 1000)
                  rw [hLw] at HSw5
                  clear hLw hLw9 HNb
                  have tail28 : ∀ (w' : World) (al9 : Option Addr) (cl9 nl9 : Nat), Hs w w' z15 (.slice al9 nl9 cl9) Lw9 → Rs w w' z7 va z12 vc LA q11 v9 → Below w.heap.size w w' → ∀ x126 x127 x128 x129 x130 x131 x132 x133 x134 : Value, K9 ⟨#[Value.slice (some ⟨b, o, none⟩) j c, t1, t2, t3, t4, t5, t6, Value.pointer (some ⟨z7, 0, none⟩), t8, t9, t10, Value.pointer (some ⟨q11, 0, none⟩), Value.pointer (some ⟨z12, 0, none⟩), t13, Value.bool true, Value.pointer (some ⟨z15, 0, none⟩), Value.bool true, t17, Value.pointer (some ⟨q18, 0, none⟩), t19, t20, t21, t22, t23, t24, t25, t26, t27, t28, t29, t30, t31, t32, t33, t34, t35, t36, t37, t38, t39, t40, t41, t42, t43, t44, t45, t46, t47, t48, t49, t50, t51, t52, t53, t54, t55, t56, t57, t58, t59, t60, t61, t62, t63, t64, t65, t66, t67, t68, t69, t70, t71, t72, t73, t74, t75, t76, t77, t78, t79, t80, t81, t82, t83, t84, t85, t86, t87, t88, t89, t90, t91, t92, t93, t94, t95, t96, t97, t98, t99, t100, t101, t102, t103, t104, t105, t106, t107, t108, t109, t110, t111, t112, Value.tuple #[Value.agg #[Value.int IntKind.i64 3, Value.int IntKind.i64 0, Value.int IntKind.i64 0, Value.string noB, Value.int IntKind.i64 0, nilS], Value.bool true], Value.tuple #[Value.agg #[Value.int IntKind.i64 3, Value.int IntKind.i64 0, Value.int IntKind.i64 0, Value.string noB, Value.int IntKind.i64 0, nilS], Value.bool true], Value.agg #[Value.int IntKind.i64 3, Value.int IntKind.i64 0, Value.int IntKind.i64 0, Value.string noB, Value.int IntKind.i64 0, nilS], Value.bool true, Value.slice (some ⟨b, o, none⟩) j c, Value.int IntKind.i64 (j : Int), Value.int IntKind.i64 (r : Int), Value.bool true, Value.pointer (some ⟨b, o + r * 3, none⟩), Value.agg #[Value.int IntKind.i64 e.fst, Value.int IntKind.i64 e.snd.fst, Value.string e.snd.snd], Value.agg #[Value.int IntKind.i64 e.fst, Value.int IntKind.i64 e.snd.fst, Value.string e.snd.snd], Value.agg #[Value.int IntKind.i64 v9.fst, Value.int IntKind.i64 v9.snd.fst, Value.string v9.snd.snd], Value.bool true, x126, x127, x128, x129, x130, x131, x132, x133, x134, u135, t136, t137, t138, t139, t140, t141, t142, t143, t144, t145, t146, t147, t148, t149, t150, t151, t152, t153, t154, t155, t156, t157, t158], []⟩ w' := by
                    intro w' al9 cl9 nl9 HN9 HO9 HS9 x126 x127 x128 x129 x130 x131 x132 x133 x134
                    apply hK9
                    clear hK9 K9
                    go_wp2_with fail
                    go_roundw
                    case rel => exact ⟨r + 1, by omega, by go_num, ⟨_, by rw [HLw9.out]; exact HN9⟩, HO9.1, HO9.2.1, HO9.2.2, HS9⟩
                    case measure => simp [intOf]; omega
                  have HTl28 : Hid (∀ (w' : World) (al9 : Option Addr) (cl9 nl9 : Nat), Hs w w' z15 (.slice al9 nl9 cl9) Lw9 → Rs w w' z7 va z12 vc LA q11 v9 → Below w.heap.size w w' → ∀ x126 x127 x128 x129 x130 x131 x132 x133 x134 : Value, K9 ⟨#[Value.slice (some ⟨b, o, none⟩) j c, t1, t2, t3, t4, t5, t6, Value.pointer (some ⟨z7, 0, none⟩), t8, t9, t10, Value.pointer (some ⟨q11, 0, none⟩), Value.pointer (some ⟨z12, 0, none⟩), t13, Value.bool true, Value.pointer (some ⟨z15, 0, none⟩), Value.bool true, t17, Value.pointer (some ⟨q18, 0, none⟩), t19, t20, t21, t22, t23, t24, t25, t26, t27, t28, t29, t30, t31, t32, t33, t34, t35, t36, t37, t38, t39, t40, t41, t42, t43, t44, t45, t46, t47, t48, t49, t50, t51, t52, t53, t54, t55, t56, t57, t58, t59, t60, t61, t62, t63, t64, t65, t66, t67, t68, t69, t70, t71, t72, t73, t74, t75, t76, t77, t78, t79, t80, t81, t82, t83, t84, t85, t86, t87, t88, t89, t90, t91, t92, t93, t94, t95, t96, t97, t98, t99, t100, t101, t102, t103, t104, t105, t106, t107, t108, t109, t110, t111, t112, Value.tuple #[Value.agg #[Value.int IntKind.i64 3, Value.int IntKind.i64 0, Value.int IntKind.i64 0, Value.string noB, Value.int IntKind.i64 0, nilS], Value.bool true], Value.tuple #[Value.agg #[Value.int IntKind.i64 3, Value.int IntKind.i64 0, Value.int IntKind.i64 0, Value.string noB, Value.int IntKind.i64 0, nilS], Value.bool true], Value.agg #[Value.int IntKind.i64 3, Value.int IntKind.i64 0, Value.int IntKind.i64 0, Value.string noB, Value.int IntKind.i64 0, nilS], Value.bool true, Value.slice (some ⟨b, o, none⟩) j c, Value.int IntKind.i64 (j : Int), Value.int IntKind.i64 (r : Int), Value.bool true, Value.pointer (some ⟨b, o + r * 3, none⟩), Value.agg #[Value.int IntKind.i64 e.fst, Value.int IntKind.i64 e.snd.fst, Value.string e.snd.snd], Value.agg #[Value.int IntKind.i64 e.fst, Value.int IntKind.i64 e.snd.fst, Value.string e.snd.snd], Value.agg #[Value.int IntKind.i64 v9.fst, Value.int IntKind.i64 v9.snd.fst, Value.string v9.snd.snd], Value.bool true, x126, x127, x128, x129, x130, x131, x132, x133, x134, u135, t136, t137, t138, t139, t140, t141, t142, t143, t144, t145, t146, t147, t148, t149, t150, t151, t152, t153, t154, t155, t156, t157, t158], []⟩ w') := tail28
                  clear tail28 hK9
                  obtain ⟨I, hI⟩ : ∃ I : (Nat → Bool) → Act → World → Prop, ∀ L act wx, I L act wx ↔ (fun (L : Nat → Bool) (act : Act) (wx : World) => ∃ (t127 : Value) (t128 : Value) (t129 : Value) (t130 : Value) (t131 : Value) (t126 : Value) (t132 : Value) (t133 : Value) (t134 : Value) (al9 : Option Addr) (cl9 : Nat) (nl9 : Nat) (vo9 : Value) (q9 : Nat), act = ⟨#[Value.slice (some ⟨b, o, none⟩) j c, t1, t2, t3, t4, t5, t6, Value.pointer (some ⟨z7, 0, none⟩), t8, t9, t10, Value.pointer (some ⟨q11, 0, none⟩), Value.pointer (some ⟨z12, 0, none⟩), t13, Value.bool true, Value.pointer (some ⟨z15, 0, none⟩), Value.bool true, t17, Value.pointer (some ⟨q18, 0, none⟩), t19, t20, t21, t22, t23, t24, t25, t26, t27, t28, t29, t30, t31, t32, t33, t34, t35, t36, t37, t38, t39, t40, t41, t42, t43, t44, t45, t46, t47, t48, t49, t50, t51, t52, t53, t54, t55, t56, t57, t58, t59, t60, t61, t62, t63, t64, t65, t66, t67, t68, t69, t70, t71, t72, t73, t74, t75, t76, t77, t78, t79, t80, t81, t82, t83, t84, t85, t86, t87, t88, t89, t90, t91, t92, t93, t94, t95, t96, t97, t98, t99, t100, t101, t102, t103, t104, t105, t106, t107, t108, t109, t110, t111, t112, Value.tuple #[Value.agg #[Value.int IntKind.i64 3, Value.int IntKind.i64 0, Value.int IntKind.i64 0, Value.string noB, Value.int IntKind.i64 0, nilS], Value.bool true], Value.tuple #[Value.agg #[Value.int IntKind.i64 3, Value.int IntKind.i64 0, Value.int IntKind.i64 0, Value.string noB, Value.int IntKind.i64 0, nilS], Value.bool true], Value.agg #[Value.int IntKind.i64 3, Value.int IntKind.i64 0, Value.int IntKind.i64 0, Value.string noB, Value.int IntKind.i64 0, nilS], Value.bool true, Value.slice (some ⟨b, o, none⟩) j c, Value.int IntKind.i64 (j : Int), Value.int IntKind.i64 (r : Int), Value.bool true, Value.pointer (some ⟨b, o + r * 3, none⟩), Value.agg #[Value.int IntKind.i64 e.fst, Value.int IntKind.i64 e.snd.fst, Value.string e.snd.snd], Value.agg #[Value.int IntKind.i64 e.fst, Value.int IntKind.i64 e.snd.fst, Value.string e.snd.snd], Value.agg #[Value.int IntKind.i64 v9.fst, Value.int IntKind.i64 v9.snd.fst, Value.string v9.snd.snd], Value.bool true, t126, t127, t128, t129, t130, t131, t132, t133, t134, u135, t136, t137, t138, t139, t140, t141, t142, t143, t144, t145, t146, t147, t148, t149, t150, t151, t152, t153, t154, t155, t156, t157, t158], []⟩ ∧ Hid (StW w wx) ∧ Hid (L 9 = false → Hs w wx z15 vw Lw) ∧ Hid (Rs w wx z7 va z12 vc LA q11 v9) ∧ Hid (Blk wx q18 (encV e) 25) ∧ Hid (L 0 = true → t127 = .agg #[.int .i64 3, .int .i64 0, .int .i64 0, .string noB, .int .i64 0, vw]) ∧ Hid (L 1 = true → t128 = .agg #[.int .i64 1, .int .i64 1, .string noB]) ∧ Hid (L 2 = true → t129 = .agg #[.int .i64 e.1, .int .i64 e.2.1, .string e.2.2]) ∧ Hid (L 3 = true → ∃ q8 : Nat, t130 = .slice (some ⟨q8, 0, none⟩) 1 1 ∧ OwnV wx w.heap.size t130 [e]) ∧ Hid (L 4 = true → t131 = .tuple #[.agg (stC 3 noV (.slice al9 nl9 cl9)).toArray, vo9, .bool true] ∧ OwnV wx w.heap.size vo9 [] ∧ OwnV wx w.heap.size (.slice al9 nl9 cl9) Lw9) ∧ Hid (L 5 = true → t126 = .tuple #[.agg (stC 3 noV (.slice al9 nl9 cl9)).toArray, vo9, .bool true]) ∧ Hid (L 6 = true → t132 = .agg (stC 3 noV (.slice al9 nl9 cl9)).toArray) ∧ Hid (L 7 = true → t133 = vo9) ∧ Hid (L 8 = true → t134 = .bool true) ∧ Hid (L 9 = true → Hs w wx z15 (.slice al9 nl9 cl9) Lw9)) L act wx := ⟨_, fun _ _ _ => Iff.rfl⟩
                  dsimp only at hI
                  have HI : Hid (∀ L act wx, I L act wx ↔ _) := hI
                  clear hI
                  refine wp_region_inv mixed [[], [], [], [2], [0, 1, 2, 3], [0, 1, 2, 3, 4], [0, 1, 2, 3, 4, 5], [0, 1, 2, 3, 4, 5], [0, 1, 2, 3, 4, 5], [0, 1, 2, 3, 4, 5, 6]] (by kernel_rfl) I ?_ ?_ ?_
                  · refine (HI.out _ _ _).2 ⟨_, _, _, _, _, _, _, _, _, none, 0, 0, undef, 0, rfl, ?_, ?_, ?_, ?_, fun h => Bool.noConfusion h, fun h => Bool.noConfusion h, fun h => Bool.noConfusion h, fun h => Bool.noConfusion h, fun h => Bool.noConfusion h, fun h => Bool.noConfusion h, fun h => Bool.noConfusion h, fun h => Bool.noConfusion h, fun h => Bool.noConfusion h, fun h => Bool.noConfusion h⟩
                    · exact below_next (And.intro HB5.out HSw5.out).1 (Stay.drew _)
                    · exact fun _ => (And.intro HB5.out HSw5.out).2.later (Stay.drew _)
                    · exact (⟨HSa5.out.later (Stay.drew w18), HSc5.out.later (Stay.drew w18), HQ5.out.later (Stay.drew w18)⟩ : Rs _ _ _ _ _ _ _ _ _)
                    · exact HE5.out.later (Stay.drew _)
                  · intro i hi L act wx hIa hLi hcl hanc
                    obtain ⟨t127, t128, t129, t130, t131, t126, t132, t133, t134, al9, cl9, nl9, vo9, q9, rfl, HS, E0, E1, E2, F0, F1, F2, F3, F4, F5, F6, F7, F8, F9⟩ := (HI.out _ _ _).1 hIa
                    clear hIa
                    have hi' : i = 0 ∨ i = 1 ∨ i = 2 ∨ i = 3 ∨ i = 4 ∨ i = 5 ∨ i = 6 ∨ i = 7 ∨ i = 8 ∨ i = 9 := by have hi : i < 10 := hi; omega
                    clear hi
                    rcases hi' with rfl | rfl | rfl | rfl | rfl | rfl | rfl | rfl | rfl | rfl
                    · have hun : L 9 = false := by
                        cases h : L 9
                        · rfl
                        · exact absurd (hcl 9 h 0 (by decide)) (by rw [hLi]; decide)
                      have hz := E0.out hun
                      refine wpOp_doG 0 (by rfl) (by rfl) ?_
                      refine wp_load_mid 28 (.tmp 15) rfl z15 0 rfl (stC 3 noV vw) _ (Blk.all hz.s) Tryd.underlying28 rfl infoSt ?_
                      simp only [Act.put, List.setIfInBounds_toArray, List.set_cons_zero, List.set_cons_succ]
                      have hb : Below wx.heap.size wx wx := Below.refl _ _
                      show I (putL L 0) _ _
                      exact (HI.out (putL L 0) _ _).2 ⟨_, _, _, _, _, _, _, _, _, al9, cl9, nl9, vo9, q9, rfl, HS.out.later hb, fun h => (E0.out ((putL_ne (i := 0) (by decide)).symm.trans h)).later hb, E1.out.later hb, E2.out.later hb, fun _ => rfl, fun h => (by first | exact F1.out ((putL_ne (i := 0) (by decide)).symm.trans h) | rfl), fun h => (by first | exact F2.out ((putL_ne (i := 0) (by decide)).symm.trans h) | rfl), fun h => (fun q => q.imp fun _ k => ⟨k.1, k.2.later hb⟩) (F3.out ((putL_ne (i := 0) (by decide)).symm.trans h)), fun h => absurd (hcl 4 ((putL_ne (i := 0) (by decide)).symm.trans h) 0 (by decide)) (by rw [hLi]; decide), fun h => absurd (hcl 5 ((putL_ne (i := 0) (by decide)).symm.trans h) 0 (by decide)) (by rw [hLi]; decide), fun h => absurd (hcl 6 ((putL_ne (i := 0) (by decide)).symm.trans h) 0 (by decide)) (by rw [hLi]; decide), fun h => absurd (hcl 7 ((putL_ne (i := 0) (by decide)).symm.trans h) 0 (by decide)) (by rw [hLi]; decide), fun h => absurd (hcl 8 ((putL_ne (i := 0) (by decide)).symm.trans h) 0 (by decide)) (by rw [hLi]; decide), fun h => absurd (hcl 9 ((putL_ne (i := 0) (by decide)).symm.trans h) 0 (by decide)) (by rw [hLi]; decide)⟩
                    · refine wpOp_doG 1 (by rfl) (by rfl) ?_
                      go_wp2_with fail
                      refine (num_any 1 wx).mono ?_
                      rintro e9 wn ⟨rfl, hb⟩
                      show I (putL L 1) _ _
                      exact (HI.out (putL L 1) _ _).2 ⟨_, _, _, _, _, _, _, _, _, al9, cl9, nl9, vo9, q9, rfl, HS.out.later hb, fun h => (E0.out ((putL_ne (i := 1) (by decide)).symm.trans h)).later hb, E1.out.later hb, E2.out.later hb, fun h => (by first | exact F0.out ((putL_ne (i := 1) (by decide)).symm.trans h) | rfl), fun _ => rfl, fun h => (by first | exact F2.out ((putL_ne (i := 1) (by decide)).symm.trans h) | rfl), fun h => (fun q => q.imp fun _ k => ⟨k.1, k.2.later hb⟩) (F3.out ((putL_ne (i := 1) (by decide)).symm.trans h)), fun h => absurd (hcl 4 ((putL_ne (i := 1) (by decide)).symm.trans h) 1 (by decide)) (by rw [hLi]; decide), fun h => absurd (hcl 5 ((putL_ne (i := 1) (by decide)).symm.trans h) 1 (by decide)) (by rw [hLi]; decide), fun h => absurd (hcl 6 ((putL_ne (i := 1) (by decide)).symm.trans h) 1 (by decide)) (by rw [hLi]; decide), fun h => absurd (hcl 7 ((putL_ne (i := 1) (by decide)).symm.trans h) 1 (by decide)) (by rw [hLi]; decide), fun h => absurd (hcl 8 ((putL_ne (i := 1) (by decide)).symm.trans h) 1 (by decide)) (by rw [hLi]; decide), fun h => absurd (hcl 9 ((putL_ne (i := 1) (by decide)).symm.trans h) 1 (by decide)) (by rw [hLi]; decide)⟩
                    · refine wpOp_doG 2 (by rfl) (by rfl) ?_
                      refine wp_load_mid 25 (.tmp 18) rfl q18 0 rfl (encV e) _ (Blk.all E2.out) Tryd.underlying25 rfl infoVv ?_
                      simp only [Act.put, List.setIfInBounds_toArray, List.set_cons_zero, List.set_cons_succ]
                      have hb : Below wx.heap.size wx wx := Below.refl _ _
                      show I (putL L 2) _ _
                      exact (HI.out (putL L 2) _ _).2 ⟨_, _, _, _, _, _, _, _, _, al9, cl9, nl9, vo9, q9, rfl, HS.out.later hb, fun h => (E0.out ((putL_ne (i := 2) (by decide)).symm.trans h)).later hb, E1.out.later hb, E2.out.later hb, fun h => (by first | exact F0.out ((putL_ne (i := 2) (by decide)).symm.trans h) | rfl), fun h => (by first | exact F1.out ((putL_ne (i := 2) (by decide)).symm.trans h) | rfl), fun _ => rfl, fun h => absurd (hcl 3 ((putL_ne (i := 2) (by decide)).symm.trans h) 2 (by decide)) (by rw [hLi]; decide), fun h => absurd (hcl 4 ((putL_ne (i := 2) (by decide)).symm.trans h) 2 (by decide)) (by rw [hLi]; decide), fun h => absurd (hcl 5 ((putL_ne (i := 2) (by decide)).symm.trans h) 2 (by decide)) (by rw [hLi]; decide), fun h => absurd (hcl 6 ((putL_ne (i := 2) (by decide)).symm.trans h) 2 (by decide)) (by rw [hLi]; decide), fun h => absurd (hcl 7 ((putL_ne (i := 2) (by decide)).symm.trans h) 2 (by decide)) (by rw [hLi]; decide), fun h => absurd (hcl 8 ((putL_ne (i := 2) (by decide)).symm.trans h) 2 (by decide)) (by rw [hLi]; decide), fun h => absurd (hcl 9 ((putL_ne (i := 2) (by decide)).symm.trans h) 2 (by decide)) (by rw [hLi]; decide)⟩
                    · have f2 := F2.out (hanc 2 (by decide))
                      have f := f2
                      subst f
                      refine wpOp_doG 3 (by rfl) (by rfl) ?_
                      go_wp2_with fail
                      have HV9 := own_one wx w.heap.size HS.out.size e
                      have hb := below_box wx (.cells (encV e).toArray 25)
                      change OwnV (wx.alloc (.cells #[.int .i64 e.1, .int .i64 e.2.1, .string e.2.2] 25)) _ _ _ at HV9
                      change Below _ wx (wx.alloc (.cells #[.int .i64 e.1, .int .i64 e.2.1, .string e.2.2] 25)) at hb
                      show I (putL L 3) _ _
                      exact (HI.out (putL L 3) _ _).2 ⟨_, _, _, _, _, _, _, _, _, al9, cl9, nl9, vo9, q9, rfl, HS.out.later hb, fun h => (E0.out ((putL_ne (i := 3) (by decide)).symm.trans h)).later hb, E1.out.later hb, E2.out.later hb, fun h => (by first | exact F0.out ((putL_ne (i := 3) (by decide)).symm.trans h) | rfl), fun h => (by first | exact F1.out ((putL_ne (i := 3) (by decide)).symm.trans h) | rfl), fun h => (by first | exact F2.out ((putL_ne (i := 3) (by decide)).symm.trans h) | rfl), fun _ => ⟨_, rfl, HV9⟩, fun h => absurd (hcl 4 ((putL_ne (i := 3) (by decide)).symm.trans h) 3 (by decide)) (by rw [hLi]; decide), fun h => absurd (hcl 5 ((putL_ne (i := 3) (by decide)).symm.trans h) 3 (by decide)) (by rw [hLi]; decide), fun h => absurd (hcl 6 ((putL_ne (i := 3) (by decide)).symm.trans h) 3 (by decide)) (by rw [hLi]; decide), fun h => absurd (hcl 7 ((putL_ne (i := 3) (by decide)).symm.trans h) 3 (by decide)) (by rw [hLi]; decide), fun h => absurd (hcl 8 ((putL_ne (i := 3) (by decide)).symm.trans h) 3 (by decide)) (by rw [hLi]; decide), fun h => absurd (hcl 9 ((putL_ne (i := 3) (by decide)).symm.trans h) 3 (by decide)) (by rw [hLi]; decide)⟩
                    · have f0 := F0.out (hanc 0 (by decide))
                      have f1 := F1.out (hanc 1 (by decide))
                      have f2 := F2.out (hanc 2 (by decide))
                      have f3 := F3.out (hanc 3 (by decide))
                      have hun : L 9 = false := by
                        cases h : L 9
                        · rfl
                        · exact absurd (hcl 9 h 4 (by decide)) (by rw [hLi]; decide)
                      have hz := E0.out hun
                      have g0 := f0
                      have g1 := f1
                      subst g0 g1
                      obtain ⟨q8, g3, hv8⟩ := f3
                      subst g3
                      refine wpOp_doG 4 (by rfl) (by rfl) ?_
                      go_wp2_with fail
                      refine (HK.out.yes w.heap.size (vN 1) vw Lw 4 (.slice (some ⟨q8, 0, none⟩) 1 1) [e] wx HS.out.size (HT.out.later HS.out) hz.l HSrtW.out HLnW.out hv8.vsl (sz1 _ (by have := HEe.out.2; omega)) (Nat.zero_le _) (may_add HEe.out.1)).mono ?_
                      rintro e9 wn ⟨vo, vl9, rfl, ho9, hl9, -, hb⟩
                      have ho9 := ho9.base HS.out.size
                      rw [nx_add, HNxW.out] at hl9
                      skip
                      obtain ⟨al8, cl8, hf9⟩ := hl9.form
                      obtain ⟨nl8, hn9⟩ : ∃ nl8, (Lw9).length = nl8 := ⟨_, rfl⟩
                      rw [hn9] at hf9
                      subst hf9
                      clear hn9
                      show I (putL L 4) _ _
                      exact (HI.out (putL L 4) _ _).2 ⟨_, _, _, _, _, _, _, _, _, al8, cl8, nl8, vo, q9, rfl, HS.out.later hb, fun h => (E0.out ((putL_ne (i := 4) (by decide)).symm.trans h)).later hb, E1.out.later hb, E2.out.later hb, fun h => (by first | exact F0.out ((putL_ne (i := 4) (by decide)).symm.trans h) | rfl), fun h => (by first | exact F1.out ((putL_ne (i := 4) (by decide)).symm.trans h) | rfl), fun h => (by first | exact F2.out ((putL_ne (i := 4) (by decide)).symm.trans h) | rfl), fun h => (fun q => q.imp fun _ k => ⟨k.1, k.2.later hb⟩) (F3.out ((putL_ne (i := 4) (by decide)).symm.trans h)), fun _ => ⟨rfl, ho9, hl9⟩, fun h => absurd (hcl 5 ((putL_ne (i := 4) (by decide)).symm.trans h) 4 (by decide)) (by rw [hLi]; decide), fun h => absurd (hcl 6 ((putL_ne (i := 4) (by decide)).symm.trans h) 4 (by decide)) (by rw [hLi]; decide), fun h => absurd (hcl 7 ((putL_ne (i := 4) (by decide)).symm.trans h) 4 (by decide)) (by rw [hLi]; decide), fun h => absurd (hcl 8 ((putL_ne (i := 4) (by decide)).symm.trans h) 4 (by decide)) (by rw [hLi]; decide), fun h => absurd (hcl 9 ((putL_ne (i := 4) (by decide)).symm.trans h) 4 (by decide)) (by rw [hLi]; decide)⟩
                    · have f0 := F0.out (hanc 0 (by decide))
                      have f1 := F1.out (hanc 1 (by decide))
                      have f2 := F2.out (hanc 2 (by decide))
                      have f3 := F3.out (hanc 3 (by decide))
                      have f4 := F4.out (hanc 4 (by decide))
                      have f := f4.1
                      subst f
                      refine YieldsIf.wpOp (S := fun _ => True) (v := .tuple #[.agg (stC 3 noV (.slice al9 nl9 cl9)).toArray, vo9, .bool true]) (by rfl) (.inl ⟨rfl, fun w _ => rfl⟩) trivial ?_
                      simp only [Act.put, List.setIfInBounds_toArray, List.set_cons_zero, List.set_cons_succ]
                      have hb : Below wx.heap.size wx wx := Below.refl _ _
                      show I (putL L 5) _ _
                      exact (HI.out (putL L 5) _ _).2 ⟨_, _, _, _, _, _, _, _, _, al9, cl9, nl9, vo9, q9, rfl, HS.out.later hb, fun h => (E0.out ((putL_ne (i := 5) (by decide)).symm.trans h)).later hb, E1.out.later hb, E2.out.later hb, fun h => (by first | exact F0.out ((putL_ne (i := 5) (by decide)).symm.trans h) | rfl), fun h => (by first | exact F1.out ((putL_ne (i := 5) (by decide)).symm.trans h) | rfl), fun h => (by first | exact F2.out ((putL_ne (i := 5) (by decide)).symm.trans h) | rfl), fun h => (fun q => q.imp fun _ k => ⟨k.1, k.2.later hb⟩) (F3.out ((putL_ne (i := 5) (by decide)).symm.trans h)), fun h => (fun q => ⟨q.1, q.2.1.later hb, q.2.2.later hb⟩) (F4.out ((putL_ne (i := 5) (by decide)).symm.trans h)), fun _ => rfl, fun h => absurd (hcl 6 ((putL_ne (i := 5) (by decide)).symm.trans h) 5 (by decide)) (by rw [hLi]; decide), fun h => absurd (hcl 7 ((putL_ne (i := 5) (by decide)).symm.trans h) 5 (by decide)) (by rw [hLi]; decide), fun h => absurd (hcl 8 ((putL_ne (i := 5) (by decide)).symm.trans h) 5 (by decide)) (by rw [hLi]; decide), fun h => absurd (hcl 9 ((putL_ne (i := 5) (by decide)).symm.trans h) 5 (by decide)) (by rw [hLi]; decide)⟩
                    · have f0 := F0.out (hanc 0 (by decide))
                      have f1 := F1.out (hanc 1 (by decide))
                      have f2 := F2.out (hanc 2 (by decide))
                      have f3 := F3.out (hanc 3 (by decide))
                      have f4 := F4.out (hanc 4 (by decide))
                      have f5 := F5.out (hanc 5 (by decide))
                      have f := f5
                      subst f
                      refine YieldsIf.wpOp (S := fun _ => True) (v := .agg (stC 3 noV (.slice al9 nl9 cl9)).toArray) (by rfl) (.inl ⟨rfl, fun w _ => by go_simp⟩) trivial ?_
                      simp only [Act.put, List.setIfInBounds_toArray, List.set_cons_zero, List.set_cons_succ]
                      have hb : Below wx.heap.size wx wx := Below.refl _ _
                      show I (putL L 6) _ _
                      exact (HI.out (putL L 6) _ _).2 ⟨_, _, _, _, _, _, _, _, _, al9, cl9, nl9, vo9, q9, rfl, HS.out.later hb, fun h => (E0.out ((putL_ne (i := 6) (by decide)).symm.trans h)).later hb, E1.out.later hb, E2.out.later hb, fun h => (by first | exact F0.out ((putL_ne (i := 6) (by decide)).symm.trans h) | rfl), fun h => (by first | exact F1.out ((putL_ne (i := 6) (by decide)).symm.trans h) | rfl), fun h => (by first | exact F2.out ((putL_ne (i := 6) (by decide)).symm.trans h) | rfl), fun h => (fun q => q.imp fun _ k => ⟨k.1, k.2.later hb⟩) (F3.out ((putL_ne (i := 6) (by decide)).symm.trans h)), fun h => (fun q => ⟨q.1, q.2.1.later hb, q.2.2.later hb⟩) (F4.out ((putL_ne (i := 6) (by decide)).symm.trans h)), fun h => (by first | exact F5.out ((putL_ne (i := 6) (by decide)).symm.trans h) | rfl), fun _ => rfl, fun h => (by first | exact F7.out ((putL_ne (i := 6) (by decide)).symm.trans h) | rfl), fun h => (by first | exact F8.out ((putL_ne (i := 6) (by decide)).symm.trans h) | rfl), fun h => absurd (hcl 9 ((putL_ne (i := 6) (by decide)).symm.trans h) 6 (by decide)) (by rw [hLi]; decide)⟩
                    · have f0 := F0.out (hanc 0 (by decide))
                      have f1 := F1.out (hanc 1 (by decide))
                      have f2 := F2.out (hanc 2 (by decide))
                      have f3 := F3.out (hanc 3 (by decide))
                      have f4 := F4.out (hanc 4 (by decide))
                      have f5 := F5.out (hanc 5 (by decide))
                      have f := f5
                      subst f
                      refine YieldsIf.wpOp (S := fun _ => True) (v := vo9) (by rfl) (.inl ⟨rfl, fun w _ => by go_simp⟩) trivial ?_
                      simp only [Act.put, List.setIfInBounds_toArray, List.set_cons_zero, List.set_cons_succ]
                      have hb : Below wx.heap.size wx wx := Below.refl _ _
                      show I (putL L 7) _ _
                      exact (HI.out (putL L 7) _ _).2 ⟨_, _, _, _, _, _, _, _, _, al9, cl9, nl9, vo9, q9, rfl, HS.out.later hb, fun h => (E0.out ((putL_ne (i := 7) (by decide)).symm.trans h)).later hb, E1.out.later hb, E2.out.later hb, fun h => (by first | exact F0.out ((putL_ne (i := 7) (by decide)).symm.trans h) | rfl), fun h => (by first | exact F1.out ((putL_ne (i := 7) (by decide)).symm.trans h) | rfl), fun h => (by first | exact F2.out ((putL_ne (i := 7) (by decide)).symm.trans h) | rfl), fun h => (fun q => q.imp fun _ k => ⟨k.1, k.2.later hb⟩) (F3.out ((putL_ne (i := 7) (by decide)).symm.trans h)), fun h => (fun q => ⟨q.1, q.2.1.later hb, q.2.2.later hb⟩) (F4.out ((putL_ne (i := 7) (by decide)).symm.trans h)), fun h => (by first | exact F5.out ((putL_ne (i := 7) (by decide)).symm.trans h) | rfl), fun h => (by first | exact F6.out ((putL_ne (i := 7) (by decide)).symm.trans h) | rfl), fun _ => rfl, fun h => (by first | exact F8.out ((putL_ne (i := 7) (by decide)).symm.trans h) | rfl), fun h => (fun q => q.later hb) (F9.out ((putL_ne (i := 7) (by decide)).symm.trans h))⟩
                    · have f0 := F0.out (hanc 0 (by decide))
                      have f1 := F1.out (hanc 1 (by decide))
                      have f2 := F2.out (hanc 2 (by decide))
                      have f3 := F3.out (hanc 3 (by decide))
                      have f4 := F4.out (hanc 4 (by decide))
                      have f5 := F5.out (hanc 5 (by decide))
                      have f := f5
                      subst f
                      refine YieldsIf.wpOp (S := fun _ => True) (v := .bool true) (by rfl) (.inl ⟨rfl, fun w _ => by go_simp⟩) trivial ?_
                      simp only [Act.put, List.setIfInBounds_toArray, List.set_cons_zero, List.set_cons_succ]
                      have hb : Below wx.heap.size wx wx := Below.refl _ _
                      show I (putL L 8) _ _
                      exact (HI.out (putL L 8) _ _).2 ⟨_, _, _, _, _, _, _, _, _, al9, cl9, nl9, vo9, q9, rfl, HS.out.later hb, fun h => (E0.out ((putL_ne (i := 8) (by decide)).symm.trans h)).later hb, E1.out.later hb, E2.out.later hb, fun h => (by first | exact F0.out ((putL_ne (i := 8) (by decide)).symm.trans h) | rfl), fun h => (by first | exact F1.out ((putL_ne (i := 8) (by decide)).symm.trans h) | rfl), fun h => (by first | exact F2.out ((putL_ne (i := 8) (by decide)).symm.trans h) | rfl), fun h => (fun q => q.imp fun _ k => ⟨k.1, k.2.later hb⟩) (F3.out ((putL_ne (i := 8) (by decide)).symm.trans h)), fun h => (fun q => ⟨q.1, q.2.1.later hb, q.2.2.later hb⟩) (F4.out ((putL_ne (i := 8) (by decide)).symm.trans h)), fun h => (by first | exact F5.out ((putL_ne (i := 8) (by decide)).symm.trans h) | rfl), fun h => (by first | exact F6.out ((putL_ne (i := 8) (by decide)).symm.trans h) | rfl), fun h => (by first | exact F7.out ((putL_ne (i := 8) (by decide)).symm.trans h) | rfl), fun _ => rfl, fun h => (fun q => q.later hb) (F9.out ((putL_ne (i := 8) (by decide)).symm.trans h))⟩
                    · have f0 := F0.out (hanc 0 (by decide))
                      have f1 := F1.out (hanc 1 (by decide))
                      have f2 := F2.out (hanc 2 (by decide))
                      have f3 := F3.out (hanc 3 (by decide))
                      have f4 := F4.out (hanc 4 (by decide))
                      have f5 := F5.out (hanc 5 (by decide))
                      have f6 := F6.out (hanc 6 (by decide))
                      have hun : L 9 = false := hLi
                      have hz := E0.out hun
                      have f := f6
                      subst f
                      refine wpOp_doG 9 (by rfl) (by rfl) ?_
                      refine wpo_storeB 28 (.tmp 15) (.tmp 132) z15 0 (stC 3 noV (.slice al9 nl9 cl9)) (stC 3 noV vw) 28 infoSt (show 0 + 6 ≤ 6 by decide) (stC_one _ _ rfl) rfl rfl rfl hz.s ?_
                      intro wn BP ho
                      replace BP : Blk wn z15 (stC 3 noV (.slice al9 nl9 cl9)) 28 := BP
                      have BS := hz.s
                      simp only [Act.put, List.setIfInBounds_toArray, List.set_cons_zero, List.set_cons_succ]
                      show I (putL L 9) _ _
                      exact (HI.out (putL L 9) _ _).2 ⟨_, _, _, _, _, _, _, _, _, al9, cl9, nl9, vo9, q9, rfl, below_oth HS.out ho hz.z hz.z HS.out.size, fun h => (by rw [putL_self] at h; cases h), E1.out.oth ho hz.s (by have := HLt.out; omega) (by omega) (by have := HLt.out; omega), E2.out.oth ho (by omega) (by omega), fun h => (by first | exact F0.out ((putL_ne (i := 9) (by decide)).symm.trans h) | rfl), fun h => (by first | exact F1.out ((putL_ne (i := 9) (by decide)).symm.trans h) | rfl), fun h => (by first | exact F2.out ((putL_ne (i := 9) (by decide)).symm.trans h) | rfl), fun h => (fun q => q.imp fun _ k => ⟨k.1, k.2.oth ho BS (by decide)⟩) (F3.out ((putL_ne (i := 9) (by decide)).symm.trans h)), fun h => (fun q => ⟨q.1, q.2.1.oth ho BS (by decide), q.2.2.oth ho BS (by decide)⟩) (F4.out ((putL_ne (i := 9) (by decide)).symm.trans h)), fun h => (by first | exact F5.out ((putL_ne (i := 9) (by decide)).symm.trans h) | rfl), fun h => (by first | exact F6.out ((putL_ne (i := 9) (by decide)).symm.trans h) | rfl), fun h => (by first | exact F7.out ((putL_ne (i := 9) (by decide)).symm.trans h) | rfl), fun h => (by first | exact F8.out ((putL_ne (i := 9) (by decide)).symm.trans h) | rfl), fun _ => ⟨BP, f4.2.2.oth ho BS (by decide), hz.z⟩⟩
                  · intro L act wx hall hIa
                    obtain ⟨t127, t128, t129, t130, t131, t126, t132, t133, t134, al9, cl9, nl9, vo9, q9, rfl, HS, E0, E1, E2, F0, F1, F2, F3, F4, F5, F6, F7, F8, F9⟩ := (HI.out _ _ _).1 hIa
                    have f0 := F0.out (hall 0 (by decide))
                    have f1 := F1.out (hall 1 (by decide))
                    have f2 := F2.out (hall 2 (by decide))
                    have f3 := F3.out (hall 3 (by decide))
                    have f4 := F4.out (hall 4 (by decide))
                    have f5 := F5.out (hall 5 (by decide))
                    have f6 := F6.out (hall 6 (by decide))
                    have f7 := F7.out (hall 7 (by decide))
                    have f8 := F8.out (hall 8 (by decide))
                    have f9 := F9.out (hall 9 (by decide))
                    clear hIa HI F0 F1 F2 F3 F4 F5 F6 F7 F8 F9
                    show K9 _ _
                    exact HTl28.out wx al9 cl9 nl9 f9 E1.out HS.out _ _ _ _ _ _ _ _ _
              · have er : r = j := by omega
                subst er
                obtain ⟨LD, hLD⟩ : ∃ L, addAll (butK xs v9 r) = L := ⟨_, rfl⟩
                have HDl : Hid (delB v9 LA = LD) := by
                  show _ = _
                  rw [← hLD, ← HLA.out, addAll_out]
                  unfold butK
                  rw [List.take_of_length_le (by rw [HN.out]; omega)]
                have HLD : Hid (LD.length ≤ 1000000) := by
                  have h := addAll_len (butK xs v9 r)
                  have h2 : (butK xs v9 r).length ≤ r := by unfold butK; exact Nat.le_trans (List.length_filter_le _ _) (by rw [List.length_take]; omega)
                  rw [hLD] at h
                  exact (by omega : LD.length ≤ 1000000)
                rw [hLD] at HSw
                clear hLD hlt15
                go_wp2_with fail
                rename_i K9 hK9
                have tail30 : ∀ (w' : World) (q9 : Nat) (al9 : Option Addr) (cl9 nl9 : Nat), Hs w w' q9 (.slice al9 nl9 cl9) LD → Stay wr w' → wr.heap.size ≤ q9 → ∀ t0 t1 t2 t3 t4 t5 t6 t8 t9 t10 t11 t13 t16 t17 t18 t20 t22 t23 t24 t25 t26 t27 t28 t29 t30 t31 t32 t33 t34 t35 t36 t37 t38 t39 t40 t41 t42 t43 t44 t45 t46 t47 t48 t49 t50 t51 t52 t53 t54 t55 t56 t57 t58 t59 t60 t61 t62 t63 t64 t65 t66 t67 t68 t69 t70 t71 t72 t73 t74 t75 t76 t77 t78 t79 t80 t81 t82 t83 t84 t85 t86 t87 t88 t89 t90 t91 t92 t93 t94 t95 t96 t97 t98 t99 t100 t101 t102 t103 t104 t105 t106 t107 t108 t109 t110 t111 t112 t113 t114 t115 t116 t117 t118 t119 t120 t121 t122 t123 t124 t125 t126 t127 t128 t129 t130 t131 t132 t133 t134 t135 t136 t137 t138 t139 t140 t141 t142 t143 t144 t145 t146 t147 t148 t149 t150 t151 t152 t153 t154 t155 t156 t157 t158 : Value, K9 ⟨#[t0, t1, t2, t3, t4, t5, t6, Value.pointer (some ⟨z7, 0, none⟩), t8, t9, t10, t11, Value.pointer (some ⟨z12, 0, none⟩), t13, Value.bool true, Value.pointer (some ⟨z15, 0, none⟩), t16, t17, t18, Value.pointer (some ⟨q9, 0, none⟩), t20, Value.bool true, t22, t23, t24, t25, t26, t27, t28, t29, t30, t31, t32, t33, t34, t35, t36, t37, t38, t39, t40, t41, t42, t43, t44, t45, t46, t47, t48, t49, t50, t51, t52, t53, t54, t55, t56, t57, t58, t59, t60, t61, t62, t63, t64, t65, t66, t67, t68, t69, t70, t71, t72, t73, t74, t75, t76, t77, t78, t79, t80, t81, t82, t83, t84, t85, t86, t87, t88, t89, t90, t91, t92, t93, t94, t95, t96, t97, t98, t99, t100, t101, t102, t103, t104, t105, t106, t107, t108, t109, t110, t111, t112, t113, t114, t115, t116, t117, t118, t119, t120, t121, t122, t123, t124, t125, t126, t127, t128, t129, t130, t131, t132, t133, t134, t135, t136, t137, t138, t139, t140, t141, t142, t143, t144, t145, t146, t147, t148, t149, t150, t151, t152, t153, t154, t155, t156, t157, t158], []⟩ w' := by
                  intro w' q9 al9 cl9 nl9 HN9 HS9 hq9w t0 t1 t2 t3 t4 t5 t6 t8 t9 t10 t11 t13 t16 t17 t18 t20 t22 t23 t24 t25 t26 t27 t28 t29 t30 t31 t32 t33 t34 t35 t36 t37 t38 t39 t40 t41 t42 t43 t44 t45 t46 t47 t48 t49 t50 t51 t52 t53 t54 t55 t56 t57 t58 t59 t60 t61 t62 t63 t64 t65 t66 t67 t68 t69 t70 t71 t72 t73 t74 t75 t76 t77 t78 t79 t80 t81 t82 t83 t84 t85 t86 t87 t88 t89 t90 t91 t92 t93 t94 t95 t96 t97 t98 t99 t100 t101 t102 t103 t104 t105 t106 t107 t108 t109 t110 t111 t112 t113 t114 t115 t116 t117 t118 t119 t120 t121 t122 t123 t124 t125 t126 t127 t128 t129 t130 t131 t132 t133 t134 t135 t136 t137 t138 t139 t140 t141 t142 t143 t144 t145 t146 t147 t148 t149 t150 t151 t152 t153 t154 t155 t156 t157 t158
                  apply hK9
                  clear hK9 K9
                  have HD : Hid (Hs w w' q9 (.slice al9 nl9 cl9) LD) := HN9
                  have HSa6 : Hid (Hs w w' z7 va LA) := HSa.out.later HS9
                  have HSc6 : Hid (Hs w w' z12 vc LA) := HSc.out.later HS9
                  have HSw6 : Hid (Hs w w' z15 vw LD) := HSw.out.later HS9
                  have HB6 : Hid (Below w.heap.size w w') := below_next HB.out HS9
                  clear HN9 HS9 hq9w HSa HSc HSw HB HQ
                  obtain ⟨s0, s1, s2, s3, s4, s5⟩ := st_cells HSa6.out.s
                  obtain ⟨r0, r1, r2, r3, r4, r5⟩ := st_cells HSc6.out.s
                  simp only [noV] at s1 s2 s3 r1 r2 r3
                  go_wp2_with fail
                  refine (same_yesL 3 noV vc va LA w' HSc6.out.l.vsl HSa6.out.l.vsl (by have := HLnA.out; omega)).mono ?_
                  rintro e9 w21 ⟨rfl, hb21⟩
                  have HD7 := HD.out.later hb21
                  have HSw7 := HSw6.out.later hb21
                  have HB7 := below_next HB6.out hb21
                  clear s0 s1 s2 s3 s4 s5 r0 r1 r2 r3 r4 r5 hb21
                  obtain ⟨s0, s1, s2, s3, s4, s5⟩ := st_cells HD7.s
                  obtain ⟨r0, r1, r2, r3, r4, r5⟩ := st_cells HSw7.s
                  simp only [noV] at s1 s2 s3 r1 r2 r3
                  go_wp2_with fail
                  refine (same_yesL 3 noV (.slice al9 nl9 cl9) vw LD w21 HD7.l.vsl HSw7.l.vsl HLD.out).mono ?_
                  rintro e9 w22 ⟨rfl, hb22⟩
                  go_wp2
                  go_ret
                  exact ⟨rfl, below_next HB7 hb22⟩
                have HTl30 : Hid (∀ (w' : World) (q9 : Nat) (al9 : Option Addr) (cl9 nl9 : Nat), Hs w w' q9 (.slice al9 nl9 cl9) LD → Stay wr w' → wr.heap.size ≤ q9 → ∀ t0 t1 t2 t3 t4 t5 t6 t8 t9 t10 t11 t13 t16 t17 t18 t20 t22 t23 t24 t25 t26 t27 t28 t29 t30 t31 t32 t33 t34 t35 t36 t37 t38 t39 t40 t41 t42 t43 t44 t45 t46 t47 t48 t49 t50 t51 t52 t53 t54 t55 t56 t57 t58 t59 t60 t61 t62 t63 t64 t65 t66 t67 t68 t69 t70 t71 t72 t73 t74 t75 t76 t77 t78 t79 t80 t81 t82 t83 t84 t85 t86 t87 t88 t89 t90 t91 t92 t93 t94 t95 t96 t97 t98 t99 t100 t101 t102 t103 t104 t105 t106 t107 t108 t109 t110 t111 t112 t113 t114 t115 t116 t117 t118 t119 t120 t121 t122 t123 t124 t125 t126 t127 t128 t129 t130 t131 t132 t133 t134 t135 t136 t137 t138 t139 t140 t141 t142 t143 t144 t145 t146 t147 t148 t149 t150 t151 t152 t153 t154 t155 t156 t157 t158 : Value, K9 ⟨#[t0, t1, t2, t3, t4, t5, t6, Value.pointer (some ⟨z7, 0, none⟩), t8, t9, t10, t11, Value.pointer (some ⟨z12, 0, none⟩), t13, Value.bool true, Value.pointer (some ⟨z15, 0, none⟩), t16, t17, t18, Value.pointer (some ⟨q9, 0, none⟩), t20, Value.bool true, t22, t23, t24, t25, t26, t27, t28, t29, t30, t31, t32, t33, t34, t35, t36, t37, t38, t39, t40, t41, t42, t43, t44, t45, t46, t47, t48, t49, t50, t51, t52, t53, t54, t55, t56, t57, t58, t59, t60, t61, t62, t63, t64, t65, t66, t67, t68, t69, t70, t71, t72, t73, t74, t75, t76, t77, t78, t79, t80, t81, t82, t83, t84, t85, t86, t87, t88, t89, t90, t91, t92, t93, t94, t95, t96, t97, t98, t99, t100, t101, t102, t103, t104, t105, t106, t107, t108, t109, t110, t111, t112, t113, t114, t115, t116, t117, t118, t119, t120, t121, t122, t123, t124, t125, t126, t127, t128, t129, t130, t131, t132, t133, t134, t135, t136, t137, t138, t139, t140, t141, t142, t143, t144, t145, t146, t147, t148, t149, t150, t151, t152, t153, t154, t155, t156, t157, t158], []⟩ w') := tail30
                clear tail30 hK9
                have HZ9 : Hid (z12 < wr.heap.size) := HSc.out.s.lt
                have HQl : Hid (q11 < wr.heap.size) := HQ.out.lt
                obtain ⟨I, hI⟩ : ∃ I : (Nat → Bool) → Act → World → Prop, ∀ L act wx, I L act wx ↔ (fun (L : Nat → Bool) (act : Act) (wx : World) => ∃ (t137 : Value) (t138 : Value) (t139 : Value) (t140 : Value) (t141 : Value) (t136 : Value) (t142 : Value) (t143 : Value) (t144 : Value) (t19 : Value) (t20 : Value) (t21 : Value) (al9 : Option Addr) (cl9 : Nat) (nl9 : Nat) (vo9 : Value) (q9 : Nat), act = ⟨#[Value.slice (some ⟨b, o, none⟩) r c, t1, t2, t3, t4, t5, t6, Value.pointer (some ⟨z7, 0, none⟩), t8, t9, t10, Value.pointer (some ⟨q11, 0, none⟩), Value.pointer (some ⟨z12, 0, none⟩), t13, Value.bool true, Value.pointer (some ⟨z15, 0, none⟩), Value.bool true, t17, u18, t19, t20, t21, t22, t23, t24, t25, t26, t27, t28, t29, t30, t31, t32, t33, t34, t35, t36, t37, t38, t39, t40, t41, t42, t43, t44, t45, t46, t47, t48, t49, t50, t51, t52, t53, t54, t55, t56, t57, t58, t59, t60, t61, t62, t63, t64, t65, t66, t67, t68, t69, t70, t71, t72, t73, t74, t75, t76, t77, t78, t79, t80, t81, t82, t83, t84, t85, t86, t87, t88, t89, t90, t91, t92, t93, t94, t95, t96, t97, t98, t99, t100, t101, t102, t103, t104, t105, t106, t107, t108, t109, t110, t111, t112, Value.tuple #[Value.agg #[Value.int .i64 3, Value.int .i64 0, Value.int .i64 0, Value.string noB, Value.int .i64 0, nilS], Value.bool true], Value.tuple #[Value.agg #[Value.int .i64 3, Value.int .i64 0, Value.int .i64 0, Value.string noB, Value.int .i64 0, nilS], Value.bool true], Value.agg #[Value.int .i64 3, Value.int .i64 0, Value.int .i64 0, Value.string noB, Value.int .i64 0, nilS], Value.bool true, Value.slice (some ⟨b, o, none⟩) r c, Value.int .i64 (r : Int), Value.int .i64 (r : Int), Value.bool false, u121, u122, u123, u124, u125, u126, u127, u128, u129, u130, u131, u132, u133, u134, u135, t136, t137, t138, t139, t140, t141, t142, t143, t144, t145, t146, t147, t148, t149, t150, t151, t152, t153, t154, t155, t156, t157, t158], []⟩ ∧ Hid (StW w wx) ∧ Hid (Hs w wx z12 vc LA) ∧ Hid (L 9 = true → L 10 = false → Blk wx q9 (stC 0 noV nilS) 28) ∧ Hid (Stay wr wx) ∧ Hid (Blk wx q11 (encV v9) 25) ∧ Hid (L 0 = true → t137 = .agg #[.int .i64 3, .int .i64 0, .int .i64 0, .string noB, .int .i64 0, vc]) ∧ Hid (L 1 = true → t138 = .agg #[.int .i64 1, .int .i64 1, .string noB]) ∧ Hid (L 2 = true → t139 = .agg #[.int .i64 v9.1, .int .i64 v9.2.1, .string v9.2.2]) ∧ Hid (L 3 = true → ∃ q8 : Nat, t140 = .slice (some ⟨q8, 0, none⟩) 1 1 ∧ OwnV wx w.heap.size t140 [v9]) ∧ Hid (L 4 = true → t141 = .tuple #[.agg (stC 3 noV (.slice al9 nl9 cl9)).toArray, vo9, .bool true] ∧ OwnV wx w.heap.size vo9 [] ∧ OwnV wx w.heap.size (.slice al9 nl9 cl9) LD) ∧ Hid (L 5 = true → t136 = .tuple #[.agg (stC 3 noV (.slice al9 nl9 cl9)).toArray, vo9, .bool true]) ∧ Hid (L 6 = true → t142 = .agg (stC 3 noV (.slice al9 nl9 cl9)).toArray) ∧ Hid (L 7 = true → t143 = vo9) ∧ Hid (L 8 = true → t144 = .bool true) ∧ Hid (L 9 = true → t19 = .pointer (some ⟨q9, 0, none⟩) ∧ w.heap.size ≤ q9 ∧ wr.heap.size ≤ q9) ∧ Hid (L 10 = true → Hs w wx q9 (.slice al9 nl9 cl9) LD) ∧ Hid (L 11 = true → t20 = vo9) ∧ Hid (L 12 = true → t21 = .bool true)) L act wx := ⟨_, fun _ _ _ => Iff.rfl⟩
                dsimp only at hI
                have HI : Hid (∀ L act wx, I L act wx ↔ _) := hI
                clear hI
                refine wp_region_inv mixed [[], [], [], [2], [0, 1, 2, 3], [0, 1, 2, 3, 4], [0, 1, 2, 3, 4, 5], [0, 1, 2, 3, 4, 5], [0, 1, 2, 3, 4, 5], [], [0, 1, 2, 3, 4, 5, 6, 9], [0, 1, 2, 3, 4, 5, 6, 7, 9, 10], [0, 1, 2, 3, 4, 5, 6, 8, 9, 10]] (by kernel_rfl) I ?_ ?_ ?_
                · refine (HI.out _ _ _).2 ⟨_, _, _, _, _, _, _, _, _, _, _, _, none, 0, 0, undef, 0, rfl, ?_, ?_, ?_, ?_, ?_, fun h => Bool.noConfusion h, fun h => Bool.noConfusion h, fun h => Bool.noConfusion h, fun h => Bool.noConfusion h, fun h => Bool.noConfusion h, fun h => Bool.noConfusion h, fun h => Bool.noConfusion h, fun h => Bool.noConfusion h, fun h => Bool.noConfusion h, fun h => Bool.noConfusion h, fun h => Bool.noConfusion h, fun h => Bool.noConfusion h, fun h => Bool.noConfusion h⟩
                  · exact below_next (And.intro HB.out HSc.out).1 (Stay.drew _)
                  · exact (And.intro HB.out HSc.out).2.later (Stay.drew _)
                  · exact fun h => Bool.noConfusion h
                  · exact Stay.drew _
                  · exact HQ.out.later (Stay.drew _)
                · intro i hi L act wx hIa hLi hcl hanc
                  obtain ⟨t137, t138, t139, t140, t141, t136, t142, t143, t144, t19, t20, t21, al9, cl9, nl9, vo9, q9, rfl, HS, E0, E1, E2, E3, F0, F1, F2, F3, F4, F5, F6, F7, F8, F9, F10, F11, F12⟩ := (HI.out _ _ _).1 hIa
                  clear hIa
                  have hi' : i = 0 ∨ i = 1 ∨ i = 2 ∨ i = 3 ∨ i = 4 ∨ i = 5 ∨ i = 6 ∨ i = 7 ∨ i = 8 ∨ i = 9 ∨ i = 10 ∨ i = 11 ∨ i = 12 := by have hi : i < 13 := hi; omega
                  clear hi
                  rcases hi' with rfl | rfl | rfl | rfl | rfl | rfl | rfl | rfl | rfl | rfl | rfl | rfl | rfl
                  · have hz := E0.out
                    refine wpOp_doG 0 (by rfl) (by rfl) ?_
                    refine wp_load_mid 28 (.tmp 12) rfl z12 0 rfl (stC 3 noV vc) _ (Blk.all hz.s) Tryd.underlying28 rfl infoSt ?_
                    simp only [Act.put, List.setIfInBounds_toArray, List.set_cons_zero, List.set_cons_succ]
                    have hb : Below wx.heap.size wx wx := Below.refl _ _
                    show I (putL L 0) _ _
                    exact (HI.out (putL L 0) _ _).2 ⟨_, _, _, _, _, _, _, _, _, _, _, _, al9, cl9, nl9, vo9, q9, rfl, HS.out.later hb, E0.out.later hb, fun h h' => (E1.out ((putL_ne (i := 0) (by decide)).symm.trans h) ((putL_ne (i := 0) (by decide)).symm.trans h')).later hb, below_next E2.out hb, E3.out.later hb, fun _ => rfl, fun h => (by first | exact F1.out ((putL_ne (i := 0) (by decide)).symm.trans h) | rfl), fun h => (by first | exact F2.out ((putL_ne (i := 0) (by decide)).symm.trans h) | rfl), fun h => (fun q => q.imp fun _ k => ⟨k.1, k.2.later hb⟩) (F3.out ((putL_ne (i := 0) (by decide)).symm.trans h)), fun h => absurd (hcl 4 ((putL_ne (i := 0) (by decide)).symm.trans h) 0 (by decide)) (by rw [hLi]; decide), fun h => absurd (hcl 5 ((putL_ne (i := 0) (by decide)).symm.trans h) 0 (by decide)) (by rw [hLi]; decide), fun h => absurd (hcl 6 ((putL_ne (i := 0) (by decide)).symm.trans h) 0 (by decide)) (by rw [hLi]; decide), fun h => absurd (hcl 7 ((putL_ne (i := 0) (by decide)).symm.trans h) 0 (by decide)) (by rw [hLi]; decide), fun h => absurd (hcl 8 ((putL_ne (i := 0) (by decide)).symm.trans h) 0 (by decide)) (by rw [hLi]; decide), fun h => (by first | exact F9.out ((putL_ne (i := 0) (by decide)).symm.trans h) | rfl), fun h => absurd (hcl 10 ((putL_ne (i := 0) (by decide)).symm.trans h) 0 (by decide)) (by rw [hLi]; decide), fun h => absurd (hcl 11 ((putL_ne (i := 0) (by decide)).symm.trans h) 0 (by decide)) (by rw [hLi]; decide), fun h => absurd (hcl 12 ((putL_ne (i := 0) (by decide)).symm.trans h) 0 (by decide)) (by rw [hLi]; decide)⟩
                  · refine wpOp_doG 1 (by rfl) (by rfl) ?_
                    go_wp2_with fail
                    refine (num_any 1 wx).mono ?_
                    rintro e9 wn ⟨rfl, hb⟩
                    show I (putL L 1) _ _
                    exact (HI.out (putL L 1) _ _).2 ⟨_, _, _, _, _, _, _, _, _, _, _, _, al9, cl9, nl9, vo9, q9, rfl, HS.out.later hb, E0.out.later hb, fun h h' => (E1.out ((putL_ne (i := 1) (by decide)).symm.trans h) ((putL_ne (i := 1) (by decide)).symm.trans h')).later hb, below_next E2.out hb, E3.out.later hb, fun h => (by first | exact F0.out ((putL_ne (i := 1) (by decide)).symm.trans h) | rfl), fun _ => rfl, fun h => (by first | exact F2.out ((putL_ne (i := 1) (by decide)).symm.trans h) | rfl), fun h => (fun q => q.imp fun _ k => ⟨k.1, k.2.later hb⟩) (F3.out ((putL_ne (i := 1) (by decide)).symm.trans h)), fun h => absurd (hcl 4 ((putL_ne (i := 1) (by decide)).symm.trans h) 1 (by decide)) (by rw [hLi]; decide), fun h => absurd (hcl 5 ((putL_ne (i := 1) (by decide)).symm.trans h) 1 (by decide)) (by rw [hLi]; decide), fun h => absurd (hcl 6 ((putL_ne (i := 1) (by decide)).symm.trans h) 1 (by decide)) (by rw [hLi]; decide), fun h => absurd (hcl 7 ((putL_ne (i := 1) (by decide)).symm.trans h) 1 (by decide)) (by rw [hLi]; decide), fun h => absurd (hcl 8 ((putL_ne (i := 1) (by decide)).symm.trans h) 1 (by decide)) (by rw [hLi]; decide), fun h => (by first | exact F9.out ((putL_ne (i := 1) (by decide)).symm.trans h) | rfl), fun h => absurd (hcl 10 ((putL_ne (i := 1) (by decide)).symm.trans h) 1 (by decide)) (by rw [hLi]; decide), fun h => absurd (hcl 11 ((putL_ne (i := 1) (by decide)).symm.trans h) 1 (by decide)) (by rw [hLi]; decide), fun h => absurd (hcl 12 ((putL_ne (i := 1) (by decide)).symm.trans h) 1 (by decide)) (by rw [hLi]; decide)⟩
                  · refine wpOp_doG 2 (by rfl) (by rfl) ?_
                    refine wp_load_mid 25 (.tmp 11) rfl q11 0 rfl (encV v9) _ (Blk.all E3.out) Tryd.underlying25 rfl infoVv ?_
                    simp only [Act.put, List.setIfInBounds_toArray, List.set_cons_zero, List.set_cons_succ]
                    have hb : Below wx.heap.size wx wx := Below.refl _ _
                    show I (putL L 2) _ _
                    exact (HI.out (putL L 2) _ _).2 ⟨_, _, _, _, _, _, _, _, _, _, _, _, al9, cl9, nl9, vo9, q9, rfl, HS.out.later hb, E0.out.later hb, fun h h' => (E1.out ((putL_ne (i := 2) (by decide)).symm.trans h) ((putL_ne (i := 2) (by decide)).symm.trans h')).later hb, below_next E2.out hb, E3.out.later hb, fun h => (by first | exact F0.out ((putL_ne (i := 2) (by decide)).symm.trans h) | rfl), fun h => (by first | exact F1.out ((putL_ne (i := 2) (by decide)).symm.trans h) | rfl), fun _ => rfl, fun h => absurd (hcl 3 ((putL_ne (i := 2) (by decide)).symm.trans h) 2 (by decide)) (by rw [hLi]; decide), fun h => absurd (hcl 4 ((putL_ne (i := 2) (by decide)).symm.trans h) 2 (by decide)) (by rw [hLi]; decide), fun h => absurd (hcl 5 ((putL_ne (i := 2) (by decide)).symm.trans h) 2 (by decide)) (by rw [hLi]; decide), fun h => absurd (hcl 6 ((putL_ne (i := 2) (by decide)).symm.trans h) 2 (by decide)) (by rw [hLi]; decide), fun h => absurd (hcl 7 ((putL_ne (i := 2) (by decide)).symm.trans h) 2 (by decide)) (by rw [hLi]; decide), fun h => absurd (hcl 8 ((putL_ne (i := 2) (by decide)).symm.trans h) 2 (by decide)) (by rw [hLi]; decide), fun h => (by first | exact F9.out ((putL_ne (i := 2) (by decide)).symm.trans h) | rfl), fun h => absurd (hcl 10 ((putL_ne (i := 2) (by decide)).symm.trans h) 2 (by decide)) (by rw [hLi]; decide), fun h => absurd (hcl 11 ((putL_ne (i := 2) (by decide)).symm.trans h) 2 (by decide)) (by rw [hLi]; decide), fun h => absurd (hcl 12 ((putL_ne (i := 2) (by decide)).symm.trans h) 2 (by decide)) (by rw [hLi]; decide)⟩
                  · have f2 := F2.out (hanc 2 (by decide))
                    have f := f2
                    subst f
                    refine wpOp_doG 3 (by rfl) (by rfl) ?_
                    go_wp2_with fail
                    have HV9 := own_one wx w.heap.size HS.out.size v9
                    have hb := below_box wx (.cells (encV v9).toArray 25)
                    change OwnV (wx.alloc (.cells #[.int .i64 v9.1, .int .i64 v9.2.1, .string v9.2.2] 25)) _ _ _ at HV9
                    change Below _ wx (wx.alloc (.cells #[.int .i64 v9.1, .int .i64 v9.2.1, .string v9.2.2] 25)) at hb
                    show I (putL L 3) _ _
                    exact (HI.out (putL L 3) _ _).2 ⟨_, _, _, _, _, _, _, _, _, _, _, _, al9, cl9, nl9, vo9, q9, rfl, HS.out.later hb, E0.out.later hb, fun h h' => (E1.out ((putL_ne (i := 3) (by decide)).symm.trans h) ((putL_ne (i := 3) (by decide)).symm.trans h')).later hb, below_next E2.out hb, E3.out.later hb, fun h => (by first | exact F0.out ((putL_ne (i := 3) (by decide)).symm.trans h) | rfl), fun h => (by first | exact F1.out ((putL_ne (i := 3) (by decide)).symm.trans h) | rfl), fun h => (by first | exact F2.out ((putL_ne (i := 3) (by decide)).symm.trans h) | rfl), fun _ => ⟨_, rfl, HV9⟩, fun h => absurd (hcl 4 ((putL_ne (i := 3) (by decide)).symm.trans h) 3 (by decide)) (by rw [hLi]; decide), fun h => absurd (hcl 5 ((putL_ne (i := 3) (by decide)).symm.trans h) 3 (by decide)) (by rw [hLi]; decide), fun h => absurd (hcl 6 ((putL_ne (i := 3) (by decide)).symm.trans h) 3 (by decide)) (by rw [hLi]; decide), fun h => absurd (hcl 7 ((putL_ne (i := 3) (by decide)).symm.trans h) 3 (by decide)) (by rw [hLi]; decide), fun h => absurd (hcl 8 ((putL_ne (i := 3) (by decide)).symm.trans h) 3 (by decide)) (by rw [hLi]; decide), fun h => (by first | exact F9.out ((putL_ne (i := 3) (by decide)).symm.trans h) | rfl), fun h => absurd (hcl 10 ((putL_ne (i := 3) (by decide)).symm.trans h) 3 (by decide)) (by rw [hLi]; decide), fun h => absurd (hcl 11 ((putL_ne (i := 3) (by decide)).symm.trans h) 3 (by decide)) (by rw [hLi]; decide), fun h => absurd (hcl 12 ((putL_ne (i := 3) (by decide)).symm.trans h) 3 (by decide)) (by rw [hLi]; decide)⟩
                  · have f0 := F0.out (hanc 0 (by decide))
                    have f1 := F1.out (hanc 1 (by decide))
                    have f2 := F2.out (hanc 2 (by decide))
                    have f3 := F3.out (hanc 3 (by decide))
                    have hz := E0.out
                    have g0 := f0
                    have g1 := f1
                    subst g0 g1
                    obtain ⟨q8, g3, hv8⟩ := f3
                    subst g3
                    refine wpOp_doG 4 (by rfl) (by rfl) ?_
                    go_wp2_with fail
                    refine (HK.out.yes w.heap.size (vN 1) vc LA 5 (.slice (some ⟨q8, 0, none⟩) 1 1) [v9] wx HS.out.size (HT.out.later HS.out) hz.l HSA.out HLnA.out hv8.vsl (sz1 _ (by have := HVv.out.2; omega)) (Nat.zero_le _) (may_del HVv.out.1)).mono ?_
                    rintro e9 wn ⟨vo, vl9, rfl, ho9, hl9, -, hb⟩
                    have ho9 := ho9.base HS.out.size
                    rw [nx_del, HDl.out] at hl9
                    skip
                    obtain ⟨al8, cl8, hf9⟩ := hl9.form
                    obtain ⟨nl8, hn9⟩ : ∃ nl8, (LD).length = nl8 := ⟨_, rfl⟩
                    rw [hn9] at hf9
                    subst hf9
                    clear hn9
                    show I (putL L 4) _ _
                    exact (HI.out (putL L 4) _ _).2 ⟨_, _, _, _, _, _, _, _, _, _, _, _, al8, cl8, nl8, vo, q9, rfl, HS.out.later hb, E0.out.later hb, fun h h' => (E1.out ((putL_ne (i := 4) (by decide)).symm.trans h) ((putL_ne (i := 4) (by decide)).symm.trans h')).later hb, below_next E2.out hb, E3.out.later hb, fun h => (by first | exact F0.out ((putL_ne (i := 4) (by decide)).symm.trans h) | rfl), fun h => (by first | exact F1.out ((putL_ne (i := 4) (by decide)).symm.trans h) | rfl), fun h => (by first | exact F2.out ((putL_ne (i := 4) (by decide)).symm.trans h) | rfl), fun h => (fun q => q.imp fun _ k => ⟨k.1, k.2.later hb⟩) (F3.out ((putL_ne (i := 4) (by decide)).symm.trans h)), fun _ => ⟨rfl, ho9, hl9⟩, fun h => absurd (hcl 5 ((putL_ne (i := 4) (by decide)).symm.trans h) 4 (by decide)) (by rw [hLi]; decide), fun h => absurd (hcl 6 ((putL_ne (i := 4) (by decide)).symm.trans h) 4 (by decide)) (by rw [hLi]; decide), fun h => absurd (hcl 7 ((putL_ne (i := 4) (by decide)).symm.trans h) 4 (by decide)) (by rw [hLi]; decide), fun h => absurd (hcl 8 ((putL_ne (i := 4) (by decide)).symm.trans h) 4 (by decide)) (by rw [hLi]; decide), fun h => (by first | exact F9.out ((putL_ne (i := 4) (by decide)).symm.trans h) | rfl), fun h => absurd (hcl 10 ((putL_ne (i := 4) (by decide)).symm.trans h) 4 (by decide)) (by rw [hLi]; decide), fun h => absurd (hcl 11 ((putL_ne (i := 4) (by decide)).symm.trans h) 4 (by decide)) (by rw [hLi]; decide), fun h => absurd (hcl 12 ((putL_ne (i := 4) (by decide)).symm.trans h) 4 (by decide)) (by rw [hLi]; decide)⟩
                  · have f0 := F0.out (hanc 0 (by decide))
                    have f1 := F1.out (hanc 1 (by decide))
                    have f2 := F2.out (hanc 2 (by decide))
                    have f3 := F3.out (hanc 3 (by decide))
                    have f4 := F4.out (hanc 4 (by decide))
                    have f := f4.1
                    subst f
                    refine YieldsIf.wpOp (S := fun _ => True) (v := .tuple #[.agg (stC 3 noV (.slice al9 nl9 cl9)).toArray, vo9, .bool true]) (by rfl) (.inl ⟨rfl, fun w _ => rfl⟩) trivial ?_
                    simp only [Act.put, List.setIfInBounds_toArray, List.set_cons_zero, List.set_cons_succ]
                    have hb : Below wx.heap.size wx wx := Below.refl _ _
                    show I (putL L 5) _ _
                    exact (HI.out (putL L 5) _ _).2 ⟨_, _, _, _, _, _, _, _, _, _, _, _, al9, cl9, nl9, vo9, q9, rfl, HS.out.later hb, E0.out.later hb, fun h h' => (E1.out ((putL_ne (i := 5) (by decide)).symm.trans h) ((putL_ne (i := 5) (by decide)).symm.trans h')).later hb, below_next E2.out hb, E3.out.later hb, fun h => (by first | exact F0.out ((putL_ne (i := 5) (by decide)).symm.trans h) | rfl), fun h => (by first | exact F1.out ((putL_ne (i := 5) (by decide)).symm.trans h) | rfl), fun h => (by first | exact F2.out ((putL_ne (i := 5) (by decide)).symm.trans h) | rfl), fun h => (fun q => q.imp fun _ k => ⟨k.1, k.2.later hb⟩) (F3.out ((putL_ne (i := 5) (by decide)).symm.trans h)), fun h => (fun q => ⟨q.1, q.2.1.later hb, q.2.2.later hb⟩) (F4.out ((putL_ne (i := 5) (by decide)).symm.trans h)), fun _ => rfl, fun h => absurd (hcl 6 ((putL_ne (i := 5) (by decide)).symm.trans h) 5 (by decide)) (by rw [hLi]; decide), fun h => absurd (hcl 7 ((putL_ne (i := 5) (by decide)).symm.trans h) 5 (by decide)) (by rw [hLi]; decide), fun h => absurd (hcl 8 ((putL_ne (i := 5) (by decide)).symm.trans h) 5 (by decide)) (by rw [hLi]; decide), fun h => (by first | exact F9.out ((putL_ne (i := 5) (by decide)).symm.trans h) | rfl), fun h => absurd (hcl 10 ((putL_ne (i := 5) (by decide)).symm.trans h) 5 (by decide)) (by rw [hLi]; decide), fun h => absurd (hcl 11 ((putL_ne (i := 5) (by decide)).symm.trans h) 5 (by decide)) (by rw [hLi]; decide), fun h => absurd (hcl 12 ((putL_ne (i := 5) (by decide)).symm.trans h) 5 (by decide)) (by rw [hLi]; decide)⟩
                  · have f0 := F0.out (hanc 0 (by decide))
                    have f1 := F1.out (hanc 1 (by decide))
                    have f2 := F2.out (hanc 2 (by decide))
                    have f3 := F3.out (hanc 3 (by decide))
                    have f4 := F4.out (hanc 4 (by decide))
                    have f5 := F5.out (hanc 5 (by decide))
                    have f := f5
                    subst f
                    refine YieldsIf.wpOp (S := fun _ => True) (v := .agg (stC 3 noV (.slice al9 nl9 cl9)).toArray) (by rfl) (.inl ⟨rfl, fun w _ => by go_simp⟩) trivial ?_
                    simp only [Act.put, List.setIfInBounds_toArray, List.set_cons_zero, List.set_cons_succ]
                    have hb : Below wx.heap.size wx wx := Below.refl _ _
                    show I (putL L 6) _ _
                    exact (HI.out (putL L 6) _ _).2 ⟨_, _, _, _, _, _, _, _, _, _, _, _, al9, cl9, nl9, vo9, q9, rfl, HS.out.later hb, E0.out.later hb, fun h h' => (E1.out ((putL_ne (i := 6) (by decide)).symm.trans h) ((putL_ne (i := 6) (by decide)).symm.trans h')).later hb, below_next E2.out hb, E3.out.later hb, fun h => (by first | exact F0.out ((putL_ne (i := 6) (by decide)).symm.trans h) | rfl), fun h => (by first | exact F1.out ((putL_ne (i := 6) (by decide)).symm.trans h) | rfl), fun h => (by first | exact F2.out ((putL_ne (i := 6) (by decide)).symm.trans h) | rfl), fun h => (fun q => q.imp fun _ k => ⟨k.1, k.2.later hb⟩) (F3.out ((putL_ne (i := 6) (by decide)).symm.trans h)), fun h => (fun q => ⟨q.1, q.2.1.later hb, q.2.2.later hb⟩) (F4.out ((putL_ne (i := 6) (by decide)).symm.trans h)), fun h => (by first | exact F5.out ((putL_ne (i := 6) (by decide)).symm.trans h) | rfl), fun _ => rfl, fun h => (by first | exact F7.out ((putL_ne (i := 6) (by decide)).symm.trans h) | rfl), fun h => (by first | exact F8.out ((putL_ne (i := 6) (by decide)).symm.trans h) | rfl), fun h => (by first | exact F9.out ((putL_ne (i := 6) (by decide)).symm.trans h) | rfl), fun h => absurd (hcl 10 ((putL_ne (i := 6) (by decide)).symm.trans h) 6 (by decide)) (by rw [hLi]; decide), fun h => absurd (hcl 11 ((putL_ne (i := 6) (by decide)).symm.trans h) 6 (by decide)) (by rw [hLi]; decide), fun h => absurd (hcl 12 ((putL_ne (i := 6) (by decide)).symm.trans h) 6 (by decide)) (by rw [hLi]; decide)⟩
                  · have f0 := F0.out (hanc 0 (by decide))
                    have f1 := F1.out (hanc 1 (by decide))
                    have f2 := F2.out (hanc 2 (by decide))
                    have f3 := F3.out (hanc 3 (by decide))
                    have f4 := F4.out (hanc 4 (by decide))
                    have f5 := F5.out (hanc 5 (by decide))
                    have f := f5
                    subst f
                    refine YieldsIf.wpOp (S := fun _ => True) (v := vo9) (by rfl) (.inl ⟨rfl, fun w _ => by go_simp⟩) trivial ?_
                    simp only [Act.put, List.setIfInBounds_toArray, List.set_cons_zero, List.set_cons_succ]
                    have hb : Below wx.heap.size wx wx := Below.refl _ _
                    show I (putL L 7) _ _
                    exact (HI.out (putL L 7) _ _).2 ⟨_, _, _, _, _, _, _, _, _, _, _, _, al9, cl9, nl9, vo9, q9, rfl, HS.out.later hb, E0.out.later hb, fun h h' => (E1.out ((putL_ne (i := 7) (by decide)).symm.trans h) ((putL_ne (i := 7) (by decide)).symm.trans h')).later hb, below_next E2.out hb, E3.out.later hb, fun h => (by first | exact F0.out ((putL_ne (i := 7) (by decide)).symm.trans h) | rfl), fun h => (by first | exact F1.out ((putL_ne (i := 7) (by decide)).symm.trans h) | rfl), fun h => (by first | exact F2.out ((putL_ne (i := 7) (by decide)).symm.trans h) | rfl), fun h => (fun q => q.imp fun _ k => ⟨k.1, k.2.later hb⟩) (F3.out ((putL_ne (i := 7) (by decide)).symm.trans h)), fun h => (fun q => ⟨q.1, q.2.1.later hb, q.2.2.later hb⟩) (F4.out ((putL_ne (i := 7) (by decide)).symm.trans h)), fun h => (by first | exact F5.out ((putL_ne (i := 7) (by decide)).symm.trans h) | rfl), fun h => (by first | exact F6.out ((putL_ne (i := 7) (by decide)).symm.trans h) | rfl), fun _ => rfl, fun h => (by first | exact F8.out ((putL_ne (i := 7) (by decide)).symm.trans h) | rfl), fun h => (by first | exact F9.out ((putL_ne (i := 7) (by decide)).symm.trans h) | rfl), fun h => (fun q => q.later hb) (F10.out ((putL_ne (i := 7) (by decide)).symm.trans h)), fun h => absurd (hcl 11 ((putL_ne (i := 7) (by decide)).symm.trans h) 7 (by decide)) (by rw [hLi]; decide), fun h => (by first | exact F12.out ((putL_ne (i := 7) (by decide)).symm.trans h) | rfl)⟩
                  · have f0 := F0.out (hanc 0 (by decide))
                    have f1 := F1.out (hanc 1 (by decide))
                    have f2 := F2.out (hanc 2 (by decide))
                    have f3 := F3.out (hanc 3 (by decide))
                    have f4 := F4.out (hanc 4 (by decide))
                    have f5 := F5.out (hanc 5 (by decide))
                    have f := f5
                    subst f
                    refine YieldsIf.wpOp (S := fun _ => True) (v := .bool true) (by rfl) (.inl ⟨rfl, fun w _ => by go_simp⟩) trivial ?_
                    simp only [Act.put, List.setIfInBounds_toArray, List.set_cons_zero, List.set_cons_succ]
                    have hb : Below wx.heap.size wx wx := Below.refl _ _
                    show I (putL L 8) _ _
                    exact (HI.out (putL L 8) _ _).2 ⟨_, _, _, _, _, _, _, _, _, _, _, _, al9, cl9, nl9, vo9, q9, rfl, HS.out.later hb, E0.out.later hb, fun h h' => (E1.out ((putL_ne (i := 8) (by decide)).symm.trans h) ((putL_ne (i := 8) (by decide)).symm.trans h')).later hb, below_next E2.out hb, E3.out.later hb, fun h => (by first | exact F0.out ((putL_ne (i := 8) (by decide)).symm.trans h) | rfl), fun h => (by first | exact F1.out ((putL_ne (i := 8) (by decide)).symm.trans h) | rfl), fun h => (by first | exact F2.out ((putL_ne (i := 8) (by decide)).symm.trans h) | rfl), fun h => (fun q => q.imp fun _ k => ⟨k.1, k.2.later hb⟩) (F3.out ((putL_ne (i := 8) (by decide)).symm.trans h)), fun h => (fun q => ⟨q.1, q.2.1.later hb, q.2.2.later hb⟩) (F4.out ((putL_ne (i := 8) (by decide)).symm.trans h)), fun h => (by first | exact F5.out ((putL_ne (i := 8) (by decide)).symm.trans h) | rfl), fun h => (by first | exact F6.out ((putL_ne (i := 8) (by decide)).symm.trans h) | rfl), fun h => (by first | exact F7.out ((putL_ne (i := 8) (by decide)).symm.trans h) | rfl), fun _ => rfl, fun h => (by first | exact F9.out ((putL_ne (i := 8) (by decide)).symm.trans h) | rfl), fun h => (fun q => q.later hb) (F10.out ((putL_ne (i := 8) (by decide)).symm.trans h)), fun h => (by first | exact F11.out ((putL_ne (i := 8) (by decide)).symm.trans h) | rfl), fun h => absurd (hcl 12 ((putL_ne (i := 8) (by decide)).symm.trans h) 8 (by decide)) (by rw [hLi]; decide)⟩
                  · refine wpOp_doG 9 (by rfl) (by rfl) ?_
                    go_wp2_with fail
                    have BO := Blk.new wx (stC 0 noV nilS) 28
                    have hb := below_box wx (.cells (stC 0 noV nilS).toArray 28)
                    change Blk (wx.alloc (.cells #[.int .i64 0, .int .i64 0, .int .i64 0, .string ⟨#[]⟩, .int .i64 0, .slice none 0 0] 28)) _ _ _ at BO
                    change Below _ wx (wx.alloc (.cells #[.int .i64 0, .int .i64 0, .int .i64 0, .string ⟨#[]⟩, .int .i64 0, .slice none 0 0] 28)) at hb
                    show I (putL L 9) _ _
                    exact (HI.out (putL L 9) _ _).2 ⟨_, _, _, _, _, _, _, _, _, _, _, _, al9, cl9, nl9, vo9, wx.heap.size, rfl, HS.out.later hb, E0.out.later hb, fun _ _ => BO, below_next E2.out hb, E3.out.later hb, fun h => (by first | exact F0.out ((putL_ne (i := 9) (by decide)).symm.trans h) | rfl), fun h => (by first | exact F1.out ((putL_ne (i := 9) (by decide)).symm.trans h) | rfl), fun h => (by first | exact F2.out ((putL_ne (i := 9) (by decide)).symm.trans h) | rfl), fun h => (fun q => q.imp fun _ k => ⟨k.1, k.2.later hb⟩) (F3.out ((putL_ne (i := 9) (by decide)).symm.trans h)), fun h => (fun q => ⟨q.1, q.2.1.later hb, q.2.2.later hb⟩) (F4.out ((putL_ne (i := 9) (by decide)).symm.trans h)), fun h => (by first | exact F5.out ((putL_ne (i := 9) (by decide)).symm.trans h) | rfl), fun h => (by first | exact F6.out ((putL_ne (i := 9) (by decide)).symm.trans h) | rfl), fun h => (by first | exact F7.out ((putL_ne (i := 9) (by decide)).symm.trans h) | rfl), fun h => (by first | exact F8.out ((putL_ne (i := 9) (by decide)).symm.trans h) | rfl), fun _ => ⟨rfl, HS.out.size, E2.out.size⟩, fun h => absurd (hcl 10 ((putL_ne (i := 9) (by decide)).symm.trans h) 9 (by decide)) (by rw [hLi]; decide), fun h => absurd (hcl 11 ((putL_ne (i := 9) (by decide)).symm.trans h) 9 (by decide)) (by rw [hLi]; decide), fun h => absurd (hcl 12 ((putL_ne (i := 9) (by decide)).symm.trans h) 9 (by decide)) (by rw [hLi]; decide)⟩
                  · have f0 := F0.out (hanc 0 (by decide))
                    have f1 := F1.out (hanc 1 (by decide))
                    have f2 := F2.out (hanc 2 (by decide))
                    have f3 := F3.out (hanc 3 (by decide))
                    have f4 := F4.out (hanc 4 (by decide))
                    have f5 := F5.out (hanc 5 (by decide))
                    have f6 := F6.out (hanc 6 (by decide))
                    have f9 := F9.out (hanc 9 (by decide))
                    have BS := E1.out (hanc 9 (by decide)) hLi
                    have f := f6
                    subst f
                    obtain ⟨fa, hq9⟩ := f9
                    subst fa
                    refine wpOp_doG 10 (by rfl) (by rfl) ?_
                    refine wpo_storeB 28 (.tmp 19) (.tmp 142) q9 0 (stC 3 noV (.slice al9 nl9 cl9)) (stC 0 noV nilS) 28 infoSt (show 0 + 6 ≤ 6 by decide) (stC_one _ _ rfl) rfl rfl rfl BS ?_
                    intro wn BP ho
                    replace BP : Blk wn q9 (stC 3 noV (.slice al9 nl9 cl9)) 28 := BP
                    simp only [Act.put, List.setIfInBounds_toArray, List.set_cons_zero, List.set_cons_succ]
                    show I (putL L 10) _ _
                    exact (HI.out (putL L 10) _ _).2 ⟨_, _, _, _, _, _, _, _, _, _, _, _, al9, cl9, nl9, vo9, q9, rfl, below_oth HS.out ho hq9.1 hq9.1 HS.out.size, E0.out.oth ho BS (by have := HZ9.out; have := hq9.2; omega), fun _ h => (by rw [putL_self] at h; cases h), below_oth E2.out ho hq9.2 hq9.2 E2.out.size, E3.out.oth ho (by have := HQl.out; have := hq9.2; omega) (by have := HQl.out; have := hq9.2; omega), fun h => (by first | exact F0.out ((putL_ne (i := 10) (by decide)).symm.trans h) | rfl), fun h => (by first | exact F1.out ((putL_ne (i := 10) (by decide)).symm.trans h) | rfl), fun h => (by first | exact F2.out ((putL_ne (i := 10) (by decide)).symm.trans h) | rfl), fun h => (fun q => q.imp fun _ k => ⟨k.1, k.2.oth ho BS (by decide)⟩) (F3.out ((putL_ne (i := 10) (by decide)).symm.trans h)), fun h => (fun q => ⟨q.1, q.2.1.oth ho BS (by decide), q.2.2.oth ho BS (by decide)⟩) (F4.out ((putL_ne (i := 10) (by decide)).symm.trans h)), fun h => (by first | exact F5.out ((putL_ne (i := 10) (by decide)).symm.trans h) | rfl), fun h => (by first | exact F6.out ((putL_ne (i := 10) (by decide)).symm.trans h) | rfl), fun h => (by first | exact F7.out ((putL_ne (i := 10) (by decide)).symm.trans h) | rfl), fun h => (by first | exact F8.out ((putL_ne (i := 10) (by decide)).symm.trans h) | rfl), fun h => (by first | exact F9.out ((putL_ne (i := 10) (by decide)).symm.trans h) | rfl), fun _ => ⟨BP, f4.2.2.oth ho BS (by decide), hq9.1⟩, fun h => absurd (hcl 11 ((putL_ne (i := 10) (by decide)).symm.trans h) 10 (by decide)) (by rw [hLi]; decide), fun h => absurd (hcl 12 ((putL_ne (i := 10) (by decide)).symm.trans h) 10 (by decide)) (by rw [hLi]; decide)⟩
                  · have f0 := F0.out (hanc 0 (by decide))
                    have f1 := F1.out (hanc 1 (by decide))
                    have f2 := F2.out (hanc 2 (by decide))
                    have f3 := F3.out (hanc 3 (by decide))
                    have f4 := F4.out (hanc 4 (by decide))
                    have f5 := F5.out (hanc 5 (by decide))
                    have f6 := F6.out (hanc 6 (by decide))
                    have f7 := F7.out (hanc 7 (by decide))
                    have f9 := F9.out (hanc 9 (by decide))
                    have f10 := F10.out (hanc 10 (by decide))
                    refine YieldsIf.wpOp (S := fun _ => True) (v := t143) (by rfl) (.inl ⟨rfl, fun w _ => rfl⟩) trivial ?_
                    simp only [Act.put, List.setIfInBounds_toArray, List.set_cons_zero, List.set_cons_succ]
                    have hb : Below wx.heap.size wx wx := Below.refl _ _
                    show I (putL L 11) _ _
                    exact (HI.out (putL L 11) _ _).2 ⟨_, _, _, _, _, _, _, _, _, _, _, _, al9, cl9, nl9, vo9, q9, rfl, HS.out.later hb, E0.out.later hb, fun h h' => (E1.out ((putL_ne (i := 11) (by decide)).symm.trans h) ((putL_ne (i := 11) (by decide)).symm.trans h')).later hb, below_next E2.out hb, E3.out.later hb, fun h => (by first | exact F0.out ((putL_ne (i := 11) (by decide)).symm.trans h) | rfl), fun h => (by first | exact F1.out ((putL_ne (i := 11) (by decide)).symm.trans h) | rfl), fun h => (by first | exact F2.out ((putL_ne (i := 11) (by decide)).symm.trans h) | rfl), fun h => (fun q => q.imp fun _ k => ⟨k.1, k.2.later hb⟩) (F3.out ((putL_ne (i := 11) (by decide)).symm.trans h)), fun h => (fun q => ⟨q.1, q.2.1.later hb, q.2.2.later hb⟩) (F4.out ((putL_ne (i := 11) (by decide)).symm.trans h)), fun h => (by first | exact F5.out ((putL_ne (i := 11) (by decide)).symm.trans h) | rfl), fun h => (by first | exact F6.out ((putL_ne (i := 11) (by decide)).symm.trans h) | rfl), fun h => (by first | exact F7.out ((putL_ne (i := 11) (by decide)).symm.trans h) | rfl), fun h => (by first | exact F8.out ((putL_ne (i := 11) (by decide)).symm.trans h) | rfl), fun h => (by first | exact F9.out ((putL_ne (i := 11) (by decide)).symm.trans h) | rfl), fun h => (fun q => q.later hb) (F10.out ((putL_ne (i := 11) (by decide)).symm.trans h)), fun _ => f7, fun h => (by first | exact F12.out ((putL_ne (i := 11) (by decide)).symm.trans h) | rfl)⟩
                  · have f0 := F0.out (hanc 0 (by decide))
                    have f1 := F1.out (hanc 1 (by decide))
                    have f2 := F2.out (hanc 2 (by decide))
                    have f3 := F3.out (hanc 3 (by decide))
                    have f4 := F4.out (hanc 4 (by decide))
                    have f5 := F5.out (hanc 5 (by decide))
                    have f6 := F6.out (hanc 6 (by decide))
                    have f8 := F8.out (hanc 8 (by decide))
                    have f9 := F9.out (hanc 9 (by decide))
                    have f10 := F10.out (hanc 10 (by decide))
                    refine YieldsIf.wpOp (S := fun _ => True) (v := t144) (by rfl) (.inl ⟨rfl, fun w _ => rfl⟩) trivial ?_
                    simp only [Act.put, List.setIfInBounds_toArray, List.set_cons_zero, List.set_cons_succ]
                    have hb : Below wx.heap.size wx wx := Below.refl _ _
                    show I (putL L 12) _ _
                    exact (HI.out (putL L 12) _ _).2 ⟨_, _, _, _, _, _, _, _, _, _, _, _, al9, cl9, nl9, vo9, q9, rfl, HS.out.later hb, E0.out.later hb, fun h h' => (E1.out ((putL_ne (i := 12) (by decide)).symm.trans h) ((putL_ne (i := 12) (by decide)).symm.trans h')).later hb, below_next E2.out hb, E3.out.later hb, fun h => (by first | exact F0.out ((putL_ne (i := 12) (by decide)).symm.trans h) | rfl), fun h => (by first | exact F1.out ((putL_ne (i := 12) (by decide)).symm.trans h) | rfl), fun h => (by first | exact F2.out ((putL_ne (i := 12) (by decide)).symm.trans h) | rfl), fun h => (fun q => q.imp fun _ k => ⟨k.1, k.2.later hb⟩) (F3.out ((putL_ne (i := 12) (by decide)).symm.trans h)), fun h => (fun q => ⟨q.1, q.2.1.later hb, q.2.2.later hb⟩) (F4.out ((putL_ne (i := 12) (by decide)).symm.trans h)), fun h => (by first | exact F5.out ((putL_ne (i := 12) (by decide)).symm.trans h) | rfl), fun h => (by first | exact F6.out ((putL_ne (i := 12) (by decide)).symm.trans h) | rfl), fun h => (by first | exact F7.out ((putL_ne (i := 12) (by decide)).symm.trans h) | rfl), fun h => (by first | exact F8.out ((putL_ne (i := 12) (by decide)).symm.trans h) | rfl), fun h => (by first | exact F9.out ((putL_ne (i := 12) (by decide)).symm.trans h) | rfl), fun h => (fun q => q.later hb) (F10.out ((putL_ne (i := 12) (by decide)).symm.trans h)), fun h => (by first | exact F11.out ((putL_ne (i := 12) (by decide)).symm.trans h) | rfl), fun _ => f8⟩
                · intro L act wx hall hIa
                  obtain ⟨t137, t138, t139, t140, t141, t136, t142, t143, t144, t19, t20, t21, al9, cl9, nl9, vo9, q9, rfl, HS, E0, E1, E2, E3, F0, F1, F2, F3, F4, F5, F6, F7, F8, F9, F10, F11, F12⟩ := (HI.out _ _ _).1 hIa
                  have f0 := F0.out (hall 0 (by decide))
                  have f1 := F1.out (hall 1 (by decide))
                  have f2 := F2.out (hall 2 (by decide))
                  have f3 := F3.out (hall 3 (by decide))
                  have f4 := F4.out (hall 4 (by decide))
                  have f5 := F5.out (hall 5 (by decide))
                  have f6 := F6.out (hall 6 (by decide))
                  have f7 := F7.out (hall 7 (by decide))
                  have f8 := F8.out (hall 8 (by decide))
                  have f9 := F9.out (hall 9 (by decide))
                  have f10 := F10.out (hall 10 (by decide))
                  have f11 := F11.out (hall 11 (by decide))
                  have f12 := F12.out (hall 12 (by decide))
                  clear hIa HI F0 F1 F2 F3 F4 F5 F6 F7 F8 F9 F10 F11 F12
                  show K9 _ _
                  obtain ⟨ga, gb, gc⟩ := f9
                  subst ga
                  have gd := f12
                  subst gd
                  exact HTl30.out wx q9 al9 cl9 nl9 f10 E2.out gc _ _ _ _ _ _ _ _ _ _ _ _ _ _ _ _ _ _ _ _ _ _ _ _ _ _ _ _ _ _ _ _ _ _ _ _ _ _ _ _ _ _ _ _ _ _ _ _ _ _ _ _ _ _ _ _ _ _ _ _ _ _ _ _ _ _ _ _ _ _ _ _ _ _ _ _ _ _ _ _ _ _ _ _ _ _ _ _ _ _ _ _ _ _ _ _ _ _ _ _ _ _ _ _ _ _ _ _ _ _ _ _ _ _ _ _ _ _ _ _ _ _ _ _ _ _ _ _ _ _ _ _ _ _ _ _ _ _ _ _ _ _ _ _ _ _ _ _ _ _ _ _ _
          have HTl22 : Hid (∀ (w' : World) (q9 : Nat) (al9 : Option Addr) (cl9 nl9 : Nat), Hs w w' q9 (.slice al9 nl9 cl9) LA → Stay w14 w' → w14.heap.size ≤ q9 → ∀ t1 t2 t3 t4 t5 t6 t8 t9 t10 t13 t15 t16 t17 t18 t19 t20 t21 t22 t23 t24 t25 t26 t27 t28 t29 t30 t31 t32 t33 t34 t35 t36 t37 t38 t39 t40 t41 t42 t43 t44 t45 t46 t47 t48 t49 t50 t51 t52 t53 t54 t55 t56 t57 t58 t59 t60 t61 t62 t63 t64 t65 t66 t67 t68 t69 t70 t71 t72 t73 t74 t75 t76 t77 t78 t79 t80 t81 t82 t83 t84 t85 t86 t87 t88 t89 t90 t91 t92 t93 t94 t95 t96 t97 t98 t99 t100 t101 t102 t103 t104 t105 t106 t107 t108 t109 t110 t111 t112 t113 t114 t115 t116 t117 t118 t119 t120 t121 t122 t123 t124 t125 t126 t127 t128 t129 t130 t131 t132 t133 t134 t135 t136 t137 t138 t139 t140 t141 t142 t143 t144 t145 t146 t147 t148 t149 t150 t151 t152 t153 t154 t155 t156 t157 t158 : Value, K9 ⟨#[Value.slice (some ⟨b, o, none⟩) j c, t1, t2, t3, t4, t5, t6, Value.pointer (some ⟨z7, 0, none⟩), t8, t9, t10, Value.pointer (some ⟨q11, 0, none⟩), Value.pointer (some ⟨q9, 0, none⟩), t13, Value.bool true, t15, t16, t17, t18, t19, t20, t21, t22, t23, t24, t25, t26, t27, t28, t29, t30, t31, t32, t33, t34, t35, t36, t37, t38, t39, t40, t41, t42, t43, t44, t45, t46, t47, t48, t49, t50, t51, t52, t53, t54, t55, t56, t57, t58, t59, t60, t61, t62, t63, t64, t65, t66, t67, t68, t69, t70, t71, t72, t73, t74, t75, t76, t77, t78, t79, t80, t81, t82, t83, t84, t85, t86, t87, t88, t89, t90, t91, t92, t93, t94, t95, t96, t97, t98, t99, t100, t101, t102, t103, t104, t105, t106, t107, t108, t109, t110, t111, t112, t113, t114, t115, t116, t117, t118, t119, t120, t121, t122, t123, t124, t125, t126, t127, t128, t129, t130, t131, t132, t133, t134, t135, t136, t137, t138, t139, t140, t141, t142, t143, t144, t145, t146, t147, t148, t149, t150, t151, t152, t153, t154, t155, t156, t157, t158], []⟩ w') := tail22
          clear tail22 hK9
          have HZ9 : Hid (z7 < w14.heap.size) := HSa.out.s.lt
          have HQl : Hid (q11 < w14.heap.size) := HQ.out.lt
          obtain ⟨I, hI⟩ : ∃ I : (Nat → Bool) → Act → World → Prop, ∀ L act wx, I L act wx ↔ (fun (L : Nat → Bool) (act : Act) (wx : World) => ∃ (t105 : Value) (t106 : Value) (t107 : Value) (t108 : Value) (t109 : Value) (t104 : Value) (t110 : Value) (t111 : Value) (t112 : Value) (t12 : Value) (t13 : Value) (t14 : Value) (al9 : Option Addr) (cl9 : Nat) (nl9 : Nat) (vo9 : Value) (q9 : Nat), act = ⟨#[Value.slice (some ⟨b, o, none⟩) j c, Value.int IntKind.u8 (bn : Int), undef, undef, u4, undef, u6, Value.pointer (some ⟨z7, 0, none⟩), Value.bool true, Value.pointer (some ⟨z7 + 1, 0, none⟩), u10, Value.pointer (some ⟨q11, 0, none⟩), t12, t13, t14, undef, undef, undef, undef, undef, undef, undef, Value.bool true, Value.bool false, Value.slice (some ⟨b, o, none⟩) j c, Value.int IntKind.i64 (j : Int), Value.bool (decide (30 < (j : Int))), Value.slice (some ⟨b, o, none⟩) j c, Value.int IntKind.i64 (j : Int), Value.int IntKind.i64 (j : Int), Value.bool false, u31, u32, u33, u34, u35, u36, u37, u38, u39, u40, u41, u42, Value.tuple #[Value.agg #[Value.int IntKind.i64 3, Value.int IntKind.i64 0, Value.int IntKind.i64 0, Value.string noB, Value.int IntKind.i64 0, nilS], Value.bool true], Value.tuple #[Value.agg #[Value.int IntKind.i64 3, Value.int IntKind.i64 0, Value.int IntKind.i64 0, Value.string noB, Value.int IntKind.i64 0, nilS], Value.bool true], Value.agg #[Value.int IntKind.i64 3, Value.int IntKind.i64 0, Value.int IntKind.i64 0, Value.string noB, Value.int IntKind.i64 0, nilS], Value.bool true, Value.agg #[Value.int IntKind.i64 3, Value.int IntKind.i64 0, Value.int IntKind.i64 0, Value.string noB, Value.int IntKind.i64 0, Value.slice none 0 0], Value.slice (some ⟨b, o, none⟩) j c, Value.int IntKind.i64 (j : Int), Value.int IntKind.i64 (j : Int), Value.bool false, u52, u53, u54, u55, u56, u57, u58, u59, u60, u61, u62, u63, u64, u65, u66, u67, u68, u69, u70, u71, u72, u73, u74, u75, u76, u77, u78, u79, u80, u81, u82, u83, Value.agg #[Value.int IntKind.i64 3, Value.int IntKind.i64 0, Value.int IntKind.i64 0, Value.string noB, Value.int IntKind.i64 0, va], Value.agg #[Value.int IntKind.i64 3, Value.int IntKind.i64 0, Value.int IntKind.i64 0, Value.string noB, Value.int IntKind.i64 0, vb], Value.bool true, Value.bool false, Value.bool false, Value.slice (some ⟨b, o, none⟩) j c, Value.int IntKind.i64 (j : Int), Value.bool false, Value.bool false, undef, undef, undef, Value.slice (some ⟨b, o, none⟩) j c, Value.int IntKind.u8 (bn : Int), Value.int IntKind.i64 (bn : Int), Value.slice (some ⟨b, o, none⟩) j c, Value.int IntKind.i64 (j : Int), Value.int IntKind.i64 (m9 : Int), Value.pointer (some ⟨b, o + m9 * 3, none⟩), Value.agg #[Value.int IntKind.i64 v9.fst, Value.int IntKind.i64 v9.snd.fst, Value.string v9.snd.snd], t104, t105, t106, t107, t108, t109, t110, t111, t112, undef, undef, undef, undef, undef, undef, undef, undef, undef, undef, undef, undef, undef, undef, undef, undef, undef, undef, undef, undef, undef, undef, undef, undef, undef, undef, undef, undef, undef, undef, undef, undef, undef, undef, undef, undef, undef, undef, undef, undef, undef, undef, undef, undef, undef, undef], []⟩ ∧ Hid (StW w wx) ∧ Hid (Hs w wx z7 va LA) ∧ Hid (L 9 = true → L 10 = false → Blk wx q9 (stC 0 noV nilS) 28) ∧ Hid (Stay w14 wx) ∧ Hid (Blk wx q11 (encV v9) 25) ∧ Hid (L 0 = true → t105 = .agg #[.int .i64 3, .int .i64 0, .int .i64 0, .string noB, .int .i64 0, va]) ∧ Hid (L 1 = true → t106 = .agg #[.int .i64 1, .int .i64 1, .string noB]) ∧ Hid (L 2 = true → t107 = .agg #[.int .i64 v9.1, .int .i64 v9.2.1, .string v9.2.2]) ∧ Hid (L 3 = true → ∃ q8 : Nat, t108 = .slice (some ⟨q8, 0, none⟩) 1 1 ∧ OwnV wx w.heap.size t108 [v9]) ∧ Hid (L 4 = true → t109 = .tuple #[.agg (stC 3 noV (.slice al9 nl9 cl9)).toArray, vo9, .bool true] ∧ OwnV wx w.heap.size vo9 [] ∧ OwnV wx w.heap.size (.slice al9 nl9 cl9) LA) ∧ Hid (L 5 = true → t104 = .tuple #[.agg (stC 3 noV (.slice al9 nl9 cl9)).toArray, vo9, .bool true]) ∧ Hid (L 6 = true → t110 = .agg (stC 3 noV (.slice al9 nl9 cl9)).toArray) ∧ Hid (L 7 = true → t111 = vo9) ∧ Hid (L 8 = true → t112 = .bool true) ∧ Hid (L 9 = true → t12 = .pointer (some ⟨q9, 0, none⟩) ∧ w.heap.size ≤ q9 ∧ w14.heap.size ≤ q9) ∧ Hid (L 10 = true → Hs w wx q9 (.slice al9 nl9 cl9) LA) ∧ Hid (L 11 = true → t13 = vo9) ∧ Hid (L 12 = true → t14 = .bool true)) L act wx := ⟨_, fun _ _ _ => Iff.rfl⟩
          dsimp only at hI
          have HI : Hid (∀ L act wx, I L act wx ↔ _) := hI
          clear hI
          refine wp_region_inv mixed [[], [], [], [2], [0, 1, 2, 3], [0, 1, 2, 3, 4], [0, 1, 2, 3, 4, 5], [0, 1, 2, 3, 4, 5], [0, 1, 2, 3, 4, 5], [], [0, 1, 2, 3, 4, 5, 6, 9], [0, 1, 2, 3, 4, 5, 6, 7, 9, 10], [0, 1, 2, 3, 4, 5, 6, 8, 9, 10]] (by kernel_rfl) I ?_ ?_ ?_
          · refine (HI.out _ _ _).2 ⟨_, _, _, _, _, _, _, _, _, _, _, _, none, 0, 0, undef, 0, rfl, ?_, ?_, ?_, ?_, ?_, fun h => Bool.noConfusion h, fun h => Bool.noConfusion h, fun h => Bool.noConfusion h, fun h => Bool.noConfusion h, fun h => Bool.noConfusion h, fun h => Bool.noConfusion h, fun h => Bool.noConfusion h, fun h => Bool.noConfusion h, fun h => Bool.noConfusion h, fun h => Bool.noConfusion h, fun h => Bool.noConfusion h, fun h => Bool.noConfusion h, fun h => Bool.noConfusion h⟩
            · exact below_next (And.intro HB.out HSa.out).1 (Stay.drew _)
            · exact (And.intro HB.out HSa.out).2.later (Stay.drew _)
            · exact fun h => Bool.noConfusion h
            · exact Stay.drew _
            · exact HQ.out.later (Stay.drew _)
          · intro i hi L act wx hIa hLi hcl hanc
            obtain ⟨t105, t106, t107, t108, t109, t104, t110, t111, t112, t12, t13, t14, al9, cl9, nl9, vo9, q9, rfl, HS, E0, E1, E2, E3, F0, F1, F2, F3, F4, F5, F6, F7, F8, F9, F10, F11, F12⟩ := (HI.out _ _ _).1 hIa
            clear hIa
            have hi' : i = 0 ∨ i = 1 ∨ i = 2 ∨ i = 3 ∨ i = 4 ∨ i = 5 ∨ i = 6 ∨ i = 7 ∨ i = 8 ∨ i = 9 ∨ i = 10 ∨ i = 11 ∨ i = 12 := by have hi : i < 13 := hi; omega
            clear hi
            rcases hi' with rfl | rfl | rfl | rfl | rfl | rfl | rfl | rfl | rfl | rfl | rfl | rfl | rfl
            · have hz := E0.out
              refine wpOp_doG 0 (by rfl) (by rfl) ?_
              refine wp_load_mid 28 (.tmp 7) rfl z7 0 rfl (stC 3 noV va) _ (Blk.all hz.s) Tryd.underlying28 rfl infoSt ?_
              simp only [Act.put, List.setIfInBounds_toArray, List.set_cons_zero, List.set_cons_succ]
              have hb : Below wx.heap.size wx wx := Below.refl _ _
              show I (putL L 0) _ _
              exact (HI.out (putL L 0) _ _).2 ⟨_, _, _, _, _, _, _, _, _, _, _, _, al9, cl9, nl9, vo9, q9, rfl, HS.out.later hb, E0.out.later hb, fun h h' => (E1.out ((putL_ne (i := 0) (by decide)).symm.trans h) ((putL_ne (i := 0) (by decide)).symm.trans h')).later hb, below_next E2.out hb, E3.out.later hb, fun _ => rfl, fun h => (by first | exact F1.out ((putL_ne (i := 0) (by decide)).symm.trans h) | rfl), fun h => (by first | exact F2.out ((putL_ne (i := 0) (by decide)).symm.trans h) | rfl), fun h => (fun q => q.imp fun _ k => ⟨k.1, k.2.later hb⟩) (F3.out ((putL_ne (i := 0) (by decide)).symm.trans h)), fun h => absurd (hcl 4 ((putL_ne (i := 0) (by decide)).symm.trans h) 0 (by decide)) (by rw [hLi]; decide), fun h => absurd (hcl 5 ((putL_ne (i := 0) (by decide)).symm.trans h) 0 (by decide)) (by rw [hLi]; decide), fun h => absurd (hcl 6 ((putL_ne (i := 0) (by decide)).symm.trans h) 0 (by decide)) (by rw [hLi]; decide), fun h => absurd (hcl 7 ((putL_ne (i := 0) (by decide)).symm.trans h) 0 (by decide)) (by rw [hLi]; decide), fun h => absurd (hcl 8 ((putL_ne (i := 0) (by decide)).symm.trans h) 0 (by decide)) (by rw [hLi]; decide), fun h => (by first | exact F9.out ((putL_ne (i := 0) (by decide)).symm.trans h) | rfl), fun h => absurd (hcl 10 ((putL_ne (i := 0) (by decide)).symm.trans h) 0 (by decide)) (by rw [hLi]; decide), fun h => absurd (hcl 11 ((putL_ne (i := 0) (by decide)).symm.trans h) 0 (by decide)) (by rw [hLi]; decide), fun h => absurd (hcl 12 ((putL_ne (i := 0) (by decide)).symm.trans h) 0 (by decide)) (by rw [hLi]; decide)⟩
            · refine wpOp_doG 1 (by rfl) (by rfl) ?_
              go_wp2_with fail
              refine (num_any 1 wx).mono ?_
              rintro e9 wn ⟨rfl, hb⟩
              show I (putL L 1) _ _
              exact (HI.out (putL L 1) _ _).2 ⟨_, _, _, _, _, _, _, _, _, _, _, _, al9, cl9, nl9, vo9, q9, rfl, HS.out.later hb, E0.out.later hb, fun h h' => (E1.out ((putL_ne (i := 1) (by decide)).symm.trans h) ((putL_ne (i := 1) (by decide)).symm.trans h')).later hb, below_next E2.out hb, E3.out.later hb, fun h => (by first | exact F0.out ((putL_ne (i := 1) (by decide)).symm.trans h) | rfl), fun _ => rfl, fun h => (by first | exact F2.out ((putL_ne (i := 1) (by decide)).symm.trans h) | rfl), fun h => (fun q => q.imp fun _ k => ⟨k.1, k.2.later hb⟩) (F3.out ((putL_ne (i := 1) (by decide)).symm.trans h)), fun h => absurd (hcl 4 ((putL_ne (i := 1) (by decide)).symm.trans h) 1 (by decide)) (by rw [hLi]; decide), fun h => absurd (hcl 5 ((putL_ne (i := 1) (by decide)).symm.trans h) 1 (by decide)) (by rw [hLi]; decide), fun h => absurd (hcl 6 ((putL_ne (i := 1) (by decide)).symm.trans h) 1 (by decide)) (by rw [hLi]; decide), fun h => absurd (hcl 7 ((putL_ne (i := 1) (by decide)).symm.trans h) 1 (by decide)) (by rw [hLi]; decide), fun h => absurd (hcl 8 ((putL_ne (i := 1) (by decide)).symm.trans h) 1 (by decide)) (by rw [hLi]; decide), fun h => (by first | exact F9.out ((putL_ne (i := 1) (by decide)).symm.trans h) | rfl), fun h => absurd (hcl 10 ((putL_ne (i := 1) (by decide)).symm.trans h) 1 (by decide)) (by rw [hLi]; decide), fun h => absurd (hcl 11 ((putL_ne (i := 1) (by decide)).symm.trans h) 1 (by decide)) (by rw [hLi]; decide), fun h => absurd (hcl 12 ((putL_ne (i := 1) (by decide)).symm.trans h) 1 (by decide)) (by rw [hLi]; decide)⟩
            · refine wpOp_doG 2 (by rfl) (by rfl) ?_
              refine wp_load_mid 25 (.tmp 11) rfl q11 0 rfl (encV v9) _ (Blk.all E3.out) Tryd.underlying25 rfl infoVv ?_
              simp only [Act.put, List.setIfInBounds_toArray, List.set_cons_zero, List.set_cons_succ]
              have hb : Below wx.heap.size wx wx := Below.refl _ _
              show I (putL L 2) _ _
              exact (HI.out (putL L 2) _ _).2 ⟨_, _, _, _, _, _, _, _, _, _, _, _, al9, cl9, nl9, vo9, q9, rfl, HS.out.later hb, E0.out.later hb, fun h h' => (E1.out ((putL_ne (i := 2) (by decide)).symm.trans h) ((putL_ne (i := 2) (by decide)).symm.trans h')).later hb, below_next E2.out hb, E3.out.later hb, fun h => (by first | exact F0.out ((putL_ne (i := 2) (by decide)).symm.trans h) | rfl), fun h => (by first | exact F1.out ((putL_ne (i := 2) (by decide)).symm.trans h) | rfl), fun _ => rfl, fun h => absurd (hcl 3 ((putL_ne (i := 2) (by decide)).symm.trans h) 2 (by decide)) (by rw [hLi]; decide), fun h => absurd (hcl 4 ((putL_ne (i := 2) (by decide)).symm.trans h) 2 (by decide)) (by rw [hLi]; decide), fun h => absurd (hcl 5 ((putL_ne (i := 2) (by decide)).symm.trans h) 2 (by decide)) (by rw [hLi]; decide), fun h => absurd (hcl 6 ((putL_ne (i := 2) (by decide)).symm.trans h) 2 (by decide)) (by rw [hLi]; decide), fun h => absurd (hcl 7 ((putL_ne (i := 2) (by decide)).symm.trans h) 2 (by decide)) (by rw [hLi]; decide), fun h => absurd (hcl 8 ((putL_ne (i := 2) (by decide)).symm.trans h) 2 (by decide)) (by rw [hLi]; decide), fun h => (by first | exact F9.out ((putL_ne (i := 2) (by decide)).symm.trans h) | rfl), fun h => absurd (hcl 10 ((putL_ne (i := 2) (by decide)).symm.trans h) 2 (by decide)) (by rw [hLi]; decide), fun h => absurd (hcl 11 ((putL_ne (i := 2) (by decide)).symm.trans h) 2 (by decide)) (by rw [hLi]; decide), fun h => absurd (hcl 12 ((putL_ne (i := 2) (by decide)).symm.trans h) 2 (by decide)) (by rw [hLi]; decide)⟩
            · have f2 := F2.out (hanc 2 (by decide))
              have f := f2
              subst f
              refine wpOp_doG 3 (by rfl) (by rfl) ?_
              go_wp2_with fail
              have HV9 := own_one wx w.heap.size HS.out.size v9
              have hb := below_box wx (.cells (encV v9).toArray 25)
              change OwnV (wx.alloc (.cells #[.int .i64 v9.1, .int .i64 v9.2.1, .string v9.2.2] 25)) _ _ _ at HV9
              change Below _ wx (wx.alloc (.cells #[.int .i64 v9.1, .int .i64 v9.2.1, .string v9.2.2] 25)) at hb
              show I (putL L 3) _ _
              exact (HI.out (putL L 3) _ _).2 ⟨_, _, _, _, _, _, _, _, _, _, _, _, al9, cl9, nl9, vo9, q9, rfl, HS.out.later hb, E0.out.later hb, fun h h' => (E1.out ((putL_ne (i := 3) (by decide)).symm.trans h) ((putL_ne (i := 3) (by decide)).symm.trans h')).later hb, below_next E2.out hb, E3.out.later hb, fun h => (by first | exact F0.out ((putL_ne (i := 3) (by decide)).symm.trans h) | rfl), fun h => (by first | exact F1.out ((putL_ne (i := 3) (by decide)).symm.trans h) | rfl), fun h => (by first | exact F2.out ((putL_ne (i := 3) (by decide)).symm.trans h) | rfl), fun _ => ⟨_, rfl, HV9⟩, fun h => absurd (hcl 4 ((putL_ne (i := 3) (by decide)).symm.trans h) 3 (by decide)) (by rw [hLi]; decide), fun h => absurd (hcl 5 ((putL_ne (i := 3) (by decide)).symm.trans h) 3 (by decide)) (by rw [hLi]; decide), fun h => absurd (hcl 6 ((putL_ne (i := 3) (by decide)).symm.trans h) 3 (by decide)) (by rw [hLi]; decide), fun h => absurd (hcl 7 ((putL_ne (i := 3) (by decide)).symm.trans h) 3 (by decide)) (by rw [hLi]; decide), fun h => absurd (hcl 8 ((putL_ne (i := 3) (by decide)).symm.trans h) 3 (by decide)) (by rw [hLi]; decide), fun h => (by first | exact F9.out ((putL_ne (i := 3) (by decide)).symm.trans h) | rfl), fun h => absurd (hcl 10 ((putL_ne (i := 3) (by decide)).symm.trans h) 3 (by decide)) (by rw [hLi]; decide), fun h => absurd (hcl 11 ((putL_ne (i := 3) (by decide)).symm.trans h) 3 (by decide)) (by rw [hLi]; decide), fun h => absurd (hcl 12 ((putL_ne (i := 3) (by decide)).symm.trans h) 3 (by decide)) (by rw [hLi]; decide)⟩
            · have f0 := F0.out (hanc 0 (by decide))
              have f1 := F1.out (hanc 1 (by decide))
              have f2 := F2.out (hanc 2 (by decide))
              have f3 := F3.out (hanc 3 (by decide))
              have hz := E0.out
              have g0 := f0
              have g1 := f1
              subst g0 g1
              obtain ⟨q8, g3, hv8⟩ := f3
              subst g3
              refine wpOp_doG 4 (by rfl) (by rfl) ?_
              go_wp2_with fail
              refine (HK.out.yes w.heap.size (vN 1) va LA 4 (.slice (some ⟨q8, 0, none⟩) 1 1) [v9] wx HS.out.size (HT.out.later HS.out) hz.l HSA.out HLnA.out hv8.vsl (sz1 _ (by have := HVv.out.2; omega)) (Nat.zero_le _) (may_add HVv.out.1)).mono ?_
              rintro e9 wn ⟨vo, vl9, rfl, ho9, hl9, -, hb⟩
              have ho9 := ho9.base HS.out.size
              rw [nx_add, HAg.out] at hl9
              skip
              obtain ⟨al8, cl8, hf9⟩ := hl9.form
              obtain ⟨nl8, hn9⟩ : ∃ nl8, (LA).length = nl8 := ⟨_, rfl⟩
              rw [hn9] at hf9
              subst hf9
              clear hn9
              show I (putL L 4) _ _
              exact (HI.out (putL L 4) _ _).2 ⟨_, _, _, _, _, _, _, _, _, _, _, _, al8, cl8, nl8, vo, q9, rfl, HS.out.later hb, E0.out.later hb, fun h h' => (E1.out ((putL_ne (i := 4) (by decide)).symm.trans h) ((putL_ne (i := 4) (by decide)).symm.trans h')).later hb, below_next E2.out hb, E3.out.later hb, fun h => (by first | exact F0.out ((putL_ne (i := 4) (by decide)).symm.trans h) | rfl), fun h => (by first | exact F1.out ((putL_ne (i := 4) (by decide)).symm.trans h) | rfl), fun h => (by first | exact F2.out ((putL_ne (i := 4) (by decide)).symm.trans h) | rfl), fun h => (fun q => q.imp fun _ k => ⟨k.1, k.2.later hb⟩) (F3.out ((putL_ne (i := 4) (by decide)).symm.trans h)), fun _ => ⟨rfl, ho9, hl9⟩, fun h => absurd (hcl 5 ((putL_ne (i := 4) (by decide)).symm.trans h) 4 (by decide)) (by rw [hLi]; decide), fun h => absurd (hcl 6 ((putL_ne (i := 4) (by decide)).symm.trans h) 4 (by decide)) (by rw [hLi]; decide), fun h => absurd (hcl 7 ((putL_ne (i := 4) (by decide)).symm.trans h) 4 (by decide)) (by rw [hLi]; decide), fun h => absurd (hcl 8 ((putL_ne (i := 4) (by decide)).symm.trans h) 4 (by decide)) (by rw [hLi]; decide), fun h => (by first | exact F9.out ((putL_ne (i := 4) (by decide)).symm.trans h) | rfl), fun h => absurd (hcl 10 ((putL_ne (i := 4) (by decide)).symm.trans h) 4 (by decide)) (by rw [hLi]; decide), fun h => absurd (hcl 11 ((putL_ne (i := 4) (by decide)).symm.trans h) 4 (by decide)) (by rw [hLi]; decide), fun h => absurd (hcl 12 ((putL_ne (i := 4) (by decide)).symm.trans h) 4 (by decide)) (by rw [hLi]; decide)⟩
            · have f0 := F0.out (hanc 0 (by decide))
              have f1 := F1.out (hanc 1 (by decide))
              have f2 := F2.out (hanc 2 (by decide))
              have f3 := F3.out (hanc 3 (by decide))
              have f4 := F4.out (hanc 4 (by decide))
              have f := f4.1
              subst f
              refine YieldsIf.wpOp (S := fun _ => True) (v := .tuple #[.agg (stC 3 noV (.slice al9 nl9 cl9)).toArray, vo9, .bool true]) (by rfl) (.inl ⟨rfl, fun w _ => rfl⟩) trivial ?_
              simp only [Act.put, List.setIfInBounds_toArray, List.set_cons_zero, List.set_cons_succ]
              have hb : Below wx.heap.size wx wx := Below.refl _ _
              show I (putL L 5) _ _
              exact (HI.out (putL L 5) _ _).2 ⟨_, _, _, _, _, _, _, _, _, _, _, _, al9, cl9, nl9, vo9, q9, rfl, HS.out.later hb, E0.out.later hb, fun h h' => (E1.out ((putL_ne (i := 5) (by decide)).symm.trans h) ((putL_ne (i := 5) (by decide)).symm.trans h')).later hb, below_next E2.out hb, E3.out.later hb, fun h => (by first | exact F0.out ((putL_ne (i := 5) (by decide)).symm.trans h) | rfl), fun h => (by first | exact F1.out ((putL_ne (i := 5) (by decide)).symm.trans h) | rfl), fun h => (by first | exact F2.out ((putL_ne (i := 5) (by decide)).symm.trans h) | rfl), fun h => (fun q => q.imp fun _ k => ⟨k.1, k.2.later hb⟩) (F3.out ((putL_ne (i := 5) (by decide)).symm.trans h)), fun h => (fun q => ⟨q.1, q.2.1.later hb, q.2.2.later hb⟩) (F4.out ((putL_ne (i := 5) (by decide)).symm.trans h)), fun _ => rfl, fun h => absurd (hcl 6 ((putL_ne (i := 5) (by decide)).symm.trans h) 5 (by decide)) (by rw [hLi]; decide), fun h => absurd (hcl 7 ((putL_ne (i := 5) (by decide)).symm.trans h) 5 (by decide)) (by rw [hLi]; decide), fun h => absurd (hcl 8 ((putL_ne (i := 5) (by decide)).symm.trans h) 5 (by decide)) (by rw [hLi]; decide), fun h => (by first | exact F9.out ((putL_ne (i := 5) (by decide)).symm.trans h) | rfl), fun h => absurd (hcl 10 ((putL_ne (i := 5) (by decide)).symm.trans h) 5 (by decide)) (by rw [hLi]; decide), fun h => absurd (hcl 11 ((putL_ne (i := 5) (by decide)).symm.trans h) 5 (by decide)) (by rw [hLi]; decide), fun h => absurd (hcl 12 ((putL_ne (i := 5) (by decide)).symm.trans h) 5 (by decide)) (by rw [hLi]; decide)⟩
            · have f0 := F0.out (hanc 0 (by decide))
              have f1 := F1.out (hanc 1 (by decide))
              have f2 := F2.out (hanc 2 (by decide))
              have f3 := F3.out (hanc 3 (by decide))
              have f4 := F4.out (hanc 4 (by decide))
              have f5 := F5.out (hanc 5 (by decide))
              have f := f5
              subst f
              refine YieldsIf.wpOp (S := fun _ => True) (v := .agg (stC 3 noV (.slice al9 nl9 cl9)).toArray) (by rfl) (.inl ⟨rfl, fun w _ => by go_simp⟩) trivial ?_
              simp only [Act.put, List.setIfInBounds_toArray, List.set_cons_zero, List.set_cons_succ]
              have hb : Below wx.heap.size wx wx := Below.refl _ _
              show I (putL L 6) _ _
              exact (HI.out (putL L 6) _ _).2 ⟨_, _, _, _, _, _, _, _, _, _, _, _, al9, cl9, nl9, vo9, q9, rfl, HS.out.later hb, E0.out.later hb, fun h h' => (E1.out ((putL_ne (i := 6) (by decide)).symm.trans h) ((putL_ne (i := 6) (by decide)).symm.trans h')).later hb, below_next E2.out hb, E3.out.later hb, fun h => (by first | exact F0.out ((putL_ne (i := 6) (by decide)).symm.trans h) | rfl), fun h => (by first | exact F1.out ((putL_ne (i := 6) (by decide)).symm.trans h) | rfl), fun h => (by first | exact F2.out ((putL_ne (i := 6) (by decide)).symm.trans h) | rfl), fun h => (fun q => q.imp fun _ k => ⟨k.1, k.2.later hb⟩) (F3.out ((putL_ne (i := 6) (by decide)).symm.trans h)), fun h => (fun q => ⟨q.1, q.2.1.later hb, q.2.2.later hb⟩) (F4.out ((putL_ne (i := 6) (by decide)).symm.trans h)), fun h => (by first | exact F5.out ((putL_ne (i := 6) (by decide)).symm.trans h) | rfl), fun _ => rfl, fun h => (by first | exact F7.out ((putL_ne (i := 6) (by decide)).symm.trans h) | rfl), fun h => (by first | exact F8.out ((putL_ne (i := 6) (by decide)).symm.trans h) | rfl), fun h => (by first | exact F9.out ((putL_ne (i := 6) (by decide)).symm.trans h) | rfl), fun h => absurd (hcl 10 ((putL_ne (i := 6) (by decide)).symm.trans h) 6 (by decide)) (by rw [hLi]; decide), fun h => absurd (hcl 11 ((putL_ne (i := 6) (by decide)).symm.trans h) 6 (by decide)) (by rw [hLi]; decide), fun h => absurd (hcl 12 ((putL_ne (i := 6) (by decide)).symm.trans h) 6 (by decide)) (by rw [hLi]; decide)⟩
            · have f0 := F0.out (hanc 0 (by decide))
              have f1 := F1.out (hanc 1 (by decide))
              have f2 := F2.out (hanc 2 (by decide))
              have f3 := F3.out (hanc 3 (by decide))
              have f4 := F4.out (hanc 4 (by decide))
              have f5 := F5.out (hanc 5 (by decide))
              have f := f5
              subst f
              refine YieldsIf.wpOp (S := fun _ => True) (v := vo9) (by rfl) (.inl ⟨rfl, fun w _ => by go_simp⟩) trivial ?_
              simp only [Act.put, List.setIfInBounds_toArray, List.set_cons_zero, List.set_cons_succ]
              have hb : Below wx.heap.size wx wx := Below.refl _ _
              show I (putL L 7) _ _
              exact (HI.out (putL L 7) _ _).2 ⟨_, _, _, _, _, _, _, _, _, _, _, _, al9, cl9, nl9, vo9, q9, rfl, HS.out.later hb, E0.out.later hb, fun h h' => (E1.out ((putL_ne (i := 7) (by decide)).symm.trans h) ((putL_ne (i := 7) (by decide)).symm.trans h')).later hb, below_next E2.out hb, E3.out.later hb, fun h => (by first | exact F0.out ((putL_ne (i := 7) (by decide)).symm.trans h) | rfl), fun h => (by first | exact F1.out ((putL_ne (i := 7) (by decide)).symm.trans h) | rfl), fun h => (by first | exact F2.out ((putL_ne (i := 7) (by decide)).symm.trans h) | rfl), fun h => (fun q => q.imp fun _ k => ⟨k.1, k.2.later hb⟩) (F3.out ((putL_ne (i := 7) (by decide)).symm.trans h)), fun h => (fun q => ⟨q.1, q.2.1.later hb, q.2.2.later hb⟩) (F4.out ((putL_ne (i := 7) (by decide)).symm.trans h)), fun h => (by first | exact F5.out ((putL_ne (i := 7) (by decide)).symm.trans h) | rfl), fun h => (by first | exact F6.out ((putL_ne (i := 7) (by decide)).symm.trans h) | rfl), fun _ => rfl, fun h => (by first | exact F8.out ((putL_ne (i := 7) (by decide)).symm.trans h) | rfl), fun h => (by first | exact F9.out ((putL_ne (i := 7) (by decide)).symm.trans h) | rfl), fun h => (fun q => q.later hb) (F10.out ((putL_ne (i := 7) (by decide)).symm.trans h)), fun h => absurd (hcl 11 ((putL_ne (i := 7) (by decide)).symm.trans h) 7 (by decide)) (by rw [hLi]; decide), fun h => (by first | exact F12.out ((putL_ne (i := 7) (by decide)).symm.trans h) | rfl)⟩
            · have f0 := F0.out (hanc 0 (by decide))
              have f1 := F1.out (hanc 1 (by decide))
              have f2 := F2.out (hanc 2 (by decide))
              have f3 := F3.out (hanc 3 (by decide))
              have f4 := F4.out (hanc 4 (by decide))
              have f5 := F5.out (hanc 5 (by decide))
              have f := f5
              subst f
              refine YieldsIf.wpOp (S := fun _ => True) (v := .bool true) (by rfl) (.inl ⟨rfl, fun w _ => by go_simp⟩) trivial ?_
              simp only [Act.put, List.setIfInBounds_toArray, List.set_cons_zero, List.set_cons_succ]
              have hb : Below wx.heap.size wx wx := Below.refl _ _
              show I (putL L 8) _ _
              exact (HI.out (putL L 8) _ _).2 ⟨_, _, _, _, _, _, _, _, _, _, _, _, al9, cl9, nl9, vo9, q9, rfl, HS.out.later hb, E0.out.later hb, fun h h' => (E1.out ((putL_ne (i := 8) (by decide)).symm.trans h) ((putL_ne (i := 8) (by decide)).symm.trans h')).later hb, below_next E2.out hb, E3.out.later hb, fun h => (by first | exact F0.out ((putL_ne (i := 8) (by decide)).symm.trans h) | rfl), fun h => (by first | exact F1.out ((putL_ne (i := 8) (by decide)).symm.trans h) | rfl), fun h => (by first | exact F2.out ((putL_ne (i := 8) (by decide)).symm.trans h) | rfl), fun h => (fun q => q.imp fun _ k => ⟨k.1, k.2.later hb⟩) (F3.out ((putL_ne (i := 8) (by decide)).symm.trans h)), fun h => (fun q => ⟨q.1, q.2.1.later hb, q.2.2.later hb⟩) (F4.out ((putL_ne (i := 8) (by decide)).symm.trans h)), fun h => (by first | exact F5.out ((putL_ne (i := 8) (by decide)).symm.trans h) | rfl), fun h => (by first | exact F6.out ((putL_ne (i := 8) (by decide)).symm.trans h) | rfl), fun h => (by first | exact F7.out ((putL_ne (i := 8) (by decide)).symm.trans h) | rfl), fun _ => rfl, fun h => (by first | exact F9.out ((putL_ne (i := 8) (by decide)).symm.trans h) | rfl), fun h => (fun q => q.later hb) (F10.out ((putL_ne (i := 8) (by decide)).symm.trans h)), fun h => (by first | exact F11.out ((putL_ne (i := 8) (by decide)).symm.trans h) | rfl), fun h => absurd (hcl 12 ((putL_ne (i := 8) (by decide)).symm.trans h) 8 (by decide)) (by rw [hLi]; decide)⟩
            · refine wpOp_doG 9 (by rfl) (by rfl) ?_
              go_wp2_with fail
              have BO := Blk.new wx (stC 0 noV nilS) 28
              have hb := below_box wx (.cells (stC 0 noV nilS).toArray 28)
              change Blk (wx.alloc (.cells #[.int .i64 0, .int .i64 0, .int .i64 0, .string ⟨#[]⟩, .int .i64 0, .slice none 0 0] 28)) _ _ _ at BO
              change Below _ wx (wx.alloc (.cells #[.int .i64 0, .int .i64 0, .int .i64 0, .string ⟨#[]⟩, .int .i64 0, .slice none 0 0] 28)) at hb
              show I (putL L 9) _ _
              exact (HI.out (putL L 9) _ _).2 ⟨_, _, _, _, _, _, _, _, _, _, _, _, al9, cl9, nl9, vo9, wx.heap.size, rfl, HS.out.later hb, E0.out.later hb, fun _ _ => BO, below_next E2.out hb, E3.out.later hb, fun h => (by first | exact F0.out ((putL_ne (i := 9) (by decide)).symm.trans h) | rfl), fun h => (by first | exact F1.out ((putL_ne (i := 9) (by decide)).symm.trans h) | rfl), fun h => (by first | exact F2.out ((putL_ne (i := 9) (by decide)).symm.trans h) | rfl), fun h => (fun q => q.imp fun _ k => ⟨k.1, k.2.later hb⟩) (F3.out ((putL_ne (i := 9) (by decide)).symm.trans h)), fun h => (fun q => ⟨q.1, q.2.1.later hb, q.2.2.later hb⟩) (F4.out ((putL_ne (i := 9) (by decide)).symm.trans h)), fun h => (by first | exact F5.out ((putL_ne (i := 9) (by decide)).symm.trans h) | rfl), fun h => (by first | exact F6.out ((putL_ne (i := 9) (by decide)).symm.trans h) | rfl), fun h => (by first | exact F7.out ((putL_ne (i := 9) (by decide)).symm.trans h) | rfl), fun h => (by first | exact F8.out ((putL_ne (i := 9) (by decide)).symm.trans h) | rfl), fun _ => ⟨rfl, HS.out.size, E2.out.size⟩, fun h => absurd (hcl 10 ((putL_ne (i := 9) (by decide)).symm.trans h) 9 (by decide)) (by rw [hLi]; decide), fun h => absurd (hcl 11 ((putL_ne (i := 9) (by decide)).symm.trans h) 9 (by decide)) (by rw [hLi]; decide), fun h => absurd (hcl 12 ((putL_ne (i := 9) (by decide)).symm.trans h) 9 (by decide)) (by rw [hLi]; decide)⟩
            · have f0 := F0.out (hanc 0 (by decide))
              have f1 := F1.out (hanc 1 (by decide))
              have f2 := F2.out (hanc 2 (by decide))
              have f3 := F3.out (hanc 3 (by decide))
              have f4 := F4.out (hanc 4 (by decide))
              have f5 := F5.out (hanc 5 (by decide))
              have f6 := F6.out (hanc 6 (by decide))
              have f9 := F9.out (hanc 9 (by decide))
              have BS := E1.out (hanc 9 (by decide)) hLi
              have f := f6
              subst f
              obtain ⟨fa, hq9⟩ := f9
              subst fa
              refine wpOp_doG 10 (by rfl) (by rfl) ?_
              refine wpo_storeB 28 (.tmp 12) (.tmp 110) q9 0 (stC 3 noV (.slice al9 nl9 cl9)) (stC 0 noV nilS) 28 infoSt (show 0 + 6 ≤ 6 by decide) (stC_one _ _ rfl) rfl rfl rfl BS ?_
              intro wn BP ho
              replace BP : Blk wn q9 (stC 3 noV (.slice al9 nl9 cl9)) 28 := BP
              simp only [Act.put, List.setIfInBounds_toArray, List.set_cons_zero, List.set_cons_succ]
              show I (putL L 10) _ _
              exact (HI.out (putL L 10) _ _).2 ⟨_, _, _, _, _, _, _, _, _, _, _, _, al9, cl9, nl9, vo9, q9, rfl, below_oth HS.out ho hq9.1 hq9.1 HS.out.size, E0.out.oth ho BS (by have := HZ9.out; have := hq9.2; omega), fun _ h => (by rw [putL_self] at h; cases h), below_oth E2.out ho hq9.2 hq9.2 E2.out.size, E3.out.oth ho (by have := HQl.out; have := hq9.2; omega) (by have := HQl.out; have := hq9.2; omega), fun h => (by first | exact F0.out ((putL_ne (i := 10) (by decide)).symm.trans h) | rfl), fun h => (by first | exact F1.out ((putL_ne (i := 10) (by decide)).symm.trans h) | rfl), fun h => (by first | exact F2.out ((putL_ne (i := 10) (by decide)).symm.trans h) | rfl), fun h => (fun q => q.imp fun _ k => ⟨k.1, k.2.oth ho BS (by decide)⟩) (F3.out ((putL_ne (i := 10) (by decide)).symm.trans h)), fun h => (fun q => ⟨q.1, q.2.1.oth ho BS (by decide), q.2.2.oth ho BS (by decide)⟩) (F4.out ((putL_ne (i := 10) (by decide)).symm.trans h)), fun h => (by first | exact F5.out ((putL_ne (i := 10) (by decide)).symm.trans h) | rfl), fun h => (by first | exact F6.out ((putL_ne (i := 10) (by decide)).symm.trans h) | rfl), fun h => (by first | exact F7.out ((putL_ne (i := 10) (by decide)).symm.trans h) | rfl), fun h => (by first | exact F8.out ((putL_ne (i := 10) (by decide)).symm.trans h) | rfl), fun h => (by first | exact F9.out ((putL_ne (i := 10) (by decide)).symm.trans h) | rfl), fun _ => ⟨BP, f4.2.2.oth ho BS (by decide), hq9.1⟩, fun h => absurd (hcl 11 ((putL_ne (i := 10) (by decide)).symm.trans h) 10 (by decide)) (by rw [hLi]; decide), fun h => absurd (hcl 12 ((putL_ne (i := 10) (by decide)).symm.trans h) 10 (by decide)) (by rw [hLi]; decide)⟩
            · have f0 := F0.out (hanc 0 (by decide))
              have f1 := F1.out (hanc 1 (by decide))
              have f2 := F2.out (hanc 2 (by decide))
              have f3 := F3.out (hanc 3 (by decide))
              have f4 := F4.out (hanc 4 (by decide))
              have f5 := F5.out (hanc 5 (by decide))
              have f6 := F6.out (hanc 6 (by decide))
              have f7 := F7.out (hanc 7 (by decide))
              have f9 := F9.out (hanc 9 (by decide))
              have f10 := F10.out (hanc 10 (by decide))
              refine YieldsIf.wpOp (S := fun _ => True) (v := t111) (by rfl) (.inl ⟨rfl, fun w _ => rfl⟩) trivial ?_
              simp only [Act.put, List.setIfInBounds_toArray, List.set_cons_zero, List.set_cons_succ]
              have hb : Below wx.heap.size wx wx := Below.refl _ _
              show I (putL L 11) _ _
              exact (HI.out (putL L 11) _ _).2 ⟨_, _, _, _, _, _, _, _, _, _, _, _, al9, cl9, nl9, vo9, q9, rfl, HS.out.later hb, E0.out.later hb, fun h h' => (E1.out ((putL_ne (i := 11) (by decide)).symm.trans h) ((putL_ne (i := 11) (by decide)).symm.trans h')).later hb, below_next E2.out hb, E3.out.later hb, fun h => (by first | exact F0.out ((putL_ne (i := 11) (by decide)).symm.trans h) | rfl), fun h => (by first | exact F1.out ((putL_ne (i := 11) (by decide)).symm.trans h) | rfl), fun h => (by first | exact F2.out ((putL_ne (i := 11) (by decide)).symm.trans h) | rfl), fun h => (fun q => q.imp fun _ k => ⟨k.1, k.2.later hb⟩) (F3.out ((putL_ne (i := 11) (by decide)).symm.trans h)), fun h => (fun q => ⟨q.1, q.2.1.later hb, q.2.2.later hb⟩) (F4.out ((putL_ne (i := 11) (by decide)).symm.trans h)), fun h => (by first | exact F5.out ((putL_ne (i := 11) (by decide)).symm.trans h) | rfl), fun h => (by first | exact F6.out ((putL_ne (i := 11) (by decide)).symm.trans h) | rfl), fun h => (by first | exact F7.out ((putL_ne (i := 11) (by decide)).symm.trans h) | rfl), fun h => (by first | exact F8.out ((putL_ne (i := 11) (by decide)).symm.trans h) | rfl), fun h => (by first | exact F9.out ((putL_ne (i := 11) (by decide)).symm.trans h) | rfl), fun h => (fun q => q.later hb) (F10.out ((putL_ne (i := 11) (by decide)).symm.trans h)), fun _ => f7, fun h => (by first | exact F12.out ((putL_ne (i := 11) (by decide)).symm.trans h) | rfl)⟩
            · have f0 := F0.out (hanc 0 (by decide))
              have f1 := F1.out (hanc 1 (by decide))
              have f2 := F2.out (hanc 2 (by decide))
              have f3 := F3.out (hanc 3 (by decide))
              have f4 := F4.out (hanc 4 (by decide))
              have f5 := F5.out (hanc 5 (by decide))
              have f6 := F6.out (hanc 6 (by decide))
              have f8 := F8.out (hanc 8 (by decide))
              have f9 := F9.out (hanc 9 (by decide))
              have f10 := F10.out (hanc 10 (by decide))
              refine YieldsIf.wpOp (S := fun _ => True) (v := t112) (by rfl) (.inl ⟨rfl, fun w _ => rfl⟩) trivial ?_
              simp only [Act.put, List.setIfInBounds_toArray, List.set_cons_zero, List.set_cons_succ]
              have hb : Below wx.heap.size wx wx := Below.refl _ _
              show I (putL L 12) _ _
              exact (HI.out (putL L 12) _ _).2 ⟨_, _, _, _, _, _, _, _, _, _, _, _, al9, cl9, nl9, vo9, q9, rfl, HS.out.later hb, E0.out.later hb, fun h h' => (E1.out ((putL_ne (i := 12) (by decide)).symm.trans h) ((putL_ne (i := 12) (by decide)).symm.trans h')).later hb, below_next E2.out hb, E3.out.later hb, fun h => (by first | exact F0.out ((putL_ne (i := 12) (by decide)).symm.trans h) | rfl), fun h => (by first | exact F1.out ((putL_ne (i := 12) (by decide)).symm.trans h) | rfl), fun h => (by first | exact F2.out ((putL_ne (i := 12) (by decide)).symm.trans h) | rfl), fun h => (fun q => q.imp fun _ k => ⟨k.1, k.2.later hb⟩) (F3.out ((putL_ne (i := 12) (by decide)).symm.trans h)), fun h => (fun q => ⟨q.1, q.2.1.later hb, q.2.2.later hb⟩) (F4.out ((putL_ne (i := 12) (by decide)).symm.trans h)), fun h => (by first | exact F5.out ((putL_ne (i := 12) (by decide)).symm.trans h) | rfl), fun h => (by first | exact F6.out ((putL_ne (i := 12) (by decide)).symm.trans h) | rfl), fun h => (by first | exact F7.out ((putL_ne (i := 12) (by decide)).symm.trans h) | rfl), fun h => (by first | exact F8.out ((putL_ne (i := 12) (by decide)).symm.trans h) | rfl), fun h => (by first | exact F9.out ((putL_ne (i := 12) (by decide)).symm.trans h) | rfl), fun h => (fun q => q.later hb) (F10.out ((putL_ne (i := 12) (by decide)).symm.trans h)), fun h => (by first | exact F11.out ((putL_ne (i := 12) (by decide)).symm.trans h) | rfl), fun _ => f8⟩
          · intro L act wx hall hIa
            obtain ⟨t105, t106, t107, t108, t109, t104, t110, t111, t112, t12, t13, t14, al9, cl9, nl9, vo9, q9, rfl, HS, E0, E1, E2, E3, F0, F1, F2, F3, F4, F5, F6, F7, F8, F9, F10, F11, F12⟩ := (HI.out _ _ _).1 hIa
            have f0 := F0.out (hall 0 (by decide))
            have f1 := F1.out (hall 1 (by decide))
            have f2 := F2.out (hall 2 (by decide))
            have f3 := F3.out (hall 3 (by decide))
            have f4 := F4.out (hall 4 (by decide))
            have f5 := F5.out (hall 5 (by decide))
            have f6 := F6.out (hall 6 (by decide))
            have f7 := F7.out (hall 7 (by decide))
            have f8 := F8.out (hall 8 (by decide))
            have f9 := F9.out (hall 9 (by decide))
            have f10 := F10.out (hall 10 (by decide))
            have f11 := F11.out (hall 11 (by decide))
            have f12 := F12.out (hall 12 (by decide))
            clear hIa HI F0 F1 F2 F3 F4 F5 F6 F7 F8 F9 F10 F11 F12
            show K9 _ _
            obtain ⟨ga, gb, gc⟩ := f9
            subst ga
            have gd := f12
            subst gd
            exact HTl22.out wx q9 al9 cl9 nl9 f10 E2.out gc _ _ _ _ _ _ _ _ _ _ _ _ _ _ _ _ _ _ _ _ _ _ _ _ _ _ _ _ _ _ _ _ _ _ _ _ _ _ _ _ _ _ _ _ _ _ _ _ _ _ _ _ _ _ _ _ _ _ _ _ _ _ _ _ _ _ _ _ _ _ _ _ _ _ _ _ _ _ _ _ _ _ _ _ _ _ _ _ _ _ _ _ _ _ _ _ _ _ _ _ _ _ _ _ _ _ _ _ _ _ _ _ _ _ _ _ _ _ _ _ _ _ _ _ _ _ _ _ _ _ _ _ _ _ _ _ _ _ _ _ _ _ _ _ _ _ _ _ _ _ _ _ _ _
end Go.Proofs.YtgiefgmhjcjabaaDoor
