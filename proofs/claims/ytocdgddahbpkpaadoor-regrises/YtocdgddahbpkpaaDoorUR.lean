/- The walk of RegRises. Conditions: the table of signs lies in memory. -/
import Derived.Test.YtocdgddahbpkpaaDoorUK
namespace Go.Proofs.YtocdgddahbpkpaaDoor
open Go.RowKit Go.PlainAid Ln Go.Sort
set_option linter.unusedVariables false
set_option linter.unusedSimpArgs false

theorem encV_one (x : Val) : ∀ v ∈ encV x, v.oneCell' = true := vls_one x.1 x.2.1 x.2.2
theorem sliced0R (a : Option Addr) (m c : Nat) : sliced a 0 m c 3 = .slice a m c := by
  unfold sliced
  by_cases hc : c = 0
  · rw [if_pos hc]; subst hc; simp
  · rw [if_neg hc]
    cases a with
    | none => rfl
    | some ad => obtain ⟨b, o, s⟩ := ad; simp [Addr.add]
/-- how the walk stands: who, the state, what was told last -/
structure Rz (w wr : World) (p s l : Nat) (x : Val) : Prop where
  who : Blk wr p (encV (vN 1)) 25
  st : Blk wr s (stC 9 x nilS) 28
  la : Blk wr l (encV x) 25
  b : Below w.heap.size w wr
theorem Rz.later {w wr wn : World} {p s l : Nat} {x : Val} (h : Rz w wr p s l x) (hb : Below wr.heap.size wr wn) : Rz w wn p s l x := ⟨h.who.later hb, h.st.later hb, h.la.later hb, below_next h.b hb⟩
/-- the greatest of the first k -/
def mxK (xs : List Val) (k : Nat) : Val := mxL (xs.take k)
theorem take_nv (xs : List Val) (k : Nat) (h : k < xs.length) : xs.take (k + 1) = xs.take k ++ [nv xs k] := by
  rw [List.take_add_one, List.getElem?_eq_getElem h, nv_eq xs k h]; rfl
theorem mxK_next {xs : List Val} {k : Nat} (h : k < xs.length) : mxK xs (k + 1) = mxV (mxK xs k) (nv xs k) := by unfold mxK; rw [take_nv xs k h, mxL_snoc]
theorem mxK_up {xs : List Val} {k : Nat} (h : k < xs.length) (hn : nV (nv xs k) = true) : ltV (mxK xs (k + 1)) (mxK xs k) = false := by unfold mxK; rw [take_nv xs k h]; exact mxL_up _ hn
theorem mxK_ge {xs : List Val} {k : Nat} (h : k < xs.length) : ltV (mxK xs (k + 1)) (nv xs k) = false := by unfold mxK; rw [take_nv xs k h]; exact mxL_ge _ _
theorem mxK_in {xs : List Val} {k : Nat} (h : k < xs.length) : ∃ i, i < k + 1 ∧ nv xs i = mxK xs (k + 1) := by
  unfold mxK
  have := mxL_in (xs.take k) (nv xs k)
  rw [← take_nv xs k h] at this
  obtain ⟨i, hi, e⟩ := List.getElem_of_mem this
  rw [List.length_take] at hi
  refine ⟨i, by omega, ?_⟩
  rw [nv_eq xs i (by omega), ← e, List.getElem_take]
/-- is it among the first r? -/
def amB (xs : List Val) (x : Val) (r : Nat) : Bool := decide (∃ i, i < r ∧ nv xs i = x)
theorem amB_zero (xs : List Val) (x : Val) : amB xs x 0 = false := decide_eq_false (fun ⟨i, h, _⟩ => absurd h (Nat.not_lt_zero i))
theorem amB_next (xs : List Val) (x : Val) (r : Nat) : amB xs x (r + 1) = (amB xs x r || decide (nv xs r = x)) := by
  unfold amB
  rw [Bool.eq_iff_iff, Bool.or_eq_true, decide_eq_true_iff, decide_eq_true_iff, decide_eq_true_iff]
  constructor
  · rintro ⟨i, hi, e⟩
    by_cases h : i = r
    · subst h; exact .inr e
    · exact .inl ⟨i, by omega, e⟩
  · rintro (⟨i, hi, e⟩ | e)
    · exact ⟨i, by omega, e⟩
    · exact ⟨r, by omega, e⟩
theorem may_write {y : Val} (h : nV y = true) : mayD 9 ⟨vN 1, 1, [y]⟩ = true := by
  unfold mayD
  have e1 : nV (vN 1) = true := by kernel_rfl
  have e2 : fi 9 1 = true := by kernel_rfl
  have e3 : (fr 9 1).inn = [4] := by kernel_rfl
  show (nV (vN 1) && (fi 9 1 && fitsL (fr 9 1).inn [y])) = true
  rw [e1, e2, e3, Bool.true_and, Bool.true_and]
  refine fitsL_all rfl fun i hi => ?_
  have e : i = 0 := by simpa using hi
  subst e
  rw [show nth [4] 0 = 4 from rfl, takesB_n (by decide)]
  exact h
theorem nx_write (x y : Val) : nxV 9 x ⟨vN 1, 1, [y]⟩ = mxV x y := nxV_max x (vN 1) y
theorem nx_read (x : Val) : nxV 9 x ⟨vN 1, 2, []⟩ = x := nxV_read 9 x (vN 1) []
theorem out_read (x : Val) : outD x ⟨vN 1, 2, []⟩ = [x] := outD_2 rfl
set_option maxRecDepth 100000 in
set_option maxHeartbeats 16000000 in
theorem law_rises (v : Value) (xs : List Val) (w : World) (ht : Tb w) (hv : VSl w v xs) : Calls Tryd.prog 5 #[v] w fun e w' => e = .returned (.bool true) ∧ Below w.heap.size w w' := by
  have mixed : Tryd.prog.follows .mixedOrders = true := by kernel_rfl
  have HT : Hid (Tb w) := ht
  have HV : Hid (VSl w v xs) := hv
  have HW : Hid (∀ w', Below w.heap.size w w' → Calls Tryd.prog 6 #[] w' fun e w'' => e = .returned (.bool true) ∧ Below w'.heap.size w' w'') := fun w' hb => wakes_any w' (ht.later hb)
  clear ht hv
  have h1 := fun w => num_any 1 w
  have h9 := fun w => new_is 9 (.inr (.inr rfl)) w
  simp only [stC, noV] at h9
  obtain ⟨a, c, rfl, hc1, hc2, _⟩ := HV.out.form
  obtain ⟨n, hn⟩ : ∃ n, xs.length = n := ⟨_, rfl⟩
  have HN : Hid (xs.length = n) := hn
  rw [hn] at hc1 HV ⊢
  clear hn
  by_cases h40 : 40 < n
  · have h40' : (40 : Int) < (n : Int) := by omega
    go_enter Tryd.func5, Tryd.ntmps5
    go_wp2_with (first
      | (go_at_call 6; refine (HW.out _ (Below.refl _ _)).mono ?_; rintro e w1 ⟨rfl, hb1⟩))
    go_ret
    exact ⟨rfl, hb1⟩
  have h40' : ¬ (40 : Int) < (n : Int) := by omega
  go_enter Tryd.func5, Tryd.ntmps5
  go_wp2_with (first
    | (go_at_call 6; refine (HW.out _ (Below.refl _ _)).mono ?_; rintro e w1 ⟨rfl, hb1⟩)
    | (go_at_call 18; refine (h1 _).mono ?_; rintro e w2 ⟨rfl, hb2⟩)
    | (go_at_call 7; refine (h9 _).mono ?_; rintro e w3 ⟨rfl, hb3⟩))
  have hbp := below_box w2 (.cells (encV (vN 1)).toArray 25)
  have HP1 : Blk (w2.alloc (.cells (encV (vN 1)).toArray 25)) w2.heap.size (encV (vN 1)) 25 := Blk.new w2 _ _
  change Below (w2.alloc (.cells (encV (vN 1)).toArray 25)).heap.size (w2.alloc (.cells (encV (vN 1)).toArray 25)) w3 at hb3
  have HP3 := HP1.later hb3
  have HB3 : Below w.heap.size w w3 := below_next (below_next (below_next hb1 hb2) hbp) hb3
  have T := two_laid w3 (stC 9 noV nilS) (encV noV) 28 25
  have hps : w2.heap.size ≠ w3.heap.size := by have := HP3.lt; omega
  have hps1 : w2.heap.size ≠ w3.heap.size + 1 := by have := HP3.lt; omega
  have hwp : w.heap.size ≤ w2.heap.size := (below_next hb1 hb2).size
  have hws : w.heap.size ≤ w3.heap.size := HB3.size
  have HR0 : Rz w ((w3.alloc (.cells (stC 9 noV nilS).toArray 28)).alloc (.cells (encV noV).toArray 25)) w2.heap.size w3.heap.size (w3.heap.size + 1) noV := ⟨HP3.later T.2.2, T.1, T.2.1, below_next HB3 T.2.2⟩
  change Rz w ((w3.alloc (.cells #[.int .i64 9, .int .i64 0, .int .i64 0, .string noB, .int .i64 0, .slice none 0 0] 28)).alloc (.cells #[.int .i64 0, .int .i64 0, .string noB] 25)) _ _ _ _ at HR0
  have HR : Hid _ := HR0
  have ew : (w3.alloc (.cells #[.int .i64 9, .int .i64 0, .int .i64 0, .string noB, .int .i64 0, .slice none 0 0] 28)).alloc (.cells #[.int .i64 0, .int .i64 0, .string noB] 25) = (w3.alloc (.cells #[.int .i64 9, .int .i64 0, .int .i64 0, .string noB, .int .i64 0, .slice none 0 0] 28)).alloc (.cells #[.int .i64 0, .int .i64 0, .string ⟨#[]⟩] 25) := rfl
  clear ew
  clear HR0 T HP3 HP1 hbp hb1 hb2 hb3 HB3 HW h1 h9
  have HPS : Hid (w2.heap.size ≠ w3.heap.size) := hps
  have HPS1 : Hid (w2.heap.size ≠ w3.heap.size + 1) := hps1
  have HWP : Hid (w.heap.size ≤ w2.heap.size) := hwp
  have HWS : Hid (w.heap.size ≤ w3.heap.size) := hws
  clear hps hps1 hwp hws
  go_loopw [31] (fun i wr => ∃ k : Nat, k ≤ n ∧ i = .int .i64 (k : Int) ∧ Rz w wr w2.heap.size w3.heap.size (w3.heap.size + 1) (mxK xs k)) (fun i w' => n - (intOf i).toNat)
  case atStart => exact ⟨0, by omega, rfl, HR.out⟩
  case round =>
    obtain ⟨k, hk, rfl, hrz⟩ := hrel
    have HZ : Hid (Rz w wr w2.heap.size w3.heap.size (w3.heap.size + 1) (mxK xs k)) := hrz
    clear hrz HR
    obtain ⟨p, hp⟩ : ∃ p, w2.heap.size = p := ⟨_, rfl⟩
    obtain ⟨s, hs⟩ : ∃ s, w3.heap.size = s := ⟨_, rfl⟩
    by_cases hlt : k < n
    · have hlt' : (k : Int) < (n : Int) := by omega
      have hkm : (k : Int) + 1 ≤ 9223372036854775807 := by omega
      obtain ⟨b, o, c', hv1, hbl, _, hat⟩ := vsl_first HV.out (by rw [HN.out]; omega)
      injection hv1 with hv1 hv2 hv3
      subst hv1 hv3
      clear hv2
      have HAt : Hid (∀ wx, Below w.heap.size w wx → ∀ i, i < n → At wx b (o + i * 3) (nv xs i)) := fun wx hb i hi => (hat i (by rw [HN.out]; exact hi)).later hbl hb
      obtain ⟨c0, c1, c2⟩ := HAt.out wr HZ.out.b k hlt
      have HKx : Hid (k < xs.length) := by show _ < _; rw [HN.out]; exact hlt
      obtain ⟨y, hy⟩ : ∃ y, nv xs k = y := ⟨_, rfl⟩
      have HY : Hid (nv xs k = y) := hy
      rw [hy] at c0 c1 c2
      clear hy hat hbl
      have HQ : Hid (Blk (wr.alloc (.cells (encV y).toArray 25)) wr.heap.size (encV y) 25) := Blk.new wr _ _
      have HZ2 : Hid (Rz w (wr.alloc (.cells (encV y).toArray 25)) w2.heap.size w3.heap.size (w3.heap.size + 1) (mxK xs k)) := HZ.out.later (below_box _ _)
      change Hid (Blk (wr.alloc (.cells #[.int .i64 y.1, .int .i64 y.2.1, .string y.2.2] 25)) _ _ _) at HQ
      change Hid (Rz w (wr.alloc (.cells #[.int .i64 y.1, .int .i64 y.2.1, .string y.2.2] 25)) _ _ _ _) at HZ2
      clear HZ
      rw [hp, hs] at HZ2 HPS HPS1
      rw [hp] at HWP
      rw [hs] at HWS
      simp only [hp, hs]
      have HPp : Hid (w2.heap.size = p) := hp
      have HSs : Hid (w3.heap.size = s) := hs
      clear hp hs
      by_cases hsz : 100 < y.2.2.size
      · have hsz' : (100 : Int) < (y.2.2.size : Int) := by omega
        go_wp2
        go_ret
        exact ⟨rfl, HZ2.out.b⟩
      have hsz' : ¬ (100 : Int) < (y.2.2.size : Int) := by omega
      have hNm := fun w => name_any y.1 y.2.1 y.2.2 w (by omega)
      cases hny : nameB y.1 y.2.1 y.2.2
      · rw [hny] at hNm
        go_wp2_with (go_at_call 19; refine (hNm _).mono ?_; rintro e w7 ⟨rfl, hb7⟩)
        go_ret
        exact ⟨rfl, below_next HZ2.out.b hb7⟩
      rw [hny] at hNm
      go_wp2_with fail
      obtain ⟨q, hq⟩ : ∃ q, wr.heap.size = q := ⟨_, rfl⟩
      generalize wr.alloc (.cells #[.int .i64 y.1, .int .i64 y.2.1, .string y.2.2] 25) = w6 at HQ HZ2 ⊢
      rw [hq] at HQ
      simp only [hq]
      clear hq c0 c1 c2
      refine (hNm w6).mono ?_
      rintro e w7 ⟨rfl, hb7⟩
      have HNy : Hid (nV y = true) := hny
      have HSy : Hid (SzV [y]) := sz1 y (by omega)
      have HQ7 : Hid (Blk w7 q (encV y) 25) := HQ.out.later hb7
      have HZ7 : Hid (Rz w w7 p s (s + 1) (mxK xs k)) := HZ2.out.later hb7
      have hsl : s < w7.heap.size := HZ7.out.st.lt
      have hpl : p < w7.heap.size := HZ7.out.who.lt
      have hql : q < w7.heap.size := HQ7.out.lt
      have hll : s + 1 < w7.heap.size := HZ7.out.la.lt
      clear HQ HZ2 hb7 hny hNm hsz hsz'
      obtain ⟨x, hx⟩ : ∃ x, mxK xs k = x := ⟨_, rfl⟩
      obtain ⟨x', hx'⟩ : ∃ x', mxK xs (k + 1) = x' := ⟨_, rfl⟩
      have HX : Hid (mxK xs k = x) := hx
      have HX' : Hid (mxK xs (k + 1) = x') := hx'
      have HMx : Hid (mxV x y = x') := by show _ = _; rw [← hx', mxK_next HKx.out, hx, HY.out]
      have HUp : Hid (ltV x' x = false) := by show _ = _; rw [← hx', ← hx]; exact mxK_up HKx.out (by rw [HY.out]; exact HNy.out)
      have HGe : Hid (ltV x' y = false) := by show _ = _; rw [← hx', ← HY.out]; exact mxK_ge HKx.out
      have HAm : Hid (amB xs x' (k + 1) = true) := by show _ = _; rw [← hx']; exact decide_eq_true (mxK_in HKx.out)
      rw [hx] at HZ7
      clear hx hx'
      obtain ⟨s0, s1, s2, s3, s4, s5⟩ := st_cells HZ7.out.st
      obtain ⟨a0, a1, a2⟩ := v_cells HZ7.out.who
      obtain ⟨q0, q1, q2⟩ := v_cells HQ7.out
      -- the write
      have HV8 : Hid (VSl (w7.alloc (.cells (encV y).toArray 25)) (.slice (some ⟨w7.heap.size, 0, none⟩) 1 1) [y]) := (own_one w7 w7.heap.size (Nat.le_refl _) y).vsl
      have HQ8 : Hid (Blk (w7.alloc (.cells (encV y).toArray 25)) q (encV y) 25) := HQ7.out.later (below_box _ _)
      have HZ8 : Hid (Rz w (w7.alloc (.cells (encV y).toArray 25)) p s (s + 1) x) := HZ7.out.later (below_box _ _)
      clear HQ7 HZ7
      go_wp2_with fail
      change Calls _ _ _ (w7.alloc (.cells (encV y).toArray 25)) _
      obtain ⟨q8, hq8⟩ : ∃ q8, w7.heap.size = q8 := ⟨_, rfl⟩
      generalize w7.alloc (.cells (encV y).toArray 25) = w8 at HV8 HQ8 HZ8 ⊢
      rw [hq8] at HV8 hsl hpl hql hll
      simp only [hq8]
      clear hq8 s0 s1 s2 s3 s4 s5 a0 a1 a2 q0 q1 q2 hsl hpl hql hll
      refine (step_yes 9 x (vN 1) nilS 1 (.slice (some ⟨q8, 0, none⟩) 1 1) [y] w8 (HT.out.later HZ8.out.b) HV8.out HSy.out (Nat.zero_le _) k5o (may_write HNy.out)).mono ?_
      rintro e w9 ⟨vw, rfl, -, hb9⟩
      rw [nx_write, HMx.out]
      have HZ9 : Hid (Rz w w9 p s (s + 1) x) := HZ8.out.later hb9
      have HQ9 : Hid (Blk w9 q (encV y) 25) := HQ8.out.later hb9
      have hsl : s < w9.heap.size := HZ9.out.st.lt
      have hpl : p < w9.heap.size := HZ9.out.who.lt
      have hql : q < w9.heap.size := HQ9.out.lt
      have hll : s + 1 < w9.heap.size := HZ9.out.la.lt
      have HT10 : Hid (Blk (w9.alloc (.cells (stC 9 x' nilS).toArray 28)) w9.heap.size (stC 9 x' nilS) 28) := Blk.new w9 _ _
      have HZ10 : Hid (Rz w (w9.alloc (.cells (stC 9 x' nilS).toArray 28)) p s (s + 1) x) := HZ9.out.later (below_box _ _)
      have HQ10 : Hid (Blk (w9.alloc (.cells (stC 9 x' nilS).toArray 28)) q (encV y) 25) := HQ9.out.later (below_box _ _)
      obtain ⟨a0, a1, a2⟩ := v_cells HZ9.out.who
      clear HV8 HQ8 HZ8 hb9 HZ9 HQ9 HSy
      simp only [stC]
      go_wp2_with fail
      change Calls _ _ _ (w9.alloc (.cells (stC 9 x' nilS).toArray 28)) _
      obtain ⟨zt, hzt⟩ : ∃ zt, w9.heap.size = zt := ⟨_, rfl⟩
      generalize w9.alloc (.cells (stC 9 x' nilS).toArray 28) = w10 at HT10 HZ10 HQ10 ⊢
      rw [hzt] at HT10 hsl hpl hql hll
      have HZt : Hid (s + 1 < zt) := hll
      simp only [hzt]
      clear hzt a0 a1 a2
      -- the read
      refine (step_yes 9 x' (vN 1) nilS 2 nilS [] w10 (HT.out.later HZ10.out.b) (vsl_nil0 _) sz0 (Nat.zero_le _) k5o krm).mono ?_
      rintro e w11 ⟨vo, rfl, ho11, hb11⟩
      rw [out_read] at ho11
      rw [nx_read]
      have HZ11 : Hid (Rz w w11 p s (s + 1) x) := HZ10.out.later hb11
      have HQ11 : Hid (Blk w11 q (encV y) 25) := HQ10.out.later hb11
      have HT11 : Hid (Blk w11 zt (stC 9 x' nilS) 28) := HT10.out.later hb11
      obtain ⟨g, og, cg, rfl, hgl, hcg, hgat⟩ := vsl_first ho11.vsl (by simp)
      have HG11 : Hid (At w11 g og x') := by have := hgat 0 (by simp); rw [Nat.zero_mul, Nat.add_zero] at this; exact this
      have HGl : Hid (g < w11.heap.size) := hgl
      have HGn : Hid (s ≠ g ∧ s + 1 ≠ g ∧ zt ≠ g) := by
        have h := (ho11.lt g rfl).1
        have h1 := HZ10.out.st.lt
        have h2 := HZ10.out.la.lt
        have h3 := HT10.out.lt
        exact ⟨by omega, by omega, by omega⟩
      rw [show ([x'] : List Val).length = 1 from rfl] at hcg ⊢
      clear hgat ho11 HZ10 HQ10 HT10 hgl hsl hpl hql hll
      have bx := below_box w11 (.cells (stC 9 x' nilS).toArray 28)
      have hb11' := hb11
      clear hb11 hb11'
      have HZ12 : Hid (Rz w (w11.alloc (.cells (stC 9 x' nilS).toArray 28)) p s (s + 1) x) := HZ11.out.later bx
      have HQ12 : Hid (Blk (w11.alloc (.cells (stC 9 x' nilS).toArray 28)) q (encV y) 25) := HQ11.out.later bx
      have HT12 : Hid (Blk (w11.alloc (.cells (stC 9 x' nilS).toArray 28)) zt (stC 9 x' nilS) 28) := HT11.out.later bx
      have HG12 : Hid (At (w11.alloc (.cells (stC 9 x' nilS).toArray 28)) g og x') := HG11.out.later HGl.out bx
      have HGl12 : Hid (g < (w11.alloc (.cells (stC 9 x' nilS).toArray 28)).heap.size) := Nat.lt_of_lt_of_le HGl.out bx.size
      clear HZ11 HQ11 HT11 HG11 HGl bx
      simp only [stC]
      go_wp2_with fail
      change Code.wp _ _ _ _ (w11.alloc (.cells (stC 9 x' nilS).toArray 28))
      generalize w11.alloc (.cells (stC 9 x' nilS).toArray 28) = w12 at HZ12 HQ12 HT12 HG12 HGl12 ⊢
      -- it never falls, and is no less than what was written
      have hL1 := less_bl x' x
      have hL2 := less_bl x' y
      rw [HUp.out] at hL1
      rw [HGe.out] at hL2
      have g0' := fun d os => cell_regrown HG12.out.1 d os
      have g1' := fun d os => cell_regrown HG12.out.2.1 d os
      have g2' := fun d os => cell_regrown HG12.out.2.2 d os
      have l0' := fun d os => cell_regrown (v_cells HZ12.out.la).1 d os
      have l1' := fun d os => cell_regrown (v_cells HZ12.out.la).2.1 d os
      have l2' := fun d os => cell_regrown (v_cells HZ12.out.la).2.2 d os
      have q0' := fun d os => cell_regrown (v_cells HQ12.out).1 d os
      have q1' := fun d os => cell_regrown (v_cells HQ12.out).2.1 d os
      have q2' := fun d os => cell_regrown (v_cells HQ12.out).2.2 d os
      refine wp_region_quiet_below (by assumption) (by kernel_rfl) ?_
      repeat (go_big_quiet_step (first | (go_at_call 20; with_reducible exact Calls.regrown_of (hL1 _)) | (go_at_call 20; with_reducible exact Calls.regrown_of (hL2 _))))
      refine wpQuiet_nil ?_
      intro _ hw'
      obtain ⟨⟨dq, osq⟩, hw''⟩ := hw'
      subst hw''
      have hbq := below_regrown w12 dq osq
      have HZ13 : Hid (Rz w (grow (redrawn w12 dq) osq) p s (s + 1) x) := HZ12.out.later hbq
      have HT13 : Hid (Blk (grow (redrawn w12 dq) osq) zt (stC 9 x' nilS) 28) := HT12.out.later hbq
      have HG13 : Hid (At (grow (redrawn w12 dq) osq) g og x') := HG12.out.later HGl12.out hbq
      have HGl13 : Hid (g < (grow (redrawn w12 dq) osq).heap.size) := Nat.lt_of_lt_of_le HGl12.out hbq.size
      clear g0' g1' g2' l0' l1' l2' q0' q1' q2' hL1 hL2 hbq HZ12 HQ12 HT12 HG12 HGl12 HMx HUp HGe
      generalize grow (redrawn w12 dq) osq = w13 at *
      -- it is among what was written
      obtain ⟨n4, hn4⟩ : ∃ n4 : Nat, n4 = k + 1 := ⟨_, rfl⟩
      have HN4 : Hid (n4 = k + 1) := hn4
      have hcut : ∀ w, (Instr.sliceAt 26 (.slice (some ⟨b, o, none⟩) n c) none (some (.int .i64 ((k : Int) + 1))) none).run Tryd.prog w = .ok (.slice (some ⟨b, o, none⟩) n4 c) w := fun w => by
        rw [show (k : Int) + 1 = ((k + 1 : Nat) : Int) by omega, run_cut_h .i64 _ n c (k + 1) (by omega) w, sliced0R, hn4]
      have hn4b : (n4 : Int) ≤ 9223372036854775807 := by omega
      clear hn4
      go_wp2_with fail
      clear hcut
      go_loopw [91, 15] (fun j am wj => ∃ r : Nat, r ≤ n4 ∧ j = .int .i64 (r : Int) ∧ am = .bool (amB xs x' r) ∧ Below w13.heap.size w13 wj) (fun j am wj => n4 - (intOf j).toNat)
      case atStart => exact ⟨0, by omega, rfl, by rw [amB_zero], Below.refl _ _⟩
      case round =>
        obtain ⟨r, hr, rfl, rfl, hbj⟩ := hrel
        have HBj : Hid (Below w13.heap.size w13 wr) := hbj
        clear hbj
        by_cases hrn : r < n4
        · have hrn' : (r : Int) < (n4 : Int) := by omega
          obtain ⟨c0, c1, c2⟩ := HAt.out wr (below_next HZ13.out.b HBj.out) r (by have := HN4.out; omega)
          have HAx := amB_next xs x' r
          obtain ⟨am, ham⟩ : ∃ am, amB xs x' r = am := ⟨_, rfl⟩
          obtain ⟨am', ham'⟩ : ∃ am', amB xs x' (r + 1) = am' := ⟨_, rfl⟩
          have HAr : Hid (amB xs x' (r + 1) = am') := ham'
          rw [ham, ham'] at HAx
          rw [ham]
          clear ham ham'
          generalize nv xs r = e at *
          have HE : Hid (Blk (wr.alloc (.cells (encV e).toArray 25)) wr.heap.size (encV e) 25) := Blk.new wr _ _
          have hbb := below_box wr (.cells (encV e).toArray 25)
          have HBn : Hid (Below w13.heap.size w13 (wr.alloc (.cells (encV e).toArray 25))) := below_next HBj.out hbb
          have HGn' : Hid (At (wr.alloc (.cells (encV e).toArray 25)) g og x') := (HG13.out.later HGl13.out HBj.out).later (Nat.lt_of_lt_of_le HGl13.out HBj.out.size) hbb
          change Hid (Blk (wr.alloc (.cells #[.int .i64 e.1, .int .i64 e.2.1, .string e.2.2] 25)) _ _ _) at HE
          change Hid (Below _ w13 (wr.alloc (.cells #[.int .i64 e.1, .int .i64 e.2.1, .string e.2.2] 25))) at HBn
          change Hid (At (wr.alloc (.cells #[.int .i64 e.1, .int .i64 e.2.1, .string e.2.2] 25)) _ _ _) at HGn'
          have HAx' : Hid (am' = (am || decide (e = x'))) := HAx
          clear hbb HAx
          have hq := fun w => eqV e.1 e.2.1 x'.1 x'.2.1 e.2.2 x'.2.2 w
          have hg := eqgV
          have HEq : Hid (decide (e = x') = eqvB e.1 e.2.1 e.2.2 x'.1 x'.2.1 x'.2.2) := by
            show _ = _
            by_cases h : e = x'
            · rw [decide_eq_true h]; exact ((eqvB_iff _ _ _ _ _ _).2 h).symm
            · rw [decide_eq_false h]; exact (Bool.eq_false_iff.2 fun k => h ((eqvB_iff _ _ _ _ _ _).1 k)).symm
          generalize eqvB e.1 e.2.1 e.2.2 x'.1 x'.2.1 x'.2.2 = be at hq HEq
          cases am
          · go_wp2_with fail
            generalize wr.alloc (.cells #[.int .i64 e.1, .int .i64 e.2.1, .string e.2.2] 25) = w15 at HE HBn HGn' ⊢
            have e0' := fun d os => cell_regrown (v_cells HE.out).1 d os
            have e1' := fun d os => cell_regrown (v_cells HE.out).2.1 d os
            have e2' := fun d os => cell_regrown (v_cells HE.out).2.2 d os
            have g0' := fun d os => cell_regrown HGn'.out.1 d os
            have g1' := fun d os => cell_regrown HGn'.out.2.1 d os
            have g2' := fun d os => cell_regrown HGn'.out.2.2 d os
            clear c0 c1 c2
            refine wp_region_quiet_below (by assumption) (by kernel_rfl) ?_
            repeat (go_big_quiet_step (fail))
            refine wpQuiet_nil ?_
            intro _ hw'
            obtain ⟨⟨dq, osq⟩, hw''⟩ := hw'
            subst hw''
            have HBq : Hid (Below w13.heap.size w13 (grow (redrawn w15 dq) osq)) := below_next HBn.out (below_regrown w15 dq osq)
            clear e0' e1' e2' g0' g1' g2' HE HBn HGn' hq hg
            generalize grow (redrawn w15 dq) osq = w16 at *
            go_wp2
            go_roundw
            case rel => exact ⟨r + 1, by omega, by go_num, by rw [HAr.out, HAx'.out, HEq.out, Bool.false_or], HBq.out⟩
            case measure => simp [intOf]; omega
          · clear hq hg
            go_wp2_with fail
            generalize wr.alloc (.cells #[.int .i64 e.1, .int .i64 e.2.1, .string e.2.2] 25) = w15 at HE HBn HGn' ⊢
            clear c0 c1 c2
            refine wp_region_quiet_below (by assumption) (by kernel_rfl) ?_
            repeat (go_big_quiet_step (fail))
            refine wpQuiet_nil ?_
            intro _ hw'
            obtain ⟨⟨dq, osq⟩, hw''⟩ := hw'
            subst hw''
            have HBq : Hid (Below w13.heap.size w13 (grow (redrawn w15 dq) osq)) := below_next HBn.out (below_regrown w15 dq osq)
            clear HE HBn HGn'
            generalize grow (redrawn w15 dq) osq = w16 at *
            go_wp2
            go_roundw
            case rel => exact ⟨r + 1, by omega, by go_num, by rw [HAr.out, HAx'.out, Bool.true_or], HBq.out⟩
            case measure => simp [intOf]; omega
        · have er : r = n4 := by omega
          subst er
          have ham : amB xs x' r = true := by rw [HN4.out]; exact HAm.out
          rw [ham]
          have HZj : Hid (Rz w wr p s (s + 1) x) := HZ13.out.later HBj.out
          have HTj : Hid (Blk wr zt (stC 9 x' nilS) 28) := HT13.out.later HBj.out
          obtain ⟨g0, g1, g2⟩ := HG13.out.later HGl13.out HBj.out
          clear ham HZ13 HT13 HG13 HGl13 HBj
          go_wp2_with (first
            | ((with_reducible refine wp_storeB 25 (.tmp 6) (.tmp 108) (s + 1) 0 (encV x') (encV x) 25 ?_ ?_ (encV_one _) ?_ ?_ ?_ HZj.out.la ?_); (exact infoVv); (exact (show 0 + 3 ≤ 3 by decide)); (exact ⟨rfl, rfl⟩); (exact rfl); (exact rfl); (intro w20 D1 o20); (replace D1 : Blk w20 (s + 1) (encV x') 25 := D1); (have HL20 : Hid (Blk w20 (s + 1) (encV x') 25) := D1); (have HT20 : Hid (Blk w20 zt (stC 9 x' nilS) 28) := HTj.out.oth o20 (by have := HZt.out; omega) (by have := HZt.out; omega)); (have HS20 : Hid (Blk w20 s (stC 9 x nilS) 28) := HZj.out.st.oth o20 (by omega) (by omega)); (have HP20 : Hid (Blk w20 p (encV (vN 1)) 25) := HZj.out.who.oth o20 HPS1.out HPS1.out); (have HB20 : Hid (Below w.heap.size w w20) := below_oth HZj.out.b o20 (by have := HWS.out; omega) (by have := HWS.out; omega) HZj.out.b.size); (obtain ⟨t0, t1, t2, t3, t4, t5⟩ := st_cells HT20.out); (clear D1 o20))
            | ((with_reducible refine wp_storeB 28 (.tmp 4) (.tmp 109) s 0 (stC 9 x' nilS) (stC 9 x nilS) 28 ?_ ?_ (stC_one _ _ rfl) ?_ ?_ ?_ HS20.out ?_); (exact infoSt); (exact (show 0 + 6 ≤ 6 by decide)); (exact ⟨rfl, rfl⟩); (exact rfl); (exact rfl); (intro w21 D1 o21); (replace D1 : Blk w21 s (stC 9 x' nilS) 28 := D1); (have HZ21 : Hid (Rz w w21 p s (s + 1) x') := ⟨HP20.out.oth o21 HPS.out HPS.out, D1, HL20.out.oth o21 (by omega) (by omega), below_oth HB20.out o21 HWS.out HWS.out HB20.out.size⟩); (clear D1 o21)))
          go_roundw
          case rel => exact ⟨k + 1, by omega, by go_num, by rw [HX'.out]; exact HZ21.out⟩
          case measure => simp [intOf]; omega
    · have e : k = n := by omega
      subst e
      go_wp2
      go_ret
      exact ⟨rfl, HZ.out.b⟩
end Go.Proofs.YtocdgddahbpkpaaDoor
