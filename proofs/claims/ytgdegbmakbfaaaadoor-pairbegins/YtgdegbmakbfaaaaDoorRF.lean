/- The contract of the document's Right. Conditions: the event's lists lie in memory; the texts are at most 2^62 bytes, the values at most a million. -/
import Derived.Test.YtgdegbmakbfaaaaDoorBR
import Derived.Test.YtgdegbmakbfaaaaDoorSK
namespace Go.Proofs.YtgdegbmakbfaaaaDoor
open Go.RowKit Go.PlainAid Ln
set_option linter.unusedVariables false
set_option linter.unusedSimpArgs false

theorem noteB_10 {nd : Bool} {n : ByteArray} (h : (10 : UInt8) ∈ tx n) : noteB nd n = false := by
  cases nd
  · rw [noteB_f rfl]
    exact decide_eq_false (fun e => by have : (tx n).length = 0 := by rw [tx_len]; exact e
                                       rw [List.eq_nil_of_length_eq_zero this] at h; cases h)
  · rw [noteB_t rfl]; exact decide_eq_false (fun e => e.2 h)
theorem noteB_big {nd : Bool} {n : ByteArray} (h : 100 < n.size) : noteB nd n = false := by
  cases nd
  · rw [noteB_f rfl]; exact decide_eq_false (by omega)
  · rw [noteB_t rfl]; exact decide_eq_false (fun e => by omega)
theorem noteB_un {n : ByteArray} (h : ¬ n.size = 0) : noteB false n = false := by rw [noteB_f rfl]; exact decide_eq_false h
theorem noteB_ok {nd : Bool} {n : ByteArray} (h1 : ¬ 100 < n.size) (h2 : nd = true ∨ n.size = 0) (h3 : (10 : UInt8) ∉ tx n) : noteB nd n = true := by
  cases nd
  · rw [noteB_f rfl]; exact decide_eq_true (h2.resolve_left (by decide))
  · rw [noteB_t rfl]; exact decide_eq_true ⟨by omega, h3⟩
theorem right_1 {x : Ev} (h : x.t < 0) : rightE x = false := by unfold rightE; rw [decide_eq_false (by omega)]; rfl
theorem right_2 {x : Ev} (h : nV x.c = false) : rightE x = false := by unfold rightE; rw [h]; simp
theorem right_3 {x : Ev} (h : noteB x.nd x.n = false) : rightE x = false := by unfold rightE; rw [h]; simp
theorem right_4 {x : Ev} (h1 : ¬ x.t < 0) (h2 : nV x.c = true) (h3 : noteB x.nd x.n = true) : rightE x = typB x := by unfold rightE; rw [decide_eq_true (by omega), h2, h3]; simp
theorem nonB_f {x : Ev} (h : ¬ (x.m = 0 ∧ x.o = 0 ∧ x.k.1 = 0 ∧ x.k.2.1 = 0 ∧ x.k.2.2.size = 0 ∧ x.a.length = 0)) : nonB x = false := decide_eq_false h
theorem nonB_t {x : Ev} (h : x.m = 0 ∧ x.o = 0 ∧ x.k.1 = 0 ∧ x.k.2.1 = 0 ∧ x.k.2.2.size = 0 ∧ x.a.length = 0) : nonB x = true := decide_eq_true h
theorem typ_n {x : Ev} (h1 : ¬ x.y = 1) (h : nonB x = false) : typB x = false := by
  unfold typB; rw [if_neg h1, h]
  split
  · rfl
  · split <;> rfl
theorem vat_block' {w : World} {a : Option Addr} {c : Nat} {xs : List Val} (h : VSl w (.slice a xs.length c) xs) (hl : 0 < xs.length) : ∃ b o, a = some ⟨b, o, none⟩ := by
  obtain ⟨a', c', hv, _, _, h4⟩ := h
  injection hv with h1 _ _
  rcases h4 with ⟨h0, _⟩ | ⟨b, o, e, _⟩
  · rw [h0] at hl; cases hl
  · exact ⟨b, o, h1.trans e⟩
theorem vat_cells' {w : World} {a : Option Addr} {c b o k : Nat} {xs : List Val} (h : VSl w (.slice a xs.length c) xs) (hb : a = some ⟨b, o, none⟩) (hk : k < xs.length) : At w b (o + k * 3) (nv xs k) := by
  obtain ⟨a', c', hv, _, _, h4⟩ := h
  injection hv with h1 _ _
  rcases h4 with ⟨h0, _⟩ | ⟨b', o', e, _, h5⟩
  · rw [h0] at hk; cases hk
  · rw [← h1, hb] at e
    injection e with e
    injection e with e1 e2 _
    subst e1 e2
    exact h5 k hk
set_option maxRecDepth 100000 in
set_option maxHeartbeats 8000000 in
theorem rright_ev (x : Ev) (va vr : Value) (w : World) (h1 : VSl w va x.a) (h2 : VSl w vr x.r) (hz : SzE x) :
    Calls Tryd.prog 28 #[.agg (evC x va vr).toArray] w fun e w' => e = .returned (.bool (rightE x)) ∧ Below w.heap.size w w' := by
  obtain ⟨av, cv, rfl⟩ : ∃ a c, va = .slice a x.a.length c := by obtain ⟨a, c, h, _⟩ := h1; exact ⟨a, c, h⟩
  obtain ⟨ar, cr, rfl⟩ : ∃ a c, vr = .slice a x.r.length c := by obtain ⟨a, c, h, _⟩ := h2; exact ⟨a, c, h⟩
  obtain ⟨w1, hw1⟩ : ∃ w1, w.alloc (.cells (evC x (.slice av x.a.length cv) (.slice ar x.r.length cr)).toArray 47) = w1 := ⟨_, rfl⟩
  have B1 := Blk.new w (evC x (.slice av x.a.length cv) (.slice ar x.r.length cr)) 47
  rw [hw1] at B1
  have b1 : Below w.heap.size w w1 := by rw [← hw1]; exact below_more (Below.refl _ _) _
  have ea := hw1
  simp only [evC] at ea
  obtain ⟨p, hpp⟩ : ∃ p, w.heap.size = p := ⟨_, rfl⟩
  rw [hpp] at B1
  have HB : Hid (Blk w1 p (evC x (.slice av x.a.length cv) (.slice ar x.r.length cr)) 47) := B1
  have Hb : Hid (Below w.heap.size w w1) := b1
  have H1 : Hid (VSl w (.slice av x.a.length cv) x.a) := h1
  have H2 : Hid (VSl w (.slice ar x.r.length cr) x.r) := h2
  have HZ : Hid (SzE x) := hz
  obtain ⟨a0, a1, a2, a3, a4, a5, a6, a7, a8, a9, a10, a11, a12, a13⟩ := ev_cells B1
  have C2 : Blk (w1.alloc (.cells #[.int .i64 0, .int .i64 0, .string ⟨#[]⟩] 38)) w1.heap.size (vls 0 0 ⟨#[]⟩) 38 := Blk.new w1 (vls 0 0 ⟨#[]⟩) 38
  have hlt := HB.out.lt
  have HB2 : Hid (Blk (w1.alloc (.cells #[.int .i64 0, .int .i64 0, .string ⟨#[]⟩] 38)) p (evC x (.slice av x.a.length cv) (.slice ar x.r.length cr)) 47) := HB.out.alloc _
  have hb2 : Hid (Below w.heap.size w (w1.alloc (.cells #[.int .i64 0, .int .i64 0, .string ⟨#[]⟩] 38))) := below_more Hb.out _
  have hls : Hid (w.heap.size ≤ w1.heap.size) := Hb.out.size
  have hN := fun w => name_any x.c.1 x.c.2.1 x.c.2.2 w HZ.out.1
  have e5 : nV x.c = nameB x.c.1 x.c.2.1 x.c.2.2 := rfl
  clear hw1 B1 b1 h1 h2 hz
  simp only [evC]
  by_cases ht0 : x.t < 0
  · have HF : Hid (rightE x = false) := right_1 ht0
    clear hN e5
    go_enter Tryd.func28, Tryd.ntmps28
    go_wp2_with ((with_reducible refine wp_storeB 38 (.tmp 3) (.tmp 6) w1.heap.size 0 (vls 0 0 ⟨#[]⟩) (vls 0 0 ⟨#[]⟩) 38 ?_ ?_ (vls_one _ _ _) ?_ ?_ ?_ C2 ?_); (exact sizeV); (exact Nat.le_refl 3); (exact ⟨rfl, rfl⟩); (exact rfl); (exact rfl); (intro z1 C3 o3); (replace C3 : Blk z1 w1.heap.size (vls 0 0 ⟨#[]⟩) 38 := C3); (have B3 := HB2.out.oth o3 (by omega) (by omega)); (have Hb2 : Hid (Below w.heap.size w z1) := below_oth hb2.out o3 hls.out hls.out hb2.out.size); (have HB3 : Hid (Blk z1 p (evC x (.slice av x.a.length cv) (.slice ar x.r.length cr)) 47) := B3); (have HC3 : Hid (Blk z1 w1.heap.size (vls 0 0 ⟨#[]⟩) 38) := C3); (obtain ⟨f0, f1, f2, f3, f4, f5, f6, f7, f8, f9, f10, f11, f12, f13⟩ := ev_cells B3); clear C2 C3 B3 o3)
    go_ret
    exact ⟨by rw [HF.out]; rfl, (by first | exact Hb2.out | (rw [← hpp]; exact Hb2.out))⟩
  have HT0 : Hid (¬ x.t < 0) := ht0
  cases hn1 : nameB x.c.1 x.c.2.1 x.c.2.2
  · have HF : Hid (rightE x = false) := right_2 (e5.trans hn1)
    rw [hn1] at hN
    clear e5 hn1
    go_enter Tryd.func28, Tryd.ntmps28
    go_wp2_with ((with_reducible refine wp_storeB 38 (.tmp 3) (.tmp 6) w1.heap.size 0 (vls 0 0 ⟨#[]⟩) (vls 0 0 ⟨#[]⟩) 38 ?_ ?_ (vls_one _ _ _) ?_ ?_ ?_ C2 ?_); (exact sizeV); (exact Nat.le_refl 3); (exact ⟨rfl, rfl⟩); (exact rfl); (exact rfl); (intro z1 C3 o3); (replace C3 : Blk z1 w1.heap.size (vls 0 0 ⟨#[]⟩) 38 := C3); (have B3 := HB2.out.oth o3 (by omega) (by omega)); (have Hb2 : Hid (Below w.heap.size w z1) := below_oth hb2.out o3 hls.out hls.out hb2.out.size); (have HB3 : Hid (Blk z1 p (evC x (.slice av x.a.length cv) (.slice ar x.r.length cr)) 47) := B3); (have HC3 : Hid (Blk z1 w1.heap.size (vls 0 0 ⟨#[]⟩) 38) := C3); (obtain ⟨f0, f1, f2, f3, f4, f5, f6, f7, f8, f9, f10, f11, f12, f13⟩ := ev_cells B3); clear C2 C3 B3 o3)
    refine (hN _).mono ?_
    rintro e w2 ⟨rfl, b2⟩
    have HB4 : Hid (Blk w2 p (evC x (.slice av x.a.length cv) (.slice ar x.r.length cr)) 47) := HB3.out.later b2
    have HC4 : Hid (Blk w2 w1.heap.size (vls 0 0 ⟨#[]⟩) 38) := HC3.out.later b2
    have HBel : Hid (Below w.heap.size w w2) := below_next Hb2.out b2
    clear b2 f0 f1 f2 f3 f4 f5 f6 f7 f8 f9 f10 f11 f12 f13
    obtain ⟨a0, a1, a2, a3, a4, a5, a6, a7, a8, a9, a10, a11, a12, a13⟩ := ev_cells HB4.out
    go_wp2_with fail
    go_ret
    exact ⟨by rw [HF.out]; rfl, (by first | exact HBel.out | (rw [← hpp]; exact HBel.out))⟩
  have HN1 : Hid (nV x.c = true) := e5.trans hn1
  rw [hn1] at hN
  clear e5 hn1
  by_cases hs : 100 < x.n.size
  · have HF : Hid (rightE x = false) := right_3 (noteB_big hs)
    have hs' : (100 : Int) < (x.n.size : Int) := by omega
    clear hs
    go_enter Tryd.func28, Tryd.ntmps28
    go_wp2_with ((with_reducible refine wp_storeB 38 (.tmp 3) (.tmp 6) w1.heap.size 0 (vls 0 0 ⟨#[]⟩) (vls 0 0 ⟨#[]⟩) 38 ?_ ?_ (vls_one _ _ _) ?_ ?_ ?_ C2 ?_); (exact sizeV); (exact Nat.le_refl 3); (exact ⟨rfl, rfl⟩); (exact rfl); (exact rfl); (intro z1 C3 o3); (replace C3 : Blk z1 w1.heap.size (vls 0 0 ⟨#[]⟩) 38 := C3); (have B3 := HB2.out.oth o3 (by omega) (by omega)); (have Hb2 : Hid (Below w.heap.size w z1) := below_oth hb2.out o3 hls.out hls.out hb2.out.size); (have HB3 : Hid (Blk z1 p (evC x (.slice av x.a.length cv) (.slice ar x.r.length cr)) 47) := B3); (have HC3 : Hid (Blk z1 w1.heap.size (vls 0 0 ⟨#[]⟩) 38) := C3); (obtain ⟨f0, f1, f2, f3, f4, f5, f6, f7, f8, f9, f10, f11, f12, f13⟩ := ev_cells B3); clear C2 C3 B3 o3)
    refine (hN _).mono ?_
    rintro e w2 ⟨rfl, b2⟩
    have HB4 : Hid (Blk w2 p (evC x (.slice av x.a.length cv) (.slice ar x.r.length cr)) 47) := HB3.out.later b2
    have HC4 : Hid (Blk w2 w1.heap.size (vls 0 0 ⟨#[]⟩) 38) := HC3.out.later b2
    have HBel : Hid (Below w.heap.size w w2) := below_next Hb2.out b2
    clear b2 f0 f1 f2 f3 f4 f5 f6 f7 f8 f9 f10 f11 f12 f13
    obtain ⟨a0, a1, a2, a3, a4, a5, a6, a7, a8, a9, a10, a11, a12, a13⟩ := ev_cells HB4.out
    go_wp2_with fail
    go_ret
    exact ⟨by rw [HF.out]; rfl, (by first | exact HBel.out | (rw [← hpp]; exact HBel.out))⟩
  have hs' : ¬ (100 : Int) < (x.n.size : Int) := by omega
  by_cases hu : x.nd = false ∧ ¬ x.n.size = 0
  · obtain ⟨u1, u2⟩ := hu
    have HF : Hid (rightE x = false) := right_3 (by rw [u1]; exact noteB_un u2)
    have U1 : Hid (x.nd = false) := u1
    have hn : ¬ x.n.toList = [] := fun h => u2 (toList_nil.1 h)
    have hi : x.n.toList.isEmpty = false := isEmpty_f u2
    clear u1 u2 hs
    go_enter Tryd.func28, Tryd.ntmps28
    go_wp2_with ((with_reducible refine wp_storeB 38 (.tmp 3) (.tmp 6) w1.heap.size 0 (vls 0 0 ⟨#[]⟩) (vls 0 0 ⟨#[]⟩) 38 ?_ ?_ (vls_one _ _ _) ?_ ?_ ?_ C2 ?_); (exact sizeV); (exact Nat.le_refl 3); (exact ⟨rfl, rfl⟩); (exact rfl); (exact rfl); (intro z1 C3 o3); (replace C3 : Blk z1 w1.heap.size (vls 0 0 ⟨#[]⟩) 38 := C3); (have B3 := HB2.out.oth o3 (by omega) (by omega)); (have Hb2 : Hid (Below w.heap.size w z1) := below_oth hb2.out o3 hls.out hls.out hb2.out.size); (have HB3 : Hid (Blk z1 p (evC x (.slice av x.a.length cv) (.slice ar x.r.length cr)) 47) := B3); (have HC3 : Hid (Blk z1 w1.heap.size (vls 0 0 ⟨#[]⟩) 38) := C3); (obtain ⟨f0, f1, f2, f3, f4, f5, f6, f7, f8, f9, f10, f11, f12, f13⟩ := ev_cells B3); clear C2 C3 B3 o3)
    refine (hN _).mono ?_
    rintro e w2 ⟨rfl, b2⟩
    have HB4 : Hid (Blk w2 p (evC x (.slice av x.a.length cv) (.slice ar x.r.length cr)) 47) := HB3.out.later b2
    have HC4 : Hid (Blk w2 w1.heap.size (vls 0 0 ⟨#[]⟩) 38) := HC3.out.later b2
    have HBel : Hid (Below w.heap.size w w2) := below_next Hb2.out b2
    clear b2 f0 f1 f2 f3 f4 f5 f6 f7 f8 f9 f10 f11 f12 f13
    obtain ⟨a0, a1, a2, a3, a4, a5, a6, a7, a8, a9, a10, a11, a12, a13⟩ := ev_cells HB4.out
    rw [U1.out] at a12
    go_wp2_with fail
    go_ret
    exact ⟨by rw [HF.out]; rfl, (by first | exact HBel.out | (rw [← hpp]; exact HBel.out))⟩
  have HS : Hid (¬ 100 < x.n.size ∧ (x.nd = true ∨ x.n.size = 0)) := by
    refine ⟨hs, ?_⟩
    cases e : x.nd
    · right
      by_cases e2 : x.n.size = 0
      · exact e2
      · exact absurd ⟨e, e2⟩ hu
    · exact .inl rfl
  have hu2 : x.nd = true ∨ (x.nd = false ∧ x.n.toList = [] ∧ x.n.toList.isEmpty = true) := by
    rcases HS.out.2 with h | h
    · exact .inl h
    · cases e : x.nd
      · exact .inr ⟨rfl, toList_nil.2 h, isEmpty_t h⟩
      · exact .inl rfl
  clear hu hs
  have hbt := get_bt x.n
  rcases hu2 with u1 | ⟨u1, u2, u3⟩
  all_goals
    have U1 : Hid (x.nd = _) := u1
    clear u1
    go_enter Tryd.func28, Tryd.ntmps28
    go_wp2_with ((with_reducible refine wp_storeB 38 (.tmp 3) (.tmp 6) w1.heap.size 0 (vls 0 0 ⟨#[]⟩) (vls 0 0 ⟨#[]⟩) 38 ?_ ?_ (vls_one _ _ _) ?_ ?_ ?_ C2 ?_); (exact sizeV); (exact Nat.le_refl 3); (exact ⟨rfl, rfl⟩); (exact rfl); (exact rfl); (intro z1 C3 o3); (replace C3 : Blk z1 w1.heap.size (vls 0 0 ⟨#[]⟩) 38 := C3); (have B3 := HB2.out.oth o3 (by omega) (by omega)); (have Hb2 : Hid (Below w.heap.size w z1) := below_oth hb2.out o3 hls.out hls.out hb2.out.size); (have HB3 : Hid (Blk z1 p (evC x (.slice av x.a.length cv) (.slice ar x.r.length cr)) 47) := B3); (have HC3 : Hid (Blk z1 w1.heap.size (vls 0 0 ⟨#[]⟩) 38) := C3); (obtain ⟨f0, f1, f2, f3, f4, f5, f6, f7, f8, f9, f10, f11, f12, f13⟩ := ev_cells B3); clear C2 C3 B3 o3)
    refine (hN _).mono ?_
    rintro e w2 ⟨rfl, b2⟩
    have HB4 : Hid (Blk w2 p (evC x (.slice av x.a.length cv) (.slice ar x.r.length cr)) 47) := HB3.out.later b2
    have HC4 : Hid (Blk w2 w1.heap.size (vls 0 0 ⟨#[]⟩) 38) := HC3.out.later b2
    have HBel : Hid (Below w.heap.size w w2) := below_next Hb2.out b2
    clear b2 f0 f1 f2 f3 f4 f5 f6 f7 f8 f9 f10 f11 f12 f13
    obtain ⟨a0, a1, a2, a3, a4, a5, a6, a7, a8, a9, a10, a11, a12, a13⟩ := ev_cells HB4.out
    rw [U1.out] at a12
    go_wp2
    go_loop [4] (fun i => ∃ k : Nat, k ≤ x.n.size ∧ i = .int .i64 (k : Int) ∧ (10 : UInt8) ∉ (tx x.n).take k) (fun i => x.n.size - (intOf i).toNat)
    case atStart => exact ⟨0, by omega, rfl, by simp⟩
    case round =>
      obtain ⟨k, hk, rfl, hall⟩ := hrel
      have HA : Hid ((10 : UInt8) ∉ (tx x.n).take k) := hall
      clear hall
      by_cases hlt : k < x.n.size
      · have hlt' : (k : Int) < (x.n.size : Int) := by omega
        obtain ⟨b, hb1, hb2, hb3, hb4⟩ := Ln.byte_at x.n k hlt
        by_cases hbc : b = 10
        · subst hbc
          have hq : (bt x.n k == 10) = true := by rw [hb2]; rfl
          have hq' : bt x.n k = 10 := by rw [hb2]; rfl
          have HF : Hid (rightE x = false) := right_3 (noteB_10 (List.mem_of_getElem? hb1))
          clear hb1 hb2 hb3 hb4
          go_wp2
          go_ret
          exact ⟨by rw [HF.out]; rfl, (by first | exact HBel.out | (rw [← hpp]; exact HBel.out))⟩
        · have hq : (bt x.n k == 10) = false := by rw [hb2]; exact beq_eq_false_iff_ne.2 (fun h => hbc ((byte_eq b 10).1 h))
          have hq' : ¬ bt x.n k = 10 := fun h => hbc ((byte_eq b 10).1 (by rw [← hb2, h]; rfl))
          have H3 : Hid ((tx x.n).take (k + 1) = (tx x.n).take k ++ [b]) := hb3
          clear hb1 hb2 hb3 hb4
          go_wp2
          go_round
          case rel =>
            refine ⟨k + 1, by omega, by go_num, ?_⟩
            rw [H3.out]
            intro h
            rcases List.mem_append.1 h with h | h
            · exact HA.out h
            · simp at h; exact hbc h.symm
          case measure => simp [intOf]; omega
      · have e : k = x.n.size := by omega
        subst e
        have HN10 : Hid ((10 : UInt8) ∉ tx x.n) := by have := HA.out; rw [List.take_of_length_le (by rw [tx_len]; omega)] at this; exact this
        clear HA hlt hk
        have HRt : Hid (rightE x = typB x) := right_4 (by have := HT0.out; omega) HN1.out (noteB_ok HS.out.1 HS.out.2 HN10.out)
        by_cases y1 : x.y = 1
        · have hy1 : (x.y == 1) = true := by simp [y1]
          have HF : Hid (rightE x = (nV x.k && (fi x.m x.o && fitsL (fr x.m x.o).inn x.a) && decide (x.r.length = 0))) := HRt.out.trans (typ_1 y1)
          clear y1
          have hF := fun w' (hb : Below w.heap.size w w') => rfits_of x.m x.o (.slice av x.a.length cv) x.a w' (rfind_any x.m x.o w') (H1.out.later hb) HZ.out.2.2.1 HZ.out.2.2.2.2.1
          have hK := fun w => name_any x.k.1 x.k.2.1 x.k.2.2 w HZ.out.2.1
          have e5 : nV x.k = nameB x.k.1 x.k.2.1 x.k.2.2 := rfl
          rw [e5] at HF
          generalize (fi x.m x.o && fitsL (fr x.m x.o).inn x.a) = n2 at *
          generalize nameB x.k.1 x.k.2.1 x.k.2.2 = n3 at *
          clear e5
          have HFF : Hid (∀ w', Below w.heap.size w w' → _) := hF
          clear hF
          cases n2
          · go_wp2_with fail
            refine (HFF.out _ HBel.out).mono ?_
            rintro e w5 ⟨rfl, b5⟩
            go_wp2_with fail
            go_ret
            exact ⟨by rw [HF.out]; exact ret_b (by simp), (by first | exact below_next HBel.out b5 | (rw [← hpp]; exact below_next HBel.out b5))⟩
          cases n3
          · go_wp2_with fail
            refine (HFF.out _ HBel.out).mono ?_
            rintro e w5 ⟨rfl, b5⟩
            obtain ⟨f0, f1, f2, f3, f4, f5, f6, f7, f8, f9, f10, f11, f12, f13⟩ := ev_cells (HB4.out.later b5)
            go_wp2_with fail
            refine (hK _).mono ?_
            rintro e w6 ⟨rfl, b6⟩
            go_wp2_with fail
            go_ret
            exact ⟨by rw [HF.out]; exact ret_b (by simp), (by first | exact below_next (below_next HBel.out b5) b6 | (rw [← hpp]; exact below_next (below_next HBel.out b5) b6))⟩
          · go_wp2_with fail
            refine (HFF.out _ HBel.out).mono ?_
            rintro e w5 ⟨rfl, b5⟩
            obtain ⟨f0, f1, f2, f3, f4, f5, f6, f7, f8, f9, f10, f11, f12, f13⟩ := ev_cells (HB4.out.later b5)
            go_wp2_with fail
            refine (hK _).mono ?_
            rintro e w6 ⟨rfl, b6⟩
            clear f0 f1 f2 f3 f4 f5 f6 f7 f8 f9 f10 f11 f12 f13
            obtain ⟨f0, f1, f2, f3, f4, f5, f6, f7, f8, f9, f10, f11, f12, f13⟩ := ev_cells ((HB4.out.later b5).later b6)
            go_wp2_with fail
            go_ret
            exact ⟨by rw [HF.out]; exact ret_b (by simp; first | done | (rw [Bool.eq_iff_iff]; simp)), (by first | exact below_next (below_next HBel.out b5) b6 | (rw [← hpp]; exact below_next (below_next HBel.out b5) b6))⟩
        have hy1 : (x.y == 1) = false := by simp [y1]
        by_cases yl : x.y < 2
        · have HF : Hid (rightE x = false) := HRt.out.trans (typ_0 y1 (by omega) (by omega) (by omega))
          clear y1
          go_wp2
          go_ret
          exact ⟨by rw [HF.out]; rfl, (by first | exact HBel.out | (rw [← hpp]; exact HBel.out))⟩
        by_cases yg : 4 < x.y
        · have HF : Hid (rightE x = false) := HRt.out.trans (typ_0 y1 (by omega) (by omega) (by omega))
          clear y1
          go_wp2
          go_ret
          exact ⟨by rw [HF.out]; rfl, (by first | exact HBel.out | (rw [← hpp]; exact HBel.out))⟩
        have HY1 : Hid (¬ x.y = 1) := y1
        have HY : Hid (x.y = 2 ∨ x.y = 3 ∨ x.y = 4) := by show _ ∨ _; omega
        clear y1
        by_cases hm : x.m = 0
        case neg =>
          have HF : Hid (rightE x = false) := HRt.out.trans (typ_n HY1.out (nonB_f fun e => hm e.1))
          have hm1 : (x.m != 0) = true := by simp [hm]
          go_wp2
          go_ret
          exact ⟨by rw [HF.out]; rfl, (by first | exact HBel.out | (rw [← hpp]; exact HBel.out))⟩
        have hm1 : (x.m != 0) = false := by simp [hm]
        have HM : Hid (x.m = 0) := hm
        clear hm
        by_cases ho : x.o = 0
        case neg =>
          have HF : Hid (rightE x = false) := HRt.out.trans (typ_n HY1.out (nonB_f fun e => ho e.2.1))
          have ho1 : (x.o != 0) = true := by simp [ho]
          go_wp2
          go_ret
          exact ⟨by rw [HF.out]; rfl, (by first | exact HBel.out | (rw [← hpp]; exact HBel.out))⟩
        have ho1 : (x.o != 0) = false := by simp [ho]
        have HOo : Hid (x.o = 0) := ho
        clear ho
        have hg := eqgV
        have hq := fun w => neV x.k.1 x.k.2.1 0 0 x.k.2.2 ⟨#[]⟩ w
        rw [eqv_none] at hq
        have g0 : w2.cell? ⟨w1.heap.size, 0, none⟩ = some (.int .i64 0) := HC4.out.cell 0 _ rfl
        have g1 : w2.cell? ⟨w1.heap.size, 1, none⟩ = some (.int .i64 0) := HC4.out.cell 1 _ rfl
        have g2 : w2.cell? ⟨w1.heap.size, 2, none⟩ = some (.string ⟨#[]⟩) := HC4.out.cell 2 _ rfl
        by_cases hk : x.k.1 = 0 ∧ x.k.2.1 = 0 ∧ x.k.2.2.size = 0
        case neg =>
          have HF : Hid (rightE x = false) := HRt.out.trans (typ_n HY1.out (nonB_f fun e => hk ⟨e.2.2.1, e.2.2.2.1, e.2.2.2.2.1⟩))
          rw [decide_eq_false hk] at hq
          clear hk
          go_wp2
          go_ret
          exact ⟨by rw [HF.out]; rfl, (by first | exact HBel.out | (rw [← hpp]; exact HBel.out))⟩
        rw [decide_eq_true hk] at hq
        have HKk : Hid (x.k.1 = 0 ∧ x.k.2.1 = 0 ∧ x.k.2.2.size = 0) := hk
        clear hk
        by_cases ha : 0 < x.a.length
        · have HF : Hid (rightE x = false) := HRt.out.trans (typ_n HY1.out (nonB_f fun e => by have := e.2.2.2.2.2; omega))
          have ha1 : (0 : Int) < (x.a.length : Int) := by omega
          go_wp2
          go_ret
          exact ⟨by rw [HF.out]; rfl, (by first | exact HBel.out | (rw [← hpp]; exact HBel.out))⟩
        have ha1 : ¬ (0 : Int) < (x.a.length : Int) := by omega
        have HNn : Hid (nonB x = true) := nonB_t ⟨HM.out, HOo.out, HKk.out.1, HKk.out.2.1, HKk.out.2.2, by omega⟩
        have HR2 : Hid (x.y = 2 → rightE x = x.r.all rV) := fun e => HRt.out.trans ((typ_2 e).trans (by rw [HNn.out]; rfl))
        have HR3 : Hid (¬ x.y = 2 → rightE x = decide (x.r.length = 0)) := fun e => HRt.out.trans ((typ_3 (HY.out.resolve_left e)).trans (by rw [HNn.out]; rfl))
        go_wp2
        go_loopw [5] (fun i w' => ∃ k : Nat, k ≤ x.r.length ∧ i = .int .i64 (k : Int) ∧ Below w2.heap.size w2 w' ∧ ∀ i, i < k → rV (nv x.r i) = true) (fun i w' => x.r.length - (intOf i).toNat)
        case atStart => exact ⟨0, by omega, rfl, Below.refl _ _, fun i h => by omega⟩
        case round =>
          obtain ⟨k, hk, rfl, hb, hall⟩ := hrel
          have HA : Hid (∀ i, i < k → rV (nv x.r i) = true) := hall
          have HBr : Hid (Below w.heap.size w wr) := below_next HBel.out hb
          clear hall a0 a1 a2 a3 a4 a5 a6 a7 a8 a9 a10 a11 a12 a13
          obtain ⟨a0, a1, a2, a3, a4, a5, a6, a7, a8, a9, a10, a11, a12, a13⟩ := ev_cells (HB4.out.later hb)
          by_cases hlt : k < x.r.length
          · have hlt' : (k : Int) < (x.r.length : Int) := by omega
            obtain ⟨b, o, rfl⟩ := vat_block' (H2.out.later HBr.out) (by omega)
            obtain ⟨c0, c1, c2⟩ := vat_cells' (H2.out.later HBr.out) rfl hlt
            have hnr : x.r.length ≤ 1000000 := HZ.out.2.2.2.2.2
            have hR := fun w => rright_any (nv x.r k).1 (nv x.r k).2.1 (nv x.r k).2.2 w (HZ.out.2.2.2.1 k hlt)
            cases hr : rightB (nv x.r k).1 (nv x.r k).2.1 (nv x.r k).2.2
            · rw [hr] at hR
              have HF : Hid (rightE x = false) := by
                show rightE x = false
                by_cases e2 : x.y = 2
                · rw [HR2.out e2]; exact all_f hlt hr
                · rw [HR3.out e2]; exact decide_eq_false (by omega)
              clear hr hb
              go_wp2_with fail
              refine (hR _).mono ?_
              rintro e w5 ⟨rfl, b5⟩
              go_wp2_with fail
              go_ret
              exact ⟨by rw [HF.out]; rfl, (by first | exact below_next HBr.out b5 | (rw [← hpp]; exact below_next HBr.out b5))⟩
            · rw [hr] at hR
              have HRk : Hid (rV (nv x.r k) = true) := hr
              have Hbr : Hid (Below w2.heap.size w2 wr) := hb
              clear hr hb
              go_wp2_with fail
              refine (hR _).mono ?_
              rintro e w5 ⟨rfl, b5⟩
              go_wp2_with fail
              go_roundw
              case rel => exact ⟨k + 1, by omega, by go_num, below_next Hbr.out b5, all_succ x.r k HA.out HRk.out⟩
              case measure => simp [intOf]; omega
          · have e : k = x.r.length := by omega
            subst e
            by_cases e2 : x.y = 2
            · have hy2 : (x.y == 2) = true := by simp [e2]
              have HF : Hid (rightE x = true) := by show rightE x = true; rw [HR2.out e2]; exact all_t HA.out
              clear e2
              go_wp2
              go_ret
              exact ⟨by rw [HF.out]; rfl, (by first | exact HBr.out | (rw [← hpp]; exact HBr.out))⟩
            · have hy2 : (x.y == 2) = false := by simp [e2]
              have HF : Hid (rightE x = decide (x.r.length = 0)) := HR3.out e2
              clear e2
              go_wp2
              go_ret
              exact ⟨by rw [HF.out]; exact ret_b (by simp; first | done | (rw [Bool.eq_iff_iff]; simp)), (by first | exact HBr.out | (rw [← hpp]; exact HBr.out))⟩
end Go.Proofs.YtgdegbmakbfaaaaDoor
