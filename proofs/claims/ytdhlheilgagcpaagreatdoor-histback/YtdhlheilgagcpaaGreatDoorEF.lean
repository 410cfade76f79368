/- The contract of the reader's call: what stands behind the type of an Invoke. Conditions: the reader, the event and the tables lie in memory; the words are at most 2^62 bytes. -/
import Derived.Test.YtdhlheilgagcpaaGreatDoorBF
import Derived.StillTailTactics
import Derived.OrdersHeld
namespace Go.Proofs.YtdhlheilgagcpaaGreatDoor
open Go.RowKit Go.PlainAid Ln
set_option linter.unusedVariables false
set_option linter.unusedSimpArgs false

/-- the tables that the reader reads -/
def Tbs (w : World) : Prop := Tb w ∧ Wt w 1 11 mn ∧ Wt w 2 14 on ∧ Wt w 0 5 tn
theorem Tbs.later {w w' : World} (h : Tbs w) (hb : Below w.heap.size w w') : Tbs w' := ⟨h.1.later hb, h.2.1.later hb, h.2.2.1.later hb, h.2.2.2.later hb⟩

/-- the model, what is done, the fault behind both, the domains -/
def cM (L : List (List UInt8)) : Nat := wI mn 11 (hdW L)
def cO (L : List (List UInt8)) : Nat := wI on 14 (hdW L.tail.tail)
def cF (f : Int) (L : List (List UInt8)) : Int := kp (tkF 1 (kp f (mf (decide (0 < cM L)))) L.tail) (mf (fi (cM L) (cO L)))
def cD (L : List (List UInt8)) : List Int := (fr (cM L) (cO L)).inn
theorem cD_len (L : List (List UInt8)) : (cD L).length ≤ 2 := by
  have := fr_all (p := fun r => decide (r.inn.length ≤ 2)) rfl (cM L) (cO L)
  simpa [cD] using this
/-- how call ends -/
def RCall (w : World) (p q : Nat) (L : List (List UInt8)) (f : Int) (x : Ev) (e : Ending) (w' : World) : Prop :=
  ∃ va, e = .returned (.tuple #[]) ∧ Rdr w' p (L.tail.tail.tail.drop (cD L).length) (aF (cD L) (cF f L) L.tail.tail.tail (cD L).length) ∧
    Blk w' q (evC { x with m := cM L, k := vOf L.tail, o := cO L } va nilS) 37 ∧ OwnV w' w.heap.size va (aV L.tail.tail.tail (cD L).length) ∧ Oth p q w w'

theorem sizeI : (Tryz.prog.info? 3).map (·.size) = some 1 := by kernel_rfl
theorem sizeVs : (Tryz.prog.info? 35).map (·.size) = some 1 := by kernel_rfl
set_option maxHeartbeats 4000000 in
set_option maxRecDepth 100000 in
theorem rd_call (p q : Nat) (L : List (List UInt8)) (f : Int) (x : Ev) (w w0 : World) (h : Rdr w p L f) (hs : Sm L) (ht : Tbs w0) (h0 : Below w0.heap.size w0 w) (hp : w0.heap.size ≤ p) (hpq : p < q)
    (hB : Blk w q (evC x nilS nilS) 37) :
    Calls Tryz.prog 52 #[.pointer (some ⟨p, 0, none⟩), .pointer (some ⟨q, 0, none⟩)] w fun en w' => RCall w p q L f x en w' := by
  have mixed : Tryz.prog.follows .mixedOrders = true := by kernel_rfl
  obtain ⟨HT, HM, HO, HY⟩ := ht
  have hN := rd_model p L f w w0 h HM h0 hp
  clear h
  have hq0 : w0.heap.size ≤ q := by omega
  go_enter Tryz.func52, Tryz.ntmps52
  go_wp2_with fail
  refine hN.mono ?_
  rintro e w1 ⟨M, rfl, hM, h1, o1⟩
  obtain rfl : M = cM L := isW_eq apart_m hM
  have B1 := hB.oth o1 (by omega) (by omega)
  have b1 := below_oth h0 o1 hp hp h0.size
  have O1 : Oth p q w w1 := o1.mono
  clear hN hB o1 hM
  go_wp2_with ((with_reducible refine wp_storeC 3 (.tmp 12) (.tmp 10) q 5 (.int .i64 (cM L : Int)) (evC x nilS nilS) 37 ?_ ?_ ?_ ?_ ?_ ?_ ?_ B1 ?_); (exact sizeI); (exact (show 5 < 14 by decide)); (exact rfl); (exact rfl); (exact ⟨rfl, rfl⟩); (exact rfl); (exact rfl); (intro w2 B2 o2))
  replace B2 : Blk w2 q (evC { x with m := cM L } nilS nilS) 37 := B2
  have h2 := h1.oth o2 hpq
  have b2 := below_oth b1 o2 hq0 hq0 b1.size
  have O2 := O1.trans o2.mono'
  clear B1 b1 O1 h1 o2
  refine (rd_taken p _ _ 1 _ h2 hs.tail).mono ?_
  rintro e w3 ⟨rfl, h3, o3⟩
  have B3 := B2.oth o3 (by omega) (by omega)
  have b3 := below_oth b2 o3 hp hp b2.size
  have O3 := O2.trans o3.mono
  clear B2 b2 O2 h2 o3
  go_wp2_with ((with_reducible refine wp_storeB 34 (.tmp 17) (.tmp 15) q 6 (vls (vOf L.tail).1 (vOf L.tail).2.1 (vOf L.tail).2.2) (evC { x with m := cM L } nilS nilS) 37 ?_ ?_ (vls_one _ _ _) ?_ ?_ ?_ B3 ?_); (exact sizeV); (exact (show 6 + 3 ≤ 14 by decide)); (exact ⟨rfl, rfl⟩); (exact rfl); (exact rfl); (intro w4 B4 o4))
  replace B4 : Blk w4 q (evC { x with m := cM L, k := vOf L.tail } nilS nilS) 37 := B4
  have h4 := h3.oth o4 hpq
  have b4 := below_oth b3 o4 hq0 hq0 b3.size
  have O4 := O3.trans o4.mono'
  clear B3 b3 O3 h3 o4
  refine (wd_next p _ _ _ h4).mono ?_
  rintro e w5 ⟨rfl, h5, o5⟩
  have B5 := B4.oth o5 (by omega) (by omega)
  have b5 := below_oth b4 o5 hp hp b4.size
  have O5 := O4.trans o5.mono
  clear B4 b4 O4 h4 o5
  go_wp2_with fail
  refine (op_any _ _ (HO.later b5)).mono ?_
  rintro e w6 ⟨O, rfl, hO, _, bb⟩
  obtain rfl : O = cO L := isW_eq apart_o hO
  replace h5 := h5.later bb
  replace B5 := B5.later bb
  replace b5 := b5.trans (bb.mono b5.size)
  replace O5 := O5.trans (.of_below bb)
  clear bb hO
  go_wp2_with ((with_reducible refine wp_storeC 3 (.tmp 28) (.tmp 25) q 9 (.int .i64 (cO L : Int)) (evC { x with m := cM L, k := vOf L.tail } nilS nilS) 37 ?_ ?_ ?_ ?_ ?_ ?_ ?_ B5 ?_); (exact sizeI); (exact (show 9 < 14 by decide)); (exact rfl); (exact rfl); (exact ⟨rfl, rfl⟩); (exact rfl); (exact rfl); (intro w7 B7 o7))
  replace B7 : Blk w7 q (evC { x with m := cM L, k := vOf L.tail, o := cO L } nilS nilS) 37 := B7
  have h7 := h5.oth o7 hpq
  have b7 := below_oth b5 o7 hq0 hq0 b5.size
  have O7 := O5.trans o7.mono'
  clear B5 b5 O5 h5 o7
  have B8 := B7.drew
  have h8 := h7.drew
  have b8 : Below w0.heap.size w0 { w7 with drawn := w7.drawn + 1 } := ⟨b7.os, b7.tape, b7.output, b7.size, b7.block⟩
  have O8 := O7.drew
  clear B7 h7 b7 O7
  refine wp_region_held (S := Below ({ w7 with drawn := w7.drawn + 1 } : World).heap.size ({ w7 with drawn := w7.drawn + 1 } : World)) mixed ?_
  generalize ({ w7 with drawn := w7.drawn + 1 } : World) = w8 at B8 h8 b8 O8 ⊢
  have HW : Below w8.heap.size w8 w8 := Below.refl _ _
  refine takeH 0 30 (.pointer (some ⟨q, 0, none⟩)) rfl rfl (by kernel_rfl) (by kernel_rfl) (by kernel_rfl) (fun c a w h => h) (.inl ⟨rfl, fun w _ => rfl⟩) HW ?_
  simp only [List.setIfInBounds_toArray, List.set_cons_zero, List.set_cons_succ]
  refine takeH 1 31 (.pointer (some ⟨q, 0, none⟩)) rfl rfl (by kernel_rfl) (by kernel_rfl) (by kernel_rfl) (fun c a w h => h) (.inl ⟨rfl, fun w _ => by go_simp⟩) HW ?_
  simp only [List.setIfInBounds_toArray, List.set_cons_zero, List.set_cons_succ]
  refine takeH 2 32 (.pointer (some ⟨q, 5, none⟩)) rfl rfl (by kernel_rfl) (by kernel_rfl) (by kernel_rfl) (fun c a w h => h) (.inl ⟨rfl, fun w _ => by go_simp⟩) HW ?_
  simp only [List.setIfInBounds_toArray, List.set_cons_zero, List.set_cons_succ]
  refine takeH 3 33 (.int .i64 (cM L : Int)) rfl rfl (by kernel_rfl) (by kernel_rfl) (by kernel_rfl) (fun c a w h => h) (.inl ⟨rfl, fun wx hx => by have c := (B8.later hx).cell 5 (.int .i64 (cM L : Int)) rfl; go_simp⟩) HW ?_
  simp only [List.setIfInBounds_toArray, List.set_cons_zero, List.set_cons_succ]
  refine takeH 4 34 (.pointer (some ⟨q, 0, none⟩)) rfl rfl (by kernel_rfl) (by kernel_rfl) (by kernel_rfl) (fun c a w h => h) (.inl ⟨rfl, fun w _ => rfl⟩) HW ?_
  simp only [List.setIfInBounds_toArray, List.set_cons_zero, List.set_cons_succ]
  refine takeH 5 35 (.pointer (some ⟨q, 0, none⟩)) rfl rfl (by kernel_rfl) (by kernel_rfl) (by kernel_rfl) (fun c a w h => h) (.inl ⟨rfl, fun w _ => by go_simp⟩) HW ?_
  simp only [List.setIfInBounds_toArray, List.set_cons_zero, List.set_cons_succ]
  refine takeH 6 36 (.pointer (some ⟨q, 9, none⟩)) rfl rfl (by kernel_rfl) (by kernel_rfl) (by kernel_rfl) (fun c a w h => h) (.inl ⟨rfl, fun w _ => by go_simp⟩) HW ?_
  simp only [List.setIfInBounds_toArray, List.set_cons_zero, List.set_cons_succ]
  refine takeH 7 37 (.int .i64 (cO L : Int)) rfl rfl (by kernel_rfl) (by kernel_rfl) (by kernel_rfl) (fun c a w h => h) (.inl ⟨rfl, fun wx hx => by have c := (B8.later hx).cell 9 (.int .i64 (cO L : Int)) rfl; go_simp⟩) HW ?_
  simp only [List.setIfInBounds_toArray, List.set_cons_zero, List.set_cons_succ]
  refine wpAnyH_all (rs := [8]) (by kernel_rfl) (by simp) (fun i hi => ?_)
  obtain rfl : i = 8 := by simpa using hi
  refine wpOp_doG 8 (by rfl) (by rfl) ?_
  go_wp2_with fail
  refine (args_new _ _ _ (HT.later b8)).mono ?_
  rintro e w9 ⟨vd, rfl, hd, hnew, bb⟩
  refine ⟨bb, ?_⟩
  clear HW
  have HW : Below w8.heap.size w8 w9 := bb
  refine takeH 9 29 (.tuple #[vd, .bool (fi (cM L) (cO L))]) rfl rfl (by kernel_rfl) (by kernel_rfl) (by kernel_rfl) (fun c a w h => h) (.inl ⟨rfl, fun w _ => rfl⟩) HW ?_
  simp only [List.setIfInBounds_toArray, List.set_cons_zero, List.set_cons_succ]
  refine takeH 10 39 (vd) rfl rfl (by kernel_rfl) (by kernel_rfl) (by kernel_rfl) (fun c a w h => h) (.inl ⟨rfl, fun w _ => by go_simp⟩) HW ?_
  simp only [List.setIfInBounds_toArray, List.set_cons_zero, List.set_cons_succ]
  refine takeH 11 40 (.bool (fi (cM L) (cO L))) rfl rfl (by kernel_rfl) (by kernel_rfl) (by kernel_rfl) (fun c a w h => h) (.inl ⟨rfl, fun w _ => by go_simp⟩) HW ?_
  simp only [List.setIfInBounds_toArray, List.set_cons_zero, List.set_cons_succ]
  refine takeH 12 4 (vd) rfl rfl (by kernel_rfl) (by kernel_rfl) (by kernel_rfl) (fun c a w h => h) (.inl ⟨rfl, fun w _ => rfl⟩) HW ?_
  simp only [List.setIfInBounds_toArray, List.set_cons_zero, List.set_cons_succ]
  refine takeH 13 5 (.bool (fi (cM L) (cO L))) rfl rfl (by kernel_rfl) (by kernel_rfl) (by kernel_rfl) (fun c a w h => h) (.inl ⟨rfl, fun w _ => rfl⟩) HW ?_
  simp only [List.setIfInBounds_toArray, List.set_cons_zero, List.set_cons_succ]
  refine wpAnyH_done (by kernel_rfl) ?_ _
  have hn1 : ∀ g, vd.ownBlock = some g → g ≠ p ∧ g ≠ q := fun g hg => by
    have := hnew g hg
    have l1 := h8.lt
    have l2 := B8.lt
    omega
  replace h8 := h8.later bb
  replace B8 := B8.later bb
  replace b8 := b8.trans (bb.mono b8.size)
  replace O8 := O8.trans (.of_below bb)
  clear bb hnew HW
  obtain ⟨ad, cd, hvd⟩ := hd.form
  obtain ⟨n, hn⟩ : ∃ n, (cD L).length = n := ⟨_, rfl⟩
  have hn2 : n ≤ 2 := hn ▸ cD_len L
  rename_i K hK
  apply hK
  clear hK
  subst hvd
  have HD : Hid (cD L = (fr (cM L) (cO L)).inn) := rfl
  have hlen : (fr (cM L) (cO L)).inn.length = n := hn
  rw [hlen] at hd ⊢
  have hd' : ISl w9 (.slice ad n cd) (cD L) := hd
  clear hd hlen
  go_wp2_with fail
  refine (rd_must p _ _ (fi (cM L) (cO L)) _ h8).mono ?_
  rintro e w10 ⟨rfl, h10, o10⟩
  have B10 := B8.oth o10 (by omega) (by omega)
  have O10 : Oth p q w w10 := O8.trans o10.mono
  have hn2' : ∀ g, (Value.slice ad n cd).ownBlock = some g → g ≠ p ∧ g ≠ q := fun g hg => hn1 g (by cases ad with | none => cases hg | some a => exact hg)
  have hd10 := hd'.oth (o10.mono (q := q)) hn2'
  clear hn1
  have l1 := h10.lt
  have l2 := B10.lt
  clear h8 B8 b8 O8 hd' o10
  obtain ⟨L3, hL3⟩ : ∃ L3, L.tail.tail.tail = L3 := ⟨_, rfl⟩
  obtain ⟨X, hX⟩ : ∃ X, ({ x with m := cM L, k := vOf L.tail, o := cO L } : Ev) = X := ⟨_, rfl⟩
  obtain ⟨f3, hf3⟩ : ∃ f3, cF f L = f3 := ⟨_, rfl⟩
  have h10' : Rdr w10 p L3 f3 := by rw [← hL3, ← hf3]; exact h10
  rw [hX] at B10
  have hSm : ∀ k, Sm (L3.drop k) := fun k y hy => hs y (List.mem_of_mem_tail (List.mem_of_mem_tail (List.mem_of_mem_tail (by rw [hL3]; exact List.mem_of_mem_drop hy))))
  have HH : Hid (L.tail.tail.tail = L3 ∧ ({ x with m := cM L, k := vOf L.tail, o := cO L } : Ev) = X ∧ cF f L = f3 ∧ (cD L).length = n) := ⟨hL3, hX, hf3, hn⟩
  have HSm : Hid (∀ k, Sm (L3.drop k)) := hSm
  have HDS : Hid (ISl w10 (.slice ad n cd) (cD L)) := hd10
  have HO10 : Hid (Oth p q w w10) := O10
  have HLT : Hid (p < w10.heap.size ∧ q < w10.heap.size) := ⟨l1, l2⟩
  have HN2 : Hid (∀ g, (Value.slice ad n cd).ownBlock = some g → g ≠ p ∧ g ≠ q) := hn2'
  have HI0 : Hid (∃ va, Rdr w10 p (L3.drop 0) (aF (cD L) f3 L3 0) ∧ Blk w10 q (evC X va nilS) 37 ∧ OwnV w10 w10.heap.size va (aV L3 0) ∧ Oth p q w10 w10) := ⟨nilS, h10', B10, OwnV.nil _ _, Oth.refl _ _ _⟩
  clear hL3 hX hf3 hn hSm hd10 O10 l1 l2 hn2' h10' h10 B10 HD
  go_wp2_with fail
  go_loopw [46] (fun i wr => ∃ k : Nat, k ≤ n ∧ i = .int .i64 (k : Int) ∧ Hid (∃ va, Rdr wr p (L3.drop k) (aF (cD L) f3 L3 k) ∧ Blk wr q (evC X va nilS) 37 ∧ OwnV wr w10.heap.size va (aV L3 k) ∧ Oth p q w10 wr)) (fun i wr => n - (intOf i).toNat)
  case atStart => exact ⟨0, by omega, rfl, HI0⟩
  case round =>
    obtain ⟨k, hk, rfl, HI⟩ := hrel
    clear HI0
    by_cases hlt : k < n
    · have hlt' : (k : Int) < (n : Int) := by omega
      obtain ⟨va, Rp, Bq, Ov, Or⟩ := HI.out
      have hds := HDS.out.oth Or HN2.out
      have hnd := HH.out.2.2.2
      obtain ⟨b, o, rfl, _, hcell⟩ := isl_at hds (by omega)
      have ck := hcell k (by omega)
      obtain ⟨dk, hdk⟩ : ∃ dk, nth (cD L) k = dk := ⟨_, rfl⟩
      rw [hdk] at ck
      have HDK : Hid (nth (cD L) k = dk) := hdk
      have HR : Hid (Rdr wr p (L3.drop k) (aF (cD L) f3 L3 k) ∧ Blk wr q (evC X va nilS) 37 ∧ OwnV wr w10.heap.size va (aV L3 k) ∧ Oth p q w10 wr) := ⟨Rp, Bq, Ov, Or⟩
      clear Rp Bq Ov Or hds hnd hcell hdk HI
      go_wp2_with fail
      rename_i K8 hK8
      obtain ⟨Rp0, Bq0, Ov, Or0⟩ := HR.out
      have Rp := Rp0.drew
      have Bq := Bq0.drew
      have Or := Or0.drew
      replace Ov : OwnV { wr with drawn := wr.drawn + 1 } w10.heap.size va (aV L3 k) := Ov
      clear Rp0 Bq0 Or0 HR
      refine wp_region_held (S := AnyW) mixed ?_
      generalize ({ wr with drawn := wr.drawn + 1 } : World) = wd at Rp Bq Ov Or ⊢
      refine takeH 0 50 (.pointer (some ⟨q, 0, none⟩)) rfl rfl (by kernel_rfl) (by kernel_rfl) (by kernel_rfl) (fun c a w h => h) (.inl ⟨rfl, fun w _ => rfl⟩) (anyW _) ?_
      simp only [List.setIfInBounds_toArray, List.set_cons_zero, List.set_cons_succ]
      refine takeH 1 51 (.pointer (some ⟨q, 0, none⟩)) rfl rfl (by kernel_rfl) (by kernel_rfl) (by kernel_rfl) (fun c a w h => h) (.inl ⟨rfl, fun w _ => rfl⟩) (anyW _) ?_
      simp only [List.setIfInBounds_toArray, List.set_cons_zero, List.set_cons_succ]
      refine takeH 2 52 (.pointer (some ⟨q, 0, none⟩)) rfl rfl (by kernel_rfl) (by kernel_rfl) (by kernel_rfl) (fun c a w h => h) (.inl ⟨rfl, fun w _ => by go_simp⟩) (anyW _) ?_
      simp only [List.setIfInBounds_toArray, List.set_cons_zero, List.set_cons_succ]
      refine takeH 3 53 (.pointer (some ⟨q, 10, none⟩)) rfl rfl (by kernel_rfl) (by kernel_rfl) (by kernel_rfl) (fun c a w h => h) (.inl ⟨rfl, fun w _ => by go_simp⟩) (anyW _) ?_
      simp only [List.setIfInBounds_toArray, List.set_cons_zero, List.set_cons_succ]
      refine takeH 5 55 (.pointer (some ⟨p, 0, none⟩)) rfl rfl (by kernel_rfl) (by kernel_rfl) (by kernel_rfl) (fun c a w h => h) (.inl ⟨rfl, fun w _ => rfl⟩) (anyW _) ?_
      simp only [List.setIfInBounds_toArray, List.set_cons_zero, List.set_cons_succ]
      refine takeH 6 56 (.int .i64 dk) rfl rfl (by kernel_rfl) (by kernel_rfl) (by kernel_rfl) (fun c a w h => h) (.inl ⟨rfl, fun w _ => rfl⟩) (anyW _) ?_
      simp only [List.setIfInBounds_toArray, List.set_cons_zero, List.set_cons_succ]
      refine wpAnyH_all (rs := [4, 7]) (by kernel_rfl) (by simp) (fun i hi => ?_)
      simp only [List.mem_cons, List.not_mem_nil, or_false] at hi
      rcases hi with rfl | rfl
      · skip
        refine wpOp_doG 4 (by rfl) (by rfl) ?_
        have c10 := Bq.cell 10 va rfl
        go_wp2_with fail
        clear c10
        refine ⟨anyW _, ?_⟩
        refine wpAnyH_all (rs := [7]) (by kernel_rfl) (by simp) (fun i hi => ?_)
        obtain rfl : i = 7 := by simpa using hi
        refine wpOp_doG 7 (by rfl) (by rfl) ?_
        go_wp2_with fail
        refine (rd_taken p _ _ dk _ Rp (HSm.out k)).mono ?_
        rintro e z1 ⟨rfl, Rp1, oz⟩
        have Bq1 := Bq.oth oz (by omega) (by omega)
        obtain ⟨_, Bp⟩ := Rp.blk
        have Ov1 := OwnV.oth Ov oz Bp (by decide)
        have Or1 := Or.trans oz.mono
        clear Bq Ov Or Rp Bp oz
        refine ⟨anyW _, ?_⟩
        refine wpAnyH_all (rs := [8]) (by kernel_rfl) (by simp) (fun i hi => ?_)
        obtain rfl : i = 8 := by simpa using hi
        refine wpOp_doG 8 (by rfl) (by rfl) ?_
        go_wp2_with fail
        have hv1 : VSl (z1.alloc (.cells #[.int .i64 (vOf (L3.drop k)).1, .int .i64 (vOf (L3.drop k)).2.1, .string (vOf (L3.drop k)).2.2] 34)) (.slice (some ⟨z1.heap.size, 0, none⟩) 1 1) [vOf (L3.drop k)] := vsl_one z1 (vOf (L3.drop k))
        have bz : Below z1.heap.size z1 (z1.alloc (.cells #[.int .i64 (vOf (L3.drop k)).1, .int .i64 (vOf (L3.drop k)).2.1, .string (vOf (L3.drop k)).2.2] 34)) := below_more (Below.refl _ _) _
        have Rp2 := Rp1.later bz
        have Bq2 := Bq1.later bz
        have Ov2 := Ov1.later bz
        have Or2 := Or1.trans (.of_below bz)
        have hz1 : w10.heap.size ≤ z1.heap.size := Or1.size
        clear Rp1 Bq1 Ov1 Or1
        generalize z1.alloc (.cells #[.int .i64 (vOf (L3.drop k)).1, .int .i64 (vOf (L3.drop k)).2.1, .string (vOf (L3.drop k)).2.2] 34) = z2 at hv1 bz Rp2 Bq2 Ov2 Or2 ⊢
        refine ⟨anyW _, ?_⟩
        refine wpAnyH_all (rs := [9]) (by kernel_rfl) (by simp) (fun i hi => ?_)
        obtain rfl : i = 9 := by simpa using hi
        refine wpOp_doG 9 (by rfl) (by rfl) ?_
        refine wp_appendV1 (.tmp 54) (.tmp 58) rfl w10.heap.size va (aV L3 k) rfl Ov2 z1.heap.size (vOf (L3.drop k)) rfl hv1 (by rw [aV_len]; omega) (Nat.le_trans hz1 bz.size) ?_
        intro g cap z3 Ov3 hgr
        refine ⟨anyW _, ?_⟩
        have Rp3 := Rp2.kept hgr (fun g' hg' => (by have := (Ov2.lt g' hg').1; have := HLT.out; omega))
        have Bq3 := Bq2.kept hgr (Bq2.not_row (by decide) Ov2)
        have Or3 := oth_grown Or2 Ov2 hgr (Nat.le_refl _)
        rw [← aV_succ] at Ov3
        clear Rp2 Bq2 Ov2 Or2 hgr hv1
        refine takeH 10 60 (.pointer (some ⟨q, 0, none⟩)) rfl rfl (by kernel_rfl) (by kernel_rfl) (by kernel_rfl) (fun c a w h => h) (.inl ⟨rfl, fun w _ => by go_simp⟩) (anyW _) ?_
        simp only [List.setIfInBounds_toArray, List.set_cons_zero, List.set_cons_succ]
        refine takeH 11 61 (.pointer (some ⟨q, 10, none⟩)) rfl rfl (by kernel_rfl) (by kernel_rfl) (by kernel_rfl) (fun c a w h => h) (.inl ⟨rfl, fun w _ => by go_simp⟩) (anyW _) ?_
        simp only [List.setIfInBounds_toArray, List.set_cons_zero, List.set_cons_succ]
        refine wpAnyH_all (rs := [12]) (by kernel_rfl) (by simp) (fun i hi => ?_)
        obtain rfl : i = 12 := by simpa using hi
        refine wpOp_doG 12 (by rfl) (by rfl) ?_
        refine wpo_storeC 35 (.tmp 61) (.tmp 59) q 10 (.slice (some ⟨g, 0, none⟩) ((aV L3 k).length + 1) cap) (evC X va nilS) 37 sizeVs (show 10 < 14 by decide) rfl rfl rfl rfl rfl Bq3 ?_
        intro z4 Bq4 oz4
        refine ⟨anyW _, ?_⟩
        replace Bq4 : Blk z4 q (evC X (.slice (some ⟨g, 0, none⟩) ((aV L3 k).length + 1) cap) nilS) 37 := Bq4
        have Rp4 := Rp3.oth oz4 hpq
        have Ov4 := OwnV.oth Ov3 oz4 Bq3 (by decide)
        have Or4 := Or3.trans oz4.mono'
        clear Bq3 Rp3 Ov3 Or3 oz4
        refine wpAnyH_done (by kernel_rfl) ?_ _
        show K8 _ _
        apply hK8
        clear hK8
        go_wp2
        go_roundw
        case rel =>
          have e1 : aF (cD L) f3 L3 (k + 1) = tkF dk (aF (cD L) f3 L3 k) (L3.drop k) := by
            show tkF (nth (cD L) k) _ _ = _
            rw [HDK.out]
          refine ⟨k + 1, by omega, by go_num, ⟨_, ?_, Bq4, Ov4, Or4⟩⟩
          rw [e1, ← List.tail_drop]; exact Rp4
        case measure => simp [intOf]; omega
      · skip
        refine wpOp_doG 7 (by rfl) (by rfl) ?_
        go_wp2_with fail
        refine (rd_taken p _ _ dk _ Rp (HSm.out k)).mono ?_
        rintro e z1 ⟨rfl, Rp1, oz⟩
        have Bq1 := Bq.oth oz (by omega) (by omega)
        obtain ⟨_, Bp⟩ := Rp.blk
        have Ov1 := OwnV.oth Ov oz Bp (by decide)
        have Or1 := Or.trans oz.mono
        clear Bq Ov Or Rp Bp oz
        refine ⟨anyW _, ?_⟩
        refine wpAnyH_all (rs := [4, 8]) (by kernel_rfl) (by simp) (fun i hi => ?_)
        simp only [List.mem_cons, List.not_mem_nil, or_false] at hi
        rcases hi with rfl | rfl
        · skip
          refine wpOp_doG 4 (by rfl) (by rfl) ?_
          have c10 := Bq1.cell 10 va rfl
          go_wp2_with fail
          clear c10
          refine ⟨anyW _, ?_⟩
          refine wpAnyH_all (rs := [8]) (by kernel_rfl) (by simp) (fun i hi => ?_)
          obtain rfl : i = 8 := by simpa using hi
          refine wpOp_doG 8 (by rfl) (by rfl) ?_
          go_wp2_with fail
          have hv1 : VSl (z1.alloc (.cells #[.int .i64 (vOf (L3.drop k)).1, .int .i64 (vOf (L3.drop k)).2.1, .string (vOf (L3.drop k)).2.2] 34)) (.slice (some ⟨z1.heap.size, 0, none⟩) 1 1) [vOf (L3.drop k)] := vsl_one z1 (vOf (L3.drop k))
          have bz : Below z1.heap.size z1 (z1.alloc (.cells #[.int .i64 (vOf (L3.drop k)).1, .int .i64 (vOf (L3.drop k)).2.1, .string (vOf (L3.drop k)).2.2] 34)) := below_more (Below.refl _ _) _
          have Rp2 := Rp1.later bz
          have Bq2 := Bq1.later bz
          have Ov2 := Ov1.later bz
          have Or2 := Or1.trans (.of_below bz)
          have hz1 : w10.heap.size ≤ z1.heap.size := Or1.size
          clear Rp1 Bq1 Ov1 Or1
          generalize z1.alloc (.cells #[.int .i64 (vOf (L3.drop k)).1, .int .i64 (vOf (L3.drop k)).2.1, .string (vOf (L3.drop k)).2.2] 34) = z2 at hv1 bz Rp2 Bq2 Ov2 Or2 ⊢
          refine ⟨anyW _, ?_⟩
          refine wpAnyH_all (rs := [9]) (by kernel_rfl) (by simp) (fun i hi => ?_)
          obtain rfl : i = 9 := by simpa using hi
          refine wpOp_doG 9 (by rfl) (by rfl) ?_
          refine wp_appendV1 (.tmp 54) (.tmp 58) rfl w10.heap.size va (aV L3 k) rfl Ov2 z1.heap.size (vOf (L3.drop k)) rfl hv1 (by rw [aV_len]; omega) (Nat.le_trans hz1 bz.size) ?_
          intro g cap z3 Ov3 hgr
          refine ⟨anyW _, ?_⟩
          have Rp3 := Rp2.kept hgr (fun g' hg' => (by have := (Ov2.lt g' hg').1; have := HLT.out; omega))
          have Bq3 := Bq2.kept hgr (Bq2.not_row (by decide) Ov2)
          have Or3 := oth_grown Or2 Ov2 hgr (Nat.le_refl _)
          rw [← aV_succ] at Ov3
          clear Rp2 Bq2 Ov2 Or2 hgr hv1
          refine takeH 10 60 (.pointer (some ⟨q, 0, none⟩)) rfl rfl (by kernel_rfl) (by kernel_rfl) (by kernel_rfl) (fun c a w h => h) (.inl ⟨rfl, fun w _ => by go_simp⟩) (anyW _) ?_
          simp only [List.setIfInBounds_toArray, List.set_cons_zero, List.set_cons_succ]
          refine takeH 11 61 (.pointer (some ⟨q, 10, none⟩)) rfl rfl (by kernel_rfl) (by kernel_rfl) (by kernel_rfl) (fun c a w h => h) (.inl ⟨rfl, fun w _ => by go_simp⟩) (anyW _) ?_
          simp only [List.setIfInBounds_toArray, List.set_cons_zero, List.set_cons_succ]
          refine wpAnyH_all (rs := [12]) (by kernel_rfl) (by simp) (fun i hi => ?_)
          obtain rfl : i = 12 := by simpa using hi
          refine wpOp_doG 12 (by rfl) (by rfl) ?_
          refine wpo_storeC 35 (.tmp 61) (.tmp 59) q 10 (.slice (some ⟨g, 0, none⟩) ((aV L3 k).length + 1) cap) (evC X va nilS) 37 sizeVs (show 10 < 14 by decide) rfl rfl rfl rfl rfl Bq3 ?_
          intro z4 Bq4 oz4
          refine ⟨anyW _, ?_⟩
          replace Bq4 : Blk z4 q (evC X (.slice (some ⟨g, 0, none⟩) ((aV L3 k).length + 1) cap) nilS) 37 := Bq4
          have Rp4 := Rp3.oth oz4 hpq
          have Ov4 := OwnV.oth Ov3 oz4 Bq3 (by decide)
          have Or4 := Or3.trans oz4.mono'
          clear Bq3 Rp3 Ov3 Or3 oz4
          refine wpAnyH_done (by kernel_rfl) ?_ _
          show K8 _ _
          apply hK8
          clear hK8
          go_wp2
          go_roundw
          case rel =>
            have e1 : aF (cD L) f3 L3 (k + 1) = tkF dk (aF (cD L) f3 L3 k) (L3.drop k) := by
              show tkF (nth (cD L) k) _ _ = _
              rw [HDK.out]
            refine ⟨k + 1, by omega, by go_num, ⟨_, ?_, Bq4, Ov4, Or4⟩⟩
            rw [e1, ← List.tail_drop]; exact Rp4
          case measure => simp [intOf]; omega
        · skip
          refine wpOp_doG 8 (by rfl) (by rfl) ?_
          go_wp2_with fail
          have hv1 : VSl (z1.alloc (.cells #[.int .i64 (vOf (L3.drop k)).1, .int .i64 (vOf (L3.drop k)).2.1, .string (vOf (L3.drop k)).2.2] 34)) (.slice (some ⟨z1.heap.size, 0, none⟩) 1 1) [vOf (L3.drop k)] := vsl_one z1 (vOf (L3.drop k))
          have bz : Below z1.heap.size z1 (z1.alloc (.cells #[.int .i64 (vOf (L3.drop k)).1, .int .i64 (vOf (L3.drop k)).2.1, .string (vOf (L3.drop k)).2.2] 34)) := below_more (Below.refl _ _) _
          have Rp2 := Rp1.later bz
          have Bq2 := Bq1.later bz
          have Ov2 := Ov1.later bz
          have Or2 := Or1.trans (.of_below bz)
          have hz1 : w10.heap.size ≤ z1.heap.size := Or1.size
          clear Rp1 Bq1 Ov1 Or1
          generalize z1.alloc (.cells #[.int .i64 (vOf (L3.drop k)).1, .int .i64 (vOf (L3.drop k)).2.1, .string (vOf (L3.drop k)).2.2] 34) = z2 at hv1 bz Rp2 Bq2 Ov2 Or2 ⊢
          refine ⟨anyW _, ?_⟩
          refine wpAnyH_all (rs := [4]) (by kernel_rfl) (by simp) (fun i hi => ?_)
          obtain rfl : i = 4 := by simpa using hi
          refine wpOp_doG 4 (by rfl) (by rfl) ?_
          have c10 := Bq2.cell 10 va rfl
          go_wp2_with fail
          clear c10
          refine ⟨anyW _, ?_⟩
          refine wpAnyH_all (rs := [9]) (by kernel_rfl) (by simp) (fun i hi => ?_)
          obtain rfl : i = 9 := by simpa using hi
          refine wpOp_doG 9 (by rfl) (by rfl) ?_
          refine wp_appendV1 (.tmp 54) (.tmp 58) rfl w10.heap.size va (aV L3 k) rfl Ov2 z1.heap.size (vOf (L3.drop k)) rfl hv1 (by rw [aV_len]; omega) (Nat.le_trans hz1 bz.size) ?_
          intro g cap z3 Ov3 hgr
          refine ⟨anyW _, ?_⟩
          have Rp3 := Rp2.kept hgr (fun g' hg' => (by have := (Ov2.lt g' hg').1; have := HLT.out; omega))
          have Bq3 := Bq2.kept hgr (Bq2.not_row (by decide) Ov2)
          have Or3 := oth_grown Or2 Ov2 hgr (Nat.le_refl _)
          rw [← aV_succ] at Ov3
          clear Rp2 Bq2 Ov2 Or2 hgr hv1
          refine takeH 10 60 (.pointer (some ⟨q, 0, none⟩)) rfl rfl (by kernel_rfl) (by kernel_rfl) (by kernel_rfl) (fun c a w h => h) (.inl ⟨rfl, fun w _ => by go_simp⟩) (anyW _) ?_
          simp only [List.setIfInBounds_toArray, List.set_cons_zero, List.set_cons_succ]
          refine takeH 11 61 (.pointer (some ⟨q, 10, none⟩)) rfl rfl (by kernel_rfl) (by kernel_rfl) (by kernel_rfl) (fun c a w h => h) (.inl ⟨rfl, fun w _ => by go_simp⟩) (anyW _) ?_
          simp only [List.setIfInBounds_toArray, List.set_cons_zero, List.set_cons_succ]
          refine wpAnyH_all (rs := [12]) (by kernel_rfl) (by simp) (fun i hi => ?_)
          obtain rfl : i = 12 := by simpa using hi
          refine wpOp_doG 12 (by rfl) (by rfl) ?_
          refine wpo_storeC 35 (.tmp 61) (.tmp 59) q 10 (.slice (some ⟨g, 0, none⟩) ((aV L3 k).length + 1) cap) (evC X va nilS) 37 sizeVs (show 10 < 14 by decide) rfl rfl rfl rfl rfl Bq3 ?_
          intro z4 Bq4 oz4
          refine ⟨anyW _, ?_⟩
          replace Bq4 : Blk z4 q (evC X (.slice (some ⟨g, 0, none⟩) ((aV L3 k).length + 1) cap) nilS) 37 := Bq4
          have Rp4 := Rp3.oth oz4 hpq
          have Ov4 := OwnV.oth Ov3 oz4 Bq3 (by decide)
          have Or4 := Or3.trans oz4.mono'
          clear Bq3 Rp3 Ov3 Or3 oz4
          refine wpAnyH_done (by kernel_rfl) ?_ _
          show K8 _ _
          apply hK8
          clear hK8
          go_wp2
          go_roundw
          case rel =>
            have e1 : aF (cD L) f3 L3 (k + 1) = tkF dk (aF (cD L) f3 L3 k) (L3.drop k) := by
              show tkF (nth (cD L) k) _ _ = _
              rw [HDK.out]
            refine ⟨k + 1, by omega, by go_num, ⟨_, ?_, Bq4, Ov4, Or4⟩⟩
            rw [e1, ← List.tail_drop]; exact Rp4
          case measure => simp [intOf]; omega
    · have e : k = n := by omega
      subst e
      go_wp2
      go_returns
      obtain ⟨va, Rp, Bq, Ov, Or⟩ := HI.out
      obtain ⟨e1, e2, e3, e4⟩ := HH.out
      subst e1 e2 e3 e4
      exact ⟨va, rfl, Rp, Bq, OwnV.base Ov HO10.out.size, HO10.out.trans Or⟩
end Go.Proofs.YtdhlheilgagcpaaGreatDoor
