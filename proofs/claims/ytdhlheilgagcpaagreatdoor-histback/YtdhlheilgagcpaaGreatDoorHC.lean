/- The contract of the program's Parse of a history. Conditions: the tables lie in memory; at most 10^9 bytes, each line at most 900,000. -/
import Derived.Test.YtdhlheilgagcpaaGreatDoorHM
import Derived.Test.YtdhlheilgagcpaaGreatDoorBH
import Derived.Test.YtdhlheilgagcpaaGreatDoorBK
import Derived.WalkMore
namespace Go.Proofs.YtdhlheilgagcpaaGreatDoor
open Go.RowKit Go.PlainAid Ln
set_option linter.unusedVariables false
set_option linter.unusedSimpArgs false

/-- a function whose first result lies in a slot, the second in a block of its own -/
theorem ret_tblk {P : Program} {fn : Func} {R : Ending → World → Prop} {a : Act} {w : World} {p u : Tmp} {ty : TypeId} (h : fn.results = #[.tmp u, .cell p ty]) (g : Nat) (c : List Value) (t : TypeId) (d : TypeDesc) (v : Value)
    (hu : P.underlying ty = some d) (hd : d.isRow = true) (hi : (P.info? ty).map (·.size) = some c.length)
    (hp : a.tmps.getD p undef = .pointer (some ⟨g, 0, none⟩)) (hr : Blk w g c t) (hv : a.tmps.getD u undef = v) (hdef : a.defers = []) (hR : R (.returned (.tuple #[v, .agg c.toArray])) w) : bodyPost P fn R .ret a w := by
  refine bodyPost_ret (v := .tuple #[v, .agg c.toArray]) ?_ hdef hR
  have hp' : a.tmps[p]?.getD undef = .pointer (some ⟨g, 0, none⟩) := by simpa using hp
  have hv' : a.tmps[u]?.getD undef = v := by simpa using hv
  have hl : (loadVar ty ⟨g, 0, none⟩).run P w = .ok (.agg c.toArray) w := by
    refine run_loadVar_row w g t ty c.toArray (0, 0) d hr hu ?_ (by simpa using hi)
    cases d <;> simp_all [TypeDesc.isRow]
  simp [results, h, hp', hv', asAddr, hl]
theorem sizeF : (Tryz.prog.info? 26).map (·.size) = some 2 := by kernel_rfl
theorem OwnY.base {w : World} {B B' : Nat} {v : Value} {ys : List YE} (h : OwnY w B v ys) (hB : B' ≤ B) : OwnY w B' v ys := by
  obtain ⟨h1, h2⟩ := h
  refine ⟨h1, h2.imp id ?_⟩
  rintro ⟨g, cap, cur, e, hb, r⟩
  exact ⟨g, cap, cur, e, Nat.le_trans hB hb, r⟩
theorem OwnL.base {w : World} {B B' : Nat} {ys : List YE} (h : OwnL w B ys) (hB : B' ≤ B) : OwnL w B' ys := fun i hi => ⟨(h i hi).1.base hB, (h i hi).2.base hB⟩
theorem OwnV.oneC {w : World} {B : Nat} {v : Value} {xs : List Val} (h : OwnV w B v xs) : v.oneCell' = true := by obtain ⟨a1, c1, e1⟩ := h.form; rw [e1]; rfl
theorem OwnY.oth {w w' : World} {B p : Nat} {v : Value} {ys : List YE} {c : List Value} {t : TypeId} (h : OwnY w B v ys) (ho : Oth p p w w') (hb : Blk w p c t) (ht : t ≠ 37) : OwnY w' B v ys :=
  World.ownsRow.kept h ho.grown (.inr (Ne.symm (hb.not_row ht h)))
theorem OwnL.oth {w w' : World} {B p : Nat} {ys : List YE} {c : List Value} {t : TypeId} (h : OwnL w B ys) (ho : Oth p p w w') (hb : Blk w p c t) (ht : t ≠ 34) : OwnL w' B ys := fun i hi => ⟨(h i hi).1.oth ho hb ht, (h i hi).2.oth ho hb ht⟩
/-- what the program's Parse hands back of a text -/
def PHist (w : World) (t : List UInt8) (e : Ending) (w' : World) : Prop :=
  ∃ v ys, e = .returned (.tuple #[v, .agg #[.int .i64 (hR t).2.1, .int .i64 (hR t).2.2]]) ∧ ys.map (·.1) = (hR t).1 ∧ OwnY w' w.heap.size v ys ∧ OwnL w' w.heap.size ys ∧ (ys.length = 0 → v = nilS) ∧ Below w.heap.size w w'
theorem phist_none {w w' : World} {t : List UInt8} {c n : Int} (h : hR t = ([], c, n)) (hb : Below w.heap.size w w') : PHist w t (.returned (.tuple #[nilS, .agg #[.int .i64 c, .int .i64 n]])) w' :=
  ⟨nilS, [], by rw [h], by rw [h]; rfl, OwnY.nil _ _, OwnL.nil _ _, fun _ => rfl, hb⟩
theorem phist_some {w w' : World} {t : List UInt8} {v : Value} {ys : List YE} (h : hR t = (ys.map (·.1), 0, 0)) (h1 : OwnY w' w.heap.size v ys) (h2 : OwnL w' w.heap.size ys) (h3 : ys.length = 0 → v = nilS) (hb : Below w.heap.size w w') : PHist w t (.returned (.tuple #[v, .agg #[.int .i64 0, .int .i64 0]])) w' :=
  ⟨v, ys, by rw [h], by rw [h], h1, h2, h3, hb⟩
theorem nt_le {L : List (List UInt8)} {m : Nat} (h : ∀ l ∈ L, l.length ≤ m) {k : Nat} (hk : k < L.length) : (nt L k).length ≤ m := h _ (nt_in hk)

set_option maxRecDepth 100000 in
set_option maxHeartbeats 8000000 in
theorem hparse_any (s : ByteArray) (w : World) (ht : Tbs w) (hz : s.size ≤ 1000000000) (hl : ∀ l ∈ (cutL 10 (tx s)).1, l.length ≤ 900000) :
    Calls Tryz.prog 6 #[.string s] w fun e w' => PHist w (tx s) e w' := by
  have HT : Hid (Tbs w) := ht
  have HL : Hid (∀ l ∈ (cutL 10 (tx s)).1, l.length ≤ 900000) := hl
  have HLn : Hid ((cutL 10 (tx s)).1.length ≤ 1000000000) := by show _ ≤ _; have := cutL_count 10 (tx s); rw [tx_len] at this; omega
  have hS := split_any s hz
  clear ht hl
  go_enter Tryz.func6, Tryz.ntmps6
  go_wp2_with fail
  have R1 : Blk (w.alloc (.cells #[.int .i64 0, .int .i64 0] 26)) w.heap.size [.int .i64 0, .int .i64 0] 26 := Blk.new w [.int .i64 0, .int .i64 0] 26
  have Hb1 : Hid (Below w.heap.size w (w.alloc (.cells #[.int .i64 0, .int .i64 0] 26))) := below_more (Below.refl _ _) _
  obtain ⟨r, hr⟩ : ∃ r, w.heap.size = r := ⟨_, rfl⟩
  have HR : Hid (w.heap.size = r) := hr
  rw [hr] at R1
  simp only [hr]
  generalize w.alloc (.cells #[.int .i64 0, .int .i64 0] 26) = w1 at R1 Hb1 ⊢
  clear hr
  first | go_step3 | skip
  go_wp2_with fail
  refine (hS w1).mono ?_
  clear hS
  rintro e w2 ⟨v, hb2, ⟨hr0, rfl, hv⟩ | ⟨hr0, rfl⟩⟩
  · have HRest : Hid ((cutL 10 (tx s)).2 = []) := hr0
    have HV0 : Hid (SSl w2 v (cutL 10 (tx s)).1) := hv
    obtain ⟨a, c, rfl, _, _, _⟩ := hv.form
    have R2 := R1.later hb2
    have Hb2 : Hid (Below w.heap.size w w2) := below_next Hb1.out hb2
    clear hv hr0 hb2 R1
    go_wp2_with fail
    have HV : Hid (SSl (w2.alloc (.cells #[.int .i64 0, .int .i64 0] 26)) (.slice a (cutL 10 (tx s)).1.length c) (cutL 10 (tx s)).1) := HV0.out.later (below_more (Below.refl _ _) _)
    have HRr : Hid (Blk (w2.alloc (.cells #[.int .i64 0, .int .i64 0] 26)) r [.int .i64 0, .int .i64 0] 26) := R2.alloc _
    have Hb3 : Hid (Below w.heap.size w (w2.alloc (.cells #[.int .i64 0, .int .i64 0] 26))) := below_more Hb2.out _
    generalize w2.alloc (.cells #[.int .i64 0, .int .i64 0] 26) = w3 at HV HRr Hb3 ⊢
    clear HV0 R2 Hb2 Hb1
    have HRbad : Hid (∀ k, k < (cutL 10 (tx s)).1.length → okTo (cutL 10 (tx s)).1 k → cdE (cutL 10 (tx s)).1 k ≠ 0 → hR (tx s) = ([], cdE (cutL 10 (tx s)).1 k, (k : Int) + 1)) := fun k h1 h2 h3 => hR_bad HRest.out h1 h2 h3
    have HRok : Hid (okTo (cutL 10 (tx s)).1 (cutL 10 (tx s)).1.length → hR (tx s) = (evs (cutL 10 (tx s)).1, 0, 0)) := fun h => hR_ok HRest.out h
    clear HRest
    generalize (cutL 10 (tx s)).1 = L at *
    go_step3
    go_wp2_with fail
    go_loopw [6, 7, 23] (fun v f i wr => ∃ (k : Nat) (ys : List YE), k ≤ L.length ∧ f = .int .i64 0 ∧ i = .int .i64 (k : Int) ∧ ys.length = k ∧ ys.map (·.1) = evs (L.take k) ∧ okTo L k ∧ (k = 0 → v = nilS) ∧ OwnY wr w3.heap.size v ys ∧ OwnL wr w3.heap.size ys ∧ Below w3.heap.size w3 wr) (fun v f i wr => L.length - (intOf i).toNat)
    case atStart => exact ⟨0, [], Nat.zero_le _, rfl, rfl, rfl, rfl, fun i hi => absurd hi (Nat.not_lt_zero i), fun _ => rfl, OwnY.nil _ _, OwnL.nil _ _, Below.refl _ _⟩
    case round =>
      obtain ⟨k, ys, hk, rfl, rfl, hyl, hev, hok, hnl, hown, hol, hb⟩ := hrel
      have HN : Hid (k = 0 → u6 = nilS) := hnl
      have HE : Hid (ys.map (·.1) = evs (L.take k)) := hev
      have HO : Hid (okTo L k) := hok
      have HOw : Hid (OwnY wr w3.heap.size u6 ys) := hown
      have HOl : Hid (OwnL wr w3.heap.size ys) := hol
      have HB : Hid (Below w3.heap.size w3 wr) := hb
      have HY : Hid (ys.length = k) := hyl
      obtain ⟨av, cv, hform⟩ := hown.form
      rw [hyl] at hform
      subst hform
      have hk4 := okTo_lt hok
      clear hev hok hnl hown hol hb hyl
      by_cases hlt : k < L.length
      · have hlt' : (k : Int) < (L.length : Int) := by omega
        obtain ⟨b, o, rfl, hbl⟩ := HV.out.block (by omega)
        have hcell := (HV.out.later HB.out).cell (i := k) hlt
        have Hbw : Hid (Below w.heap.size w wr) := below_next Hb3.out HB.out
        have hP := eparse_any (bs (nt L k)) wr (HT.out.later Hbw.out) (by rw [bs_size]; exact nt_le HL.out hlt)
        unfold RParse at hP
        rw [tx_bs] at hP
        obtain ⟨X, hX⟩ : ∃ X, (pE (nt L k)).1 = X := ⟨_, rfl⟩
        obtain ⟨F, hF⟩ : ∃ F, (pE (nt L k)).2 = F := ⟨_, rfl⟩
        rw [hX, hF] at hP
        have HX : Hid ((pE (nt L k)).1 = X) := hX
        have HF : Hid ((pE (nt L k)).2 = F) := hF
        clear hX hF
        go_wp2_with fail
        refine hP.mono ?_
        rintro e w4 ⟨ua, ur, rfl, uax, urx, b4⟩
        clear hP hcell hbl
        have C1 : Blk (w4.alloc (.cells #[.int .i64 0, .int .i64 0, .int .i64 0, .string ⟨#[]⟩, .int .i64 0, .int .i64 0, .int .i64 0, .int .i64 0, .string ⟨#[]⟩, .int .i64 0, .slice none 0 0, .slice none 0 0, .bool false, .string ⟨#[]⟩] 37)) w4.heap.size (evC noEv nilS nilS) 37 := Blk.new w4 (evC noEv nilS nilS) 37
        have U0 : Hid (OwnV (w4.alloc (.cells #[.int .i64 0, .int .i64 0, .int .i64 0, .string ⟨#[]⟩, .int .i64 0, .int .i64 0, .int .i64 0, .int .i64 0, .string ⟨#[]⟩, .int .i64 0, .slice none 0 0, .slice none 0 0, .bool false, .string ⟨#[]⟩] 37)) wr.heap.size ua X.a ∧ OwnV (w4.alloc (.cells #[.int .i64 0, .int .i64 0, .int .i64 0, .string ⟨#[]⟩, .int .i64 0, .int .i64 0, .int .i64 0, .int .i64 0, .string ⟨#[]⟩, .int .i64 0, .slice none 0 0, .slice none 0 0, .bool false, .string ⟨#[]⟩] 37)) wr.heap.size ur X.r) := ⟨uax.later (below_more (Below.refl _ _) _), urx.later (below_more (Below.refl _ _) _)⟩
        have HU1 : Hid (ua.oneCell' = true ∧ ur.oneCell' = true) := ⟨uax.oneC, urx.oneC⟩
        have Hb4 : Hid (Below wr.heap.size wr (w4.alloc (.cells #[.int .i64 0, .int .i64 0, .int .i64 0, .string ⟨#[]⟩, .int .i64 0, .int .i64 0, .int .i64 0, .int .i64 0, .string ⟨#[]⟩, .int .i64 0, .slice none 0 0, .slice none 0 0, .bool false, .string ⟨#[]⟩] 37))) := below_more b4 _
        have hq4 : Hid (wr.heap.size ≤ w4.heap.size) := b4.size
        clear uax urx b4
        have HS5 : Hid (∀ w5, Below wr.heap.size wr w5 → Blk w5 r [.int .i64 0, .int .i64 0] 26) := fun w5 hb => HRr.out.later (below_next HB.out hb)
        have hrw : Hid (w.heap.size ≤ r) := Nat.le_of_eq HR.out
        by_cases h4 : k = 4096
        · have e4 : ((k : Int) == 4096) = true := by rw [h4]; rfl
          have HC : Hid (hR (tx s) = ([], 5, (k : Int) + 1)) := by
            have hc : cdE L k = 5 := cdE_ge (by omega)
            have := HRbad.out k hlt HO.out (by rw [hc]; decide)
            rw [hc] at this; exact this
          clear h4
          go_wp2_with (first
            | ((with_reducible refine wp_storeB 37 (.tmp 10) (.tmp 30) w4.heap.size 0 (evC X ua ur) (evC noEv nilS nilS) 37 ?_ ?_ (evC_one _ HU1.out.1 HU1.out.2) ?_ ?_ ?_ C1 ?_); (exact sizeE); (exact (show 0 + 14 ≤ 14 by decide)); (exact ⟨rfl, rfl⟩); (exact rfl); (exact rfl); (intro w5 D1 o5); (replace D1 : Blk w5 w4.heap.size (evC X ua ur) 37 := D1); (have HD : Hid (Blk w5 w4.heap.size (evC X ua ur) 37) := D1); (have Hb5 : Hid (Below wr.heap.size wr w5) := below_oth Hb4.out o5 hq4.out hq4.out Hb4.out.size); (have HU : Hid (OwnV w5 wr.heap.size ua X.a ∧ OwnV w5 wr.heap.size ur X.r) := ⟨U0.out.1.oth o5 C1 (by decide), U0.out.2.oth o5 C1 (by decide)⟩); (have R5 := HS5.out w5 Hb5.out); clear C1 D1 o5 U0 Hb4)
            | ((with_reducible refine wp_storeB 26 (.tmp 3) (.tmp 51) r 0 [.int .i64 5, .int .i64 ((k : Int) + 1)] [.int .i64 0, .int .i64 0] 26 ?_ ?_ (by simp [Value.oneCell']) ?_ ?_ ?_ R5 ?_); (exact sizeF); (exact (show 0 + 2 ≤ 2 by decide)); (exact ⟨rfl, rfl⟩); (exact rfl); (exact rfl); (intro wx Rx ox); (replace Rx : Blk wx r [.int .i64 5, .int .i64 ((k : Int) + 1)] 26 := Rx)))
          first | rw [Exit.noGoto_ret] | skip
          refine ret_tblk rfl r [.int .i64 5, .int .i64 ((k : Int) + 1)] 26 _ nilS Tryz.underlying26 rfl sizeF rfl Rx rfl rfl ?_
          exact phist_none HC.out (below_oth (below_next Hbw.out Hb5.out) ox hrw.out hrw.out (below_next Hbw.out Hb5.out).size)
        · have e4 : ((k : Int) == 4096) = false := by simp; omega
          by_cases hF0 : F = 0
          · subst hF0
            go_wp2_with (first
              | ((with_reducible refine wp_storeB 37 (.tmp 10) (.tmp 30) w4.heap.size 0 (evC X ua ur) (evC noEv nilS nilS) 37 ?_ ?_ (evC_one _ HU1.out.1 HU1.out.2) ?_ ?_ ?_ C1 ?_); (exact sizeE); (exact (show 0 + 14 ≤ 14 by decide)); (exact ⟨rfl, rfl⟩); (exact rfl); (exact rfl); (intro w5 D1 o5); (replace D1 : Blk w5 w4.heap.size (evC X ua ur) 37 := D1); (have HD : Hid (Blk w5 w4.heap.size (evC X ua ur) 37) := D1); (have Hb5 : Hid (Below wr.heap.size wr w5) := below_oth Hb4.out o5 hq4.out hq4.out Hb4.out.size); (have HU : Hid (OwnV w5 wr.heap.size ua X.a ∧ OwnV w5 wr.heap.size ur X.r) := ⟨U0.out.1.oth o5 C1 (by decide), U0.out.2.oth o5 C1 (by decide)⟩); (have R5 := HS5.out w5 Hb5.out); clear C1 D1 o5 U0 Hb4)
              | ((with_reducible refine wp_loadB 37 (.tmp 10) w4.heap.size 0 (evC X ua ur) (evC X ua ur) 37 _ Tryz.underlying37 ?_ ?_ ?_ ?_ HD.out (fun j v hv => by rw [Nat.zero_add]; exact hv) ?_); (exact rfl); (exact sizeE); (exact ⟨rfl, rfl⟩); (exact rfl))
              | ((with_reducible refine wpList_buildE ?_ (.tmp 33) ?_ (X, ua, ur) ?_ w5.heap.size ?_ ?_); (exact rfl); (exact rfl); (exact rfl); (exact rfl))
              | (at_builtin; refine wpList_appendE1 rfl (.tmp 32) (.tmp 34) rfl w3.heap.size (.slice av k cv) ys rfl (HOw.out.later (below_more Hb5.out _)) w5.heap.size (X, ua, ur) rfl (Blk.all (Blk.new w5 (encE (X, ua, ur)) 37)) HU1.out (by have := HY.out; omega) (Nat.le_trans HB.out.size (below_more Hb5.out _).size) ?_; intro g6 cap6 w6 o6 gr6; have HO6 : Hid (OwnY w6 w3.heap.size (.slice (some ⟨g6, 0, none⟩) (ys.length + 1) cap6) (ys ++ [(X, ua, ur)])) := o6; have HB6 : Hid (Below w3.heap.size w3 w6) := Below.grown (below_next HB.out (below_more Hb5.out _)) gr6 (Nat.le_trans HB.out.size (below_more Hb5.out _).size) (fun q h => (HOw.out.lt q h).1); have HL6 : Hid (OwnL w6 w3.heap.size (ys ++ [(X, ua, ur)])) := OwnL.snoc ((HOl.out.later (below_more Hb5.out _)).grown (HOw.out.later (below_more Hb5.out _)) gr6) (((HU.out.1.later (below_more (Below.refl _ _) _)).base HB.out.size).grownY (HOw.out.later (below_more Hb5.out _)) gr6) (((HU.out.2.later (below_more (Below.refl _ _) _)).base HB.out.size).grownY (HOw.out.later (below_more Hb5.out _)) gr6); clear o6 gr6))
            go_roundw
            case rel => exact ⟨k + 1, ys ++ [(X, ua, ur)], by omega, rfl, by go_num, by simp [HY.out], by rw [List.map_append, HE.out, evs_take L k hlt, HX.out]; rfl, okTo_succ HO.out (by rw [cdE_lt (by omega), HF.out]), fun h => absurd h (Nat.succ_ne_zero k), HO6.out, HL6.out, HB6.out⟩
            case measure => simp [intOf]; omega
          · have eF : (F != 0) = true := by simp [hF0]
            have HC : Hid (hR (tx s) = ([], F, (k : Int) + 1)) := by
              have hc : cdE L k = F := by rw [cdE_lt (by omega), HF.out]
              have := HRbad.out k hlt HO.out (by rw [hc]; exact hF0)
              rw [hc] at this; exact this
            go_wp2_with (first
              | ((with_reducible refine wp_storeB 37 (.tmp 10) (.tmp 30) w4.heap.size 0 (evC X ua ur) (evC noEv nilS nilS) 37 ?_ ?_ (evC_one _ HU1.out.1 HU1.out.2) ?_ ?_ ?_ C1 ?_); (exact sizeE); (exact (show 0 + 14 ≤ 14 by decide)); (exact ⟨rfl, rfl⟩); (exact rfl); (exact rfl); (intro w5 D1 o5); (replace D1 : Blk w5 w4.heap.size (evC X ua ur) 37 := D1); (have HD : Hid (Blk w5 w4.heap.size (evC X ua ur) 37) := D1); (have Hb5 : Hid (Below wr.heap.size wr w5) := below_oth Hb4.out o5 hq4.out hq4.out Hb4.out.size); (have HU : Hid (OwnV w5 wr.heap.size ua X.a ∧ OwnV w5 wr.heap.size ur X.r) := ⟨U0.out.1.oth o5 C1 (by decide), U0.out.2.oth o5 C1 (by decide)⟩); (have R5 := HS5.out w5 Hb5.out); clear C1 D1 o5 U0 Hb4)
              | ((with_reducible refine wp_storeB 26 (.tmp 3) (.tmp 51) r 0 [.int .i64 F, .int .i64 ((k : Int) + 1)] [.int .i64 0, .int .i64 0] 26 ?_ ?_ (by simp [Value.oneCell']) ?_ ?_ ?_ R5 ?_); (exact sizeF); (exact (show 0 + 2 ≤ 2 by decide)); (exact ⟨rfl, rfl⟩); (exact rfl); (exact rfl); (intro wx Rx ox); (replace Rx : Blk wx r [.int .i64 F, .int .i64 ((k : Int) + 1)] 26 := Rx)))
            first | rw [Exit.noGoto_ret] | skip
            refine ret_tblk rfl r [.int .i64 F, .int .i64 ((k : Int) + 1)] 26 _ nilS Tryz.underlying26 rfl sizeF rfl Rx rfl rfl ?_
            exact phist_none HC.out (below_oth (below_next Hbw.out Hb5.out) ox hrw.out hrw.out (below_next Hbw.out Hb5.out).size)
      · have e : k = L.length := by omega
        subst e
        have HC : Hid (hR (tx s) = (ys.map (·.1), 0, 0)) := by
          have := HRok.out HO.out
          rw [List.take_length] at HE
          rw [HE.out]; exact this
        have hrw : Hid (w.heap.size ≤ r) := Nat.le_of_eq HR.out
        have R5 := HRr.out.later HB.out
        have Hbw : Hid (Below w.heap.size w wr) := below_next Hb3.out HB.out
        go_wp2_with ((with_reducible refine wp_storeB 26 (.tmp 3) (.tmp 53) r 0 [.int .i64 0, .int .i64 0] [.int .i64 0, .int .i64 0] 26 ?_ ?_ (by simp [Value.oneCell']) ?_ ?_ ?_ R5 ?_); (exact sizeF); (exact (show 0 + 2 ≤ 2 by decide)); (exact ⟨rfl, rfl⟩); (exact rfl); (exact rfl); (intro wx Rx ox); (replace Rx : Blk wx r [.int .i64 0, .int .i64 0] 26 := Rx))
        first | rw [Exit.noGoto_ret] | skip
        refine ret_tblk rfl r [.int .i64 0, .int .i64 0] 26 _ (.slice av L.length cv) Tryz.underlying26 rfl sizeF rfl Rx rfl rfl ?_
        exact phist_some HC.out ((HOw.out.oth ox R5 (by decide)).base Hb3.out.size) ((HOl.out.oth ox R5 (by decide)).base Hb3.out.size) (fun h => HN.out (by rw [← HY.out]; exact h)) (below_oth Hbw.out ox hrw.out hrw.out Hbw.out.size)
  · have HC : Hid (hR (tx s) = ([], 2, ((cutL 10 (tx s)).1.length : Int) + 1)) := hR_split hr0
    generalize (cutL 10 (tx s)).1.length = n at *
    have R2 := R1.later hb2
    have Hb2 : Hid (Below w.heap.size w w2) := below_next Hb1.out hb2
    have hrw : Hid (w.heap.size ≤ r) := Nat.le_of_eq HR.out
    clear hr0 hb2 R1 HL
    have mixed : Tryz.prog.follows .mixedOrders = true := by kernel_rfl
    go_wp2_with fail
    have P3 : Blk (w2.alloc (.cells #[.int .i64 2, .int .i64 ((n : Int) + 1)] 26)) w2.heap.size [.int .i64 2, .int .i64 ((n : Int) + 1)] 26 := Blk.new w2 [.int .i64 2, .int .i64 ((n : Int) + 1)] 26
    have R3 : Blk (w2.alloc (.cells #[.int .i64 2, .int .i64 ((n : Int) + 1)] 26)) r [.int .i64 0, .int .i64 0] 26 := R2.alloc _
    have Hb3 : Hid (Below w.heap.size w (w2.alloc (.cells #[.int .i64 2, .int .i64 ((n : Int) + 1)] 26))) := below_more Hb2.out _
    have hne : r ≠ w2.heap.size := by have := R2.lt; omega
    generalize w2.heap.size = p at P3 hne ⊢
    generalize w2.alloc (.cells #[.int .i64 2, .int .i64 ((n : Int) + 1)] 26) = w3 at P3 R3 Hb3 ⊢
    clear R2 Hb2
    have P4 := P3.drew
    have R4 := R3.drew
    have Hb4 : Hid (Below w.heap.size w { w3 with drawn := w3.drawn + 1 }) := ⟨Hb3.out.os, Hb3.out.tape, Hb3.out.output, Hb3.out.size, Hb3.out.block⟩
    clear P3 R3 Hb3
    refine wp_region_held (S := fun wx => Blk wx p [.int .i64 2, .int .i64 ((n : Int) + 1)] 26) mixed ?_
    generalize ({ w3 with drawn := w3.drawn + 1 } : World) = w4 at P4 R4 Hb4 ⊢
    refine takeH 0 20 (.agg #[.int .i64 2, .int .i64 ((n : Int) + 1)]) rfl rfl (by kernel_rfl) (by kernel_rfl) (by kernel_rfl) (fun c a w h => h) (yieldsIf_load_mid rfl 26 (.tmp 5) rfl p 0 rfl [.int .i64 2, .int .i64 ((n : Int) + 1)] _ (fun wx hx => hx.all) Tryz.underlying26 rfl sizeF) P4 ?_
    simp only [List.setIfInBounds_toArray, List.set_cons_zero, List.set_cons_succ]
    refine takeH 1 2 (.slice none 0 0) rfl rfl (by kernel_rfl) (by kernel_rfl) (by kernel_rfl) (fun c a w h => h) (.inl ⟨rfl, fun w _ => rfl⟩) P4 ?_
    simp only [List.setIfInBounds_toArray, List.set_cons_zero, List.set_cons_succ]
    refine wpAnyH_all (rs := [2]) (by kernel_rfl) (by simp) (fun i hi => ?_)
    obtain rfl : i = 2 := by simpa using hi
    refine wpOp_doG 2 (by rfl) (by rfl) ?_
    refine wpo_storeB 26 (.tmp 3) (.tmp 20) r 0 [.int .i64 2, .int .i64 ((n : Int) + 1)] [.int .i64 0, .int .i64 0] 26 sizeF (show 0 + 2 ≤ 2 by decide) (by simp [Value.oneCell']) rfl rfl rfl R4 ?_
    intro wx Rx ox
    replace Rx : Blk wx r [.int .i64 2, .int .i64 ((n : Int) + 1)] 26 := Rx
    refine ⟨P4.oth ox (Ne.symm hne) (Ne.symm hne), ?_⟩
    refine wpAnyH_done (by kernel_rfl) ?_ _
    go_wp2_with fail
    first | rw [Exit.noGoto_ret] | skip
    refine ret_tblk rfl r [.int .i64 2, .int .i64 ((n : Int) + 1)] 26 _ nilS Tryz.underlying26 rfl sizeF rfl Rx rfl rfl ?_
    exact phist_none HC.out (below_oth Hb4.out ox hrw.out hrw.out Hb4.out.size)
end Go.Proofs.YtdhlheilgagcpaaGreatDoor
