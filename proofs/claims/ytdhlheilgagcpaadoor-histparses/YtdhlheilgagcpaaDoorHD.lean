/- The contract of the document's Parse of a history. Conditions: at most 900,000 bytes. -/
import Derived.Test.YtdhlheilgagcpaaDoorHC
import Derived.Test.YtdhlheilgagcpaaDoorBL
import Derived.Test.YtdhlheilgagcpaaDoorEU
namespace Go.Proofs.YtdhlheilgagcpaaDoor
open Go.RowKit Go.PlainAid Ln
set_option linter.unusedVariables false
set_option linter.unusedSimpArgs false

/-- what the document's Parse hands back of a text -/
def RHist (w : World) (t : List UInt8) (e : Ending) (w' : World) : Prop :=
  ∃ v ys, e = .returned (.tuple #[v, .int .i64 (hR t).2.1, .int .i64 (hR t).2.2]) ∧ ys.map (·.1) = (hR t).1 ∧ OwnY w' w.heap.size v ys ∧ OwnL w' w.heap.size ys ∧ Below w.heap.size w w'
theorem rhist_none {w w' : World} {t : List UInt8} {c n : Int} (h : hR t = ([], c, n)) (hb : Below w.heap.size w w') : RHist w t (.returned (.tuple #[nilS, .int .i64 c, .int .i64 n])) w' :=
  ⟨nilS, [], by rw [h], by rw [h]; rfl, OwnY.nil _ _, OwnL.nil _ _, hb⟩
theorem rhist_some {w w' : World} {t : List UInt8} {v : Value} {ys : List YE} (h : hR t = (ys.map (·.1), 0, 0)) (h1 : OwnY w' w.heap.size v ys) (h2 : OwnL w' w.heap.size ys) (hb : Below w.heap.size w w') : RHist w t (.returned (.tuple #[v, .int .i64 0, .int .i64 0])) w' :=
  ⟨v, ys, by rw [h], by rw [h], h1, h2, hb⟩
set_option maxRecDepth 100000 in
set_option maxHeartbeats 8000000 in
theorem rparse_h (s : ByteArray) (w : World) (hz : s.size ≤ 900000) :
    Calls Tryd.prog 7 #[.string s] w fun e w' => RHist w (tx s) e w' := by
  have HL : Hid (∀ l ∈ (cutL 10 (tx s)).1, l.length ≤ 900000) := fun l hl => by have := line_le hl; rw [tx_len] at this; omega
  have HLn : Hid ((cutL 10 (tx s)).1.length ≤ 900000) := by show _ ≤ _; have := cutL_count 10 (tx s); rw [tx_len] at this; omega
  have hS := rsplit_any s w hz
  go_enter Tryd.func7, Tryd.ntmps7
  go_wp2_with fail
  refine hS.mono ?_
  clear hS
  rintro e w3 ⟨v, hb2, ⟨hr0, rfl, hv⟩ | ⟨hr0, rfl⟩⟩
  · have HRbad : Hid (∀ k, k < (cutL 10 (tx s)).1.length → okTo (cutL 10 (tx s)).1 k → cdE (cutL 10 (tx s)).1 k ≠ 0 → hR (tx s) = ([], cdE (cutL 10 (tx s)).1 k, (k : Int) + 1)) := fun k h1 h2 h3 => hR_bad hr0 h1 h2 h3
    have HRok : Hid (okTo (cutL 10 (tx s)).1 (cutL 10 (tx s)).1.length → hR (tx s) = (evs (cutL 10 (tx s)).1, 0, 0)) := fun h => hR_ok hr0 h
    have HV : Hid (SSl w3 v (cutL 10 (tx s)).1) := hv
    obtain ⟨a, c, rfl, _, _, _⟩ := hv.form
    have Hb3 : Hid (Below w.heap.size w w3) := hb2
    clear hv hr0 hb2
    generalize (cutL 10 (tx s)).1 = L at *
    go_wp2_with fail
    go_loopw [7, 8] (fun v i wr => ∃ (k : Nat) (ys : List YE), k ≤ L.length ∧ i = .int .i64 (k : Int) ∧ ys.length = k ∧ ys.map (·.1) = evs (L.take k) ∧ okTo L k ∧ OwnY wr w3.heap.size v ys ∧ OwnL wr w3.heap.size ys ∧ Below w3.heap.size w3 wr) (fun v i wr => L.length - (intOf i).toNat)
    case atStart => exact ⟨0, [], Nat.zero_le _, rfl, rfl, rfl, fun i hi => absurd hi (Nat.not_lt_zero i), OwnY.nil _ _, OwnL.nil _ _, Below.refl _ _⟩
    case round =>
      obtain ⟨k, ys, hk, rfl, hyl, hev, hok, hown, hol, hb⟩ := hrel
      have HE : Hid (ys.map (·.1) = evs (L.take k)) := hev
      have HO : Hid (okTo L k) := hok
      have HOw : Hid (OwnY wr w3.heap.size u7 ys) := hown
      have HOl : Hid (OwnL wr w3.heap.size ys) := hol
      have HB : Hid (Below w3.heap.size w3 wr) := hb
      have HY : Hid (ys.length = k) := hyl
      obtain ⟨av, cv, hform⟩ := hown.form
      rw [hyl] at hform
      subst hform
      have hk4 := okTo_lt hok
      have Hbw : Hid (Below w.heap.size w wr) := below_next Hb3.out hb
      clear hev hok hown hol hb hyl
      by_cases hlt : k < L.length
      · have hlt' : (k : Int) < (L.length : Int) := by omega
        by_cases h4 : k = 4096
        · have e4 : (4096 : Int) ≤ (k : Int) := by omega
          have HC : Hid (hR (tx s) = ([], 5, (k : Int) + 1)) := by
            have hc : cdE L k = 5 := cdE_ge (by omega)
            have := HRbad.out k hlt HO.out (by rw [hc]; decide)
            rw [hc] at this; exact this
          clear h4
          go_wp2
          refine bodyPost_ret (v := .tuple #[nilS, .int .i64 5, .int .i64 ((k : Int) + 1)]) (by simp [results, Tryd.f7, go_sem]) rfl ?_
          exact rhist_none HC.out Hbw.out
        have e4 : ¬ (4096 : Int) ≤ (k : Int) := by omega
        obtain ⟨b, o, rfl, hbl⟩ := HV.out.block (by omega)
        have hcell := (HV.out.later HB.out).cell (i := k) hlt
        have hP := rparse_ev (bs (nt L k)) wr (by rw [bs_size]; exact nt_le HL.out hlt)
        unfold RParse at hP
        rw [tx_bs] at hP
        obtain ⟨X, hX⟩ : ∃ X, (pE (nt L k)).1 = X := ⟨_, rfl⟩
        obtain ⟨F, hF⟩ : ∃ F, (pE (nt L k)).2 = F := ⟨_, rfl⟩
        rw [hX, hF] at hP
        have HX : Hid ((pE (nt L k)).1 = X) := hX
        have HF : Hid ((pE (nt L k)).2 = F) := hF
        clear hX hF
        go_wp2_with fail
        refine hP.mono ?_
        rintro e w4 ⟨ua, ur, rfl, uax, urx, b4⟩
        clear hP hcell hbl
        have C1 : Blk (w4.alloc (.cells #[.int .i64 0, .int .i64 0, .int .i64 0, .string ⟨#[]⟩, .int .i64 0, .int .i64 0, .int .i64 0, .int .i64 0, .string ⟨#[]⟩, .int .i64 0, .slice none 0 0, .slice none 0 0, .bool false, .string ⟨#[]⟩] 41)) w4.heap.size (evC noEv nilS nilS) 41 := Blk.new w4 (evC noEv nilS nilS) 41
        have U0 : Hid (OwnV (w4.alloc (.cells #[.int .i64 0, .int .i64 0, .int .i64 0, .string ⟨#[]⟩, .int .i64 0, .int .i64 0, .int .i64 0, .int .i64 0, .string ⟨#[]⟩, .int .i64 0, .slice none 0 0, .slice none 0 0, .bool false, .string ⟨#[]⟩] 41)) wr.heap.size ua X.a ∧ OwnV (w4.alloc (.cells #[.int .i64 0, .int .i64 0, .int .i64 0, .string ⟨#[]⟩, .int .i64 0, .int .i64 0, .int .i64 0, .int .i64 0, .string ⟨#[]⟩, .int .i64 0, .slice none 0 0, .slice none 0 0, .bool false, .string ⟨#[]⟩] 41)) wr.heap.size ur X.r) := ⟨uax.later (below_more (Below.refl _ _) _), urx.later (below_more (Below.refl _ _) _)⟩
        have HU1 : Hid (ua.oneCell' = true ∧ ur.oneCell' = true) := ⟨uax.oneC, urx.oneC⟩
        have Hb4 : Hid (Below wr.heap.size wr (w4.alloc (.cells #[.int .i64 0, .int .i64 0, .int .i64 0, .string ⟨#[]⟩, .int .i64 0, .int .i64 0, .int .i64 0, .int .i64 0, .string ⟨#[]⟩, .int .i64 0, .slice none 0 0, .slice none 0 0, .bool false, .string ⟨#[]⟩] 41))) := below_more b4 _
        have hq4 : Hid (wr.heap.size ≤ w4.heap.size) := b4.size
        clear uax urx b4
        by_cases hF0 : F = 0
        · subst hF0
          go_wp2_with (first
            | ((with_reducible refine wp_storeB 41 (.tmp 9) (.tmp 35) w4.heap.size 0 (evC X ua ur) (evC noEv nilS nilS) 41 ?_ ?_ (evC_one _ HU1.out.1 HU1.out.2) ?_ ?_ ?_ C1 ?_); (exact sizeE); (exact (show 0 + 14 ≤ 14 by decide)); (exact ⟨rfl, rfl⟩); (exact rfl); (exact rfl); (intro w5 D1 o5); (replace D1 : Blk w5 w4.heap.size (evC X ua ur) 41 := D1); (have HD : Hid (Blk w5 w4.heap.size (evC X ua ur) 41) := D1); (have Hb5 : Hid (Below wr.heap.size wr w5) := below_oth Hb4.out o5 hq4.out hq4.out Hb4.out.size); (have HU : Hid (OwnV w5 wr.heap.size ua X.a ∧ OwnV w5 wr.heap.size ur X.r) := ⟨U0.out.1.oth o5 C1 (by decide), U0.out.2.oth o5 C1 (by decide)⟩); clear C1 D1 o5 U0 Hb4)
            | ((with_reducible refine wp_loadB 41 (.tmp 9) w4.heap.size 0 (evC X ua ur) (evC X ua ur) 41 _ Tryd.underlying41 ?_ ?_ ?_ ?_ HD.out (fun j v hv => by rw [Nat.zero_add]; exact hv) ?_); (exact rfl); (exact sizeE); (exact ⟨rfl, rfl⟩); (exact rfl))
            | ((with_reducible refine wpList_buildE ?_ (.tmp 43) ?_ (X, ua, ur) ?_ w5.heap.size ?_ ?_); (exact rfl); (exact rfl); (exact rfl); (exact rfl))
            | (at_builtin; refine wpList_appendE1 rfl (.tmp 42) (.tmp 44) rfl w3.heap.size (.slice av k cv) ys rfl (HOw.out.later (below_more Hb5.out _)) w5.heap.size (X, ua, ur) rfl (Blk.all (Blk.new w5 (encE (X, ua, ur)) 41)) HU1.out (by have := HY.out; omega) (Nat.le_trans HB.out.size (below_more Hb5.out _).size) ?_; intro g6 cap6 w6 o6 gr6; have HO6 : Hid (OwnY w6 w3.heap.size (.slice (some ⟨g6, 0, none⟩) (ys.length + 1) cap6) (ys ++ [(X, ua, ur)])) := o6; have HB6 : Hid (Below w3.heap.size w3 w6) := Below.grown (below_next HB.out (below_more Hb5.out _)) gr6 (Nat.le_trans HB.out.size (below_more Hb5.out _).size) (fun q h => (HOw.out.lt q h).1); have HL6 : Hid (OwnL w6 w3.heap.size (ys ++ [(X, ua, ur)])) := OwnL.snoc ((HOl.out.later (below_more Hb5.out _)).grown (HOw.out.later (below_more Hb5.out _)) gr6) (((HU.out.1.later (below_more (Below.refl _ _) _)).base HB.out.size).grownY (HOw.out.later (below_more Hb5.out _)) gr6) (((HU.out.2.later (below_more (Below.refl _ _) _)).base HB.out.size).grownY (HOw.out.later (below_more Hb5.out _)) gr6); clear o6 gr6))
          go_roundw
          case rel => exact ⟨k + 1, ys ++ [(X, ua, ur)], by omega, by go_num, by simp [HY.out], by rw [List.map_append, HE.out, evs_take L k hlt, HX.out]; rfl, okTo_succ HO.out (by rw [cdE_lt (by omega), HF.out]), HO6.out, HL6.out, HB6.out⟩
          case measure => simp [intOf]; omega
        · have eF : (F != 0) = true := by simp [hF0]
          have HC : Hid (hR (tx s) = ([], F, (k : Int) + 1)) := by
            have hc : cdE L k = F := by rw [cdE_lt (by omega), HF.out]
            have := HRbad.out k hlt HO.out (by rw [hc]; exact hF0)
            rw [hc] at this; exact this
          go_wp2_with ((with_reducible refine wp_storeB 41 (.tmp 9) (.tmp 35) w4.heap.size 0 (evC X ua ur) (evC noEv nilS nilS) 41 ?_ ?_ (evC_one _ HU1.out.1 HU1.out.2) ?_ ?_ ?_ C1 ?_); (exact sizeE); (exact (show 0 + 14 ≤ 14 by decide)); (exact ⟨rfl, rfl⟩); (exact rfl); (exact rfl); (intro w5 D1 o5); (replace D1 : Blk w5 w4.heap.size (evC X ua ur) 41 := D1); (have HD : Hid (Blk w5 w4.heap.size (evC X ua ur) 41) := D1); (have Hb5 : Hid (Below wr.heap.size wr w5) := below_oth Hb4.out o5 hq4.out hq4.out Hb4.out.size); (have HU : Hid (OwnV w5 wr.heap.size ua X.a ∧ OwnV w5 wr.heap.size ur X.r) := ⟨U0.out.1.oth o5 C1 (by decide), U0.out.2.oth o5 C1 (by decide)⟩); clear C1 D1 o5 U0 Hb4)
          refine bodyPost_ret (v := .tuple #[nilS, .int .i64 F, .int .i64 ((k : Int) + 1)]) (by simp [results, Tryd.f7, go_sem]) rfl ?_
          exact rhist_none HC.out (below_next Hbw.out Hb5.out)
      · have e : k = L.length := by omega
        subst e
        have HC : Hid (hR (tx s) = (ys.map (·.1), 0, 0)) := by
          have := HRok.out HO.out
          rw [List.take_length] at HE
          rw [HE.out]; exact this
        go_wp2
        refine bodyPost_ret (v := .tuple #[.slice av L.length cv, .int .i64 0, .int .i64 0]) (by simp [results, Tryd.f7, go_sem]) rfl ?_
        exact rhist_some HC.out (HOw.out.base Hb3.out.size) (HOl.out.base Hb3.out.size) Hbw.out
  · have HC : Hid (hR (tx s) = ([], 2, ((cutL 10 (tx s)).1.length : Int) + 1)) := hR_split hr0
    generalize (cutL 10 (tx s)).1.length = n at *
    have hpos : (0 : Int) < (n : Int) + 1 := by omega
    have Hb2 : Hid (Below w.heap.size w w3) := hb2
    clear hr0 hb2 HL
    go_wp2
    refine bodyPost_ret (v := .tuple #[nilS, .int .i64 2, .int .i64 ((n : Int) + 1)]) (by simp [results, Tryd.f7, go_sem]) rfl ?_
    exact rhist_none HC.out Hb2.out
end Go.Proofs.YtdhlheilgagcpaaDoor
