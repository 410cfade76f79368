/- The contract of the document's Parse. Conditions: the line has at most 900,000 bytes. -/
import Derived.Test.YtdhlheilgagcpaaDoorES
import Derived.Test.YtdhlheilgagcpaaDoorET
import Derived.Test.YtdhlheilgagcpaaDoorBL
import Derived.Test.YtdhlheilgagcpaaDoorBM
import Derived.Test.YtdhlheilgagcpaaDoorBN
import Derived.Deep.Cut
namespace Go.Proofs.YtdhlheilgagcpaaDoor
open Go.RowKit Go.PlainAid Ln
set_option linter.unusedVariables false
set_option linter.unusedSimpArgs false

theorem ev_tc (L : List (List UInt8)) : (eEv L).t = (eT L).1 ∧ (eEv L).c = vOf L.tail := by
  unfold eEv
  split
  · exact ⟨rfl, rfl⟩
  · split <;> exact ⟨rfl, rfl⟩

set_option maxRecDepth 100000 in
set_option maxHeartbeats 8000000 in
theorem rparse_ev (s : ByteArray) (w : World) (hz : s.size ≤ 900000) : Calls Tryd.prog 12 #[.string s] w fun e w' => RParse w (tx s) e w' := by
  have hnl := note_le (tx s)
  rw [tx_len] at hnl
  obtain ⟨hd, hdE⟩ : ∃ hd, (noteR (tx s)).1 = hd := ⟨_, rfl⟩
  obtain ⟨nt1, hn1⟩ : ∃ nt1, (noteR (tx s)).2.1 = nt1 := ⟨_, rfl⟩
  obtain ⟨isn, hn2⟩ : ∃ isn, (noteR (tx s)).2.2.1 = isn := ⟨_, rfl⟩
  obtain ⟨gd, hn3⟩ : ∃ gd, (noteR (tx s)).2.2.2 = gd := ⟨_, rfl⟩
  have hN := fun w => rnote_any s w (by omega)
  unfold notV at hN
  have HPE : Hid (pE (tx s) = (if gd = true ∧ [] ∉ pcs 32 hd ∧ eF 0 (pcs 32 hd) = 0 then ({ eEv (pcs 32 hd) with nd := isn, n := bs nt1 }, 0) else if gd = true ∧ [] ∉ pcs 32 hd then (noEv, eF 0 (pcs 32 hd)) else (noEv, 2))) := by
    show _ = _
    unfold pE
    rw [hdE, hn1, hn2, hn3]
  rw [hdE, hn1, hn2, hn3] at hN
  rw [hdE] at hnl
  have hW := fun w => rwords_any (bs hd) w (by show hd.length ≤ _; omega)
  unfold RWords at hW
  rw [tx_bs] at hW
  have hZ : Hid (hd.length ≤ 900000) := by show _ ≤ _; omega
  obtain ⟨r, hr⟩ : ∃ r, w.heap.size = r := ⟨_, rfl⟩
  have BR : Blk ((w.alloc (.cells #[.int .i64 0, .int .i64 0, .int .i64 0, .string ⟨#[]⟩, .int .i64 0, .int .i64 0, .int .i64 0, .int .i64 0, .string ⟨#[]⟩, .int .i64 0, .slice none 0 0, .slice none 0 0, .bool false, .string ⟨#[]⟩] 41)).alloc (.cells #[.int .i64 0, .int .i64 0, .int .i64 0, .string ⟨#[]⟩, .int .i64 0, .int .i64 0, .int .i64 0, .int .i64 0, .string ⟨#[]⟩, .int .i64 0, .slice none 0 0, .slice none 0 0, .bool false, .string ⟨#[]⟩] 41)) r (evC noEv nilS nilS) 41 := by rw [← hr]; exact (Blk.new w (evC noEv nilS nilS) 41).alloc _
  have BQ : Blk ((w.alloc (.cells #[.int .i64 0, .int .i64 0, .int .i64 0, .string ⟨#[]⟩, .int .i64 0, .int .i64 0, .int .i64 0, .int .i64 0, .string ⟨#[]⟩, .int .i64 0, .slice none 0 0, .slice none 0 0, .bool false, .string ⟨#[]⟩] 41)).alloc (.cells #[.int .i64 0, .int .i64 0, .int .i64 0, .string ⟨#[]⟩, .int .i64 0, .int .i64 0, .int .i64 0, .int .i64 0, .string ⟨#[]⟩, .int .i64 0, .slice none 0 0, .slice none 0 0, .bool false, .string ⟨#[]⟩] 41)) (r + 1) (evC noEv nilS nilS) 41 := by
    have := Blk.new (w.alloc (.cells #[.int .i64 0, .int .i64 0, .int .i64 0, .string ⟨#[]⟩, .int .i64 0, .int .i64 0, .int .i64 0, .int .i64 0, .string ⟨#[]⟩, .int .i64 0, .slice none 0 0, .slice none 0 0, .bool false, .string ⟨#[]⟩] 41)) (evC noEv nilS nilS) 41
    rw [World.size_alloc, hr] at this
    exact this
  have bel : Below w.heap.size w ((w.alloc (.cells #[.int .i64 0, .int .i64 0, .int .i64 0, .string ⟨#[]⟩, .int .i64 0, .int .i64 0, .int .i64 0, .int .i64 0, .string ⟨#[]⟩, .int .i64 0, .slice none 0 0, .slice none 0 0, .bool false, .string ⟨#[]⟩] 41)).alloc (.cells #[.int .i64 0, .int .i64 0, .int .i64 0, .string ⟨#[]⟩, .int .i64 0, .int .i64 0, .int .i64 0, .int .i64 0, .string ⟨#[]⟩, .int .i64 0, .slice none 0 0, .slice none 0 0, .bool false, .string ⟨#[]⟩] 41)) := below_more (below_more (Below.refl _ _) _) _
  have hrr : w.heap.size ≤ r := by omega
  have HR : Hid (w.heap.size = r) := hr
  clear hdE hn1 hn2 hn3 hnl
  cases gd
  · have HP : Hid (pE (tx s) = (noEv, 2)) := by
      show _ = _
      rw [HPE.out, if_neg (fun h => nomatch h.1), if_neg (fun h => nomatch h.1)]
    go_enter Tryd.func12, Tryd.ntmps12
    go_wp2_with fail
    refine (hN _).mono ?_
    rintro e w1 ⟨rfl, b1⟩
    have hb : Below w1.heap.size w1 (w1.alloc (.cells #[.string (bs hd), .string (bs nt1), .bool isn, .bool false] 62)) := below_more (Below.refl _ _) _
    have hq1 : r + 1 < w1.heap.size := (BQ.later b1).lt
    have BN : Blk (w1.alloc (.cells #[.string (bs hd), .string (bs nt1), .bool isn, .bool false] 62)) w1.heap.size [.string (bs hd), .string (bs nt1), .bool isn, .bool false] 62 := Blk.new w1 [.string (bs hd), .string (bs nt1), .bool isn, .bool false] 62
    have BR1 := (BR.later b1).later hb
    have BQ1 := (BQ.later b1).later hb
    have bel1 := (bel.trans (b1.mono bel.size)).trans (hb.mono (bel.trans (b1.mono bel.size)).size)
    clear BR BQ bel b1 hb
    go_wp2_with fail
    refine (hW _).mono ?_
    rintro e w2 ⟨v, b2, ⟨_, rfl, hS⟩ | ⟨_, rfl⟩⟩
    · obtain ⟨a, c, rfl, _, _, _⟩ := hS.form
      have BR := BR1.later b2
      have BQ := BQ1.later b2
      replace BN := BN.later b2
      have bel := bel1.trans (b2.mono bel1.size)
      have c3 := BN.cell 3 (.bool false) rfl
      clear BR1 BQ1 bel1 b2
      go_wp2_with (first
        | ((with_reducible refine wp_loadB 41 (.tmp 4) (r + 1) 0 (evC noEv nilS nilS) (evC noEv nilS nilS) 41 _ Tryd.underlying41 ?_ ?_ ?_ ?_ BQ (fun j v hv => by rw [Nat.zero_add]; exact hv) ?_); (exact rfl); (exact sizeE); (exact ⟨rfl, rfl⟩); (exact rfl))
        | ((with_reducible refine wp_storeB 41 (.tmp 2) (.tmp 31) r 0 (evC noEv nilS nilS) (evC noEv nilS nilS) 41 ?_ ?_ (evC_one _ rfl rfl) ?_ ?_ ?_ BR ?_); (exact sizeE); (exact (show 0 + 14 ≤ 14 by decide)); (exact ⟨rfl, rfl⟩); (exact rfl); (exact rfl); (intro wx Rx ox)))
      replace Rx : Blk wx r (evC noEv nilS nilS) 41 := Rx
      refine ret_blk2 rfl r (evC noEv nilS nilS) 41 _ (.int .i64 2) Tryd.underlying41 rfl sizeE rfl Rx rfl rfl ?_
      unfold RParse
      rw [HP.out]
      exact ⟨nilS, nilS, rfl, OwnV.nil _ _, OwnV.nil _ _, below_oth bel ox hrr hrr bel.size⟩
    · skip
      have BR := BR1.later b2
      have BQ := BQ1.later b2
      replace BN := BN.later b2
      have bel := bel1.trans (b2.mono bel1.size)
      have c3 := BN.cell 3 (.bool false) rfl
      clear BR1 BQ1 bel1 b2
      go_wp2_with (first
        | ((with_reducible refine wp_loadB 41 (.tmp 4) (r + 1) 0 (evC noEv nilS nilS) (evC noEv nilS nilS) 41 _ Tryd.underlying41 ?_ ?_ ?_ ?_ BQ (fun j v hv => by rw [Nat.zero_add]; exact hv) ?_); (exact rfl); (exact sizeE); (exact ⟨rfl, rfl⟩); (exact rfl))
        | ((with_reducible refine wp_storeB 41 (.tmp 2) (.tmp 31) r 0 (evC noEv nilS nilS) (evC noEv nilS nilS) 41 ?_ ?_ (evC_one _ rfl rfl) ?_ ?_ ?_ BR ?_); (exact sizeE); (exact (show 0 + 14 ≤ 14 by decide)); (exact ⟨rfl, rfl⟩); (exact rfl); (exact rfl); (intro wx Rx ox)))
      replace Rx : Blk wx r (evC noEv nilS nilS) 41 := Rx
      refine ret_blk2 rfl r (evC noEv nilS nilS) 41 _ (.int .i64 2) Tryd.underlying41 rfl sizeE rfl Rx rfl rfl ?_
      unfold RParse
      rw [HP.out]
      exact ⟨nilS, nilS, rfl, OwnV.nil _ _, OwnV.nil _ _, below_oth bel ox hrr hrr bel.size⟩
  by_cases hm : [] ∈ pcs 32 hd
  · have HP : Hid (pE (tx s) = (noEv, 2)) := by
      show _ = _
      rw [HPE.out, if_neg (fun h => h.2.1 hm), if_neg (fun h => h.2 hm)]
    have HM : Hid ([] ∈ pcs 32 hd) := hm
    clear hm
    go_enter Tryd.func12, Tryd.ntmps12
    go_wp2_with fail
    refine (hN _).mono ?_
    rintro e w1 ⟨rfl, b1⟩
    have hb : Below w1.heap.size w1 (w1.alloc (.cells #[.string (bs hd), .string (bs nt1), .bool isn, .bool true] 62)) := below_more (Below.refl _ _) _
    have hq1 : r + 1 < w1.heap.size := (BQ.later b1).lt
    have BN : Blk (w1.alloc (.cells #[.string (bs hd), .string (bs nt1), .bool isn, .bool true] 62)) w1.heap.size [.string (bs hd), .string (bs nt1), .bool isn, .bool true] 62 := Blk.new w1 [.string (bs hd), .string (bs nt1), .bool isn, .bool true] 62
    have BR1 := (BR.later b1).later hb
    have BQ1 := (BQ.later b1).later hb
    have bel1 := (bel.trans (b1.mono bel.size)).trans (hb.mono (bel.trans (b1.mono bel.size)).size)
    clear BR BQ bel b1 hb
    go_wp2_with fail
    refine (hW _).mono ?_
    rintro e w2 ⟨v, b2, ⟨h1, _⟩ | ⟨_, rfl⟩⟩
    · exact absurd HM.out h1
    have BR := BR1.later b2
    have BQ := BQ1.later b2
    replace BN := BN.later b2
    have bel := bel1.trans (b2.mono bel1.size)
    have c3 := BN.cell 3 (.bool true) rfl
    clear BR1 BQ1 bel1 b2
    go_wp2_with (first
      | ((with_reducible refine wp_loadB 41 (.tmp 4) (r + 1) 0 (evC noEv nilS nilS) (evC noEv nilS nilS) 41 _ Tryd.underlying41 ?_ ?_ ?_ ?_ BQ (fun j v hv => by rw [Nat.zero_add]; exact hv) ?_); (exact rfl); (exact sizeE); (exact ⟨rfl, rfl⟩); (exact rfl))
      | ((with_reducible refine wp_storeB 41 (.tmp 2) (.tmp 31) r 0 (evC noEv nilS nilS) (evC noEv nilS nilS) 41 ?_ ?_ (evC_one _ rfl rfl) ?_ ?_ ?_ BR ?_); (exact sizeE); (exact (show 0 + 14 ≤ 14 by decide)); (exact ⟨rfl, rfl⟩); (exact rfl); (exact rfl); (intro wx Rx ox)))
    replace Rx : Blk wx r (evC noEv nilS nilS) 41 := Rx
    refine ret_blk2 rfl r (evC noEv nilS nilS) 41 _ (.int .i64 2) Tryd.underlying41 rfl sizeE rfl Rx rfl rfl ?_
    unfold RParse
    rw [HP.out]
    exact ⟨nilS, nilS, rfl, OwnV.nil _ _, OwnV.nil _ _, below_oth bel ox hrr hrr bel.size⟩
  obtain ⟨L, hL⟩ : ∃ L, pcs 32 hd = L := ⟨_, rfl⟩
  have HSm : Hid (Sm L) := fun x hx => by have := pcs_le 32 hd x (by rw [hL]; exact hx); have := hZ.out; omega
  have HLN : Hid (L.length ≤ 900001) := by show _ ≤ _; rw [← hL]; have := pcs_len 32 hd; have := hZ.out; omega
  have HLP : Hid (0 < L.length) := by show _ < _; rw [← hL]; exact pcs_pos 32 hd
  have HM : Hid ([] ∉ L) := by rw [← hL]; exact hm
  have HPF : Hid (eF 0 L ≠ 0 → pE (tx s) = (noEv, eF 0 L)) := fun h => by
    rw [HPE.out, hL, if_neg (fun h' => h h'.2.2), if_pos ⟨rfl, HM.out⟩]
  have HP0 : Hid (eF 0 L = 0 → pE (tx s) = ({ eEv L with nd := isn, n := bs nt1 }, 0)) := fun h => by
    rw [HPE.out, hL, if_pos ⟨rfl, HM.out, h⟩]
  rw [hL] at hW
  clear hL hm HPE
  have hC := fun w => rcount_any (hdW (L.drop 0)) 9223372036854775807 w (by rw [hdW_at L 0 HLP.out, nt_eq L 0 HLP.out]; exact HSm.out _ (List.getElem_mem _)) (by decide) (by decide)
  rw [← eT_eq] at hC
  by_cases hT : (eT L).2 ≠ 0
  · have HP : Hid (pE (tx s) = (noEv, (eT L).2)) := by
      show _ = _
      rw [HPF.out (by rw [eF_time hT]; exact hT), eF_time hT]
    have hne : ((eT L).2 != 0) = true := by simp [hT]
    generalize eT L = eTL at *
    obtain ⟨tt, te⟩ := eTL
    simp only at hne HP hT
    clear hT
    go_enter Tryd.func12, Tryd.ntmps12
    go_wp2_with fail
    refine (hN _).mono ?_
    rintro e w1 ⟨rfl, b1⟩
    have hb : Below w1.heap.size w1 (w1.alloc (.cells #[.string (bs hd), .string (bs nt1), .bool isn, .bool true] 62)) := below_more (Below.refl _ _) _
    have hq1 : r + 1 < w1.heap.size := (BQ.later b1).lt
    have BN : Blk (w1.alloc (.cells #[.string (bs hd), .string (bs nt1), .bool isn, .bool true] 62)) w1.heap.size [.string (bs hd), .string (bs nt1), .bool isn, .bool true] 62 := Blk.new w1 [.string (bs hd), .string (bs nt1), .bool isn, .bool true] 62
    have BR1 := (BR.later b1).later hb
    have BQ1 := (BQ.later b1).later hb
    have bel1 := (bel.trans (b1.mono bel.size)).trans (hb.mono (bel.trans (b1.mono bel.size)).size)
    clear BR BQ bel b1 hb
    go_wp2_with fail
    refine (hW _).mono ?_
    rintro e w2 ⟨v, b2, ⟨_, rfl, hS⟩ | ⟨h1, _⟩⟩
    case inr => exact absurd h1 HM.out
    obtain ⟨a, c, rfl, hlc, hcc, _⟩ := hS.form
    obtain ⟨b, o, rfl, hbl⟩ := hS.block HLP.out
    have HV : Hid (SSl w2 (.slice (some ⟨b, o, none⟩) L.length c) L) := hS
    have HLO : Hid (b < w2.heap.size) := hbl
    have CELLS : Hid (∀ wr, Below w2.heap.size w2 wr → ∀ i, i < L.length → wr.cell? ⟨b, o + i, none⟩ = some (.string (hdW (L.drop i)))) := fun wr hw i hi => by
      rw [hdW_at L i hi]; exact SSl.cell (HV.out.later hw) hi
    clear hS hbl
    have BR := BR1.later b2
    have BQ := BQ1.later b2
    replace BN := BN.later b2
    have bel := bel1.trans (b2.mono bel1.size)
    have c3 := BN.cell 3 (.bool true) rfl
    clear BR1 BQ1 bel1 b2
    have cx := CELLS.out w2 (Below.refl _ _) 0 HLP.out
    rw [Nat.add_zero] at cx
    go_wp2_with fail
    refine (hC _).mono ?_
    rintro e w3 ⟨rfl, rfl⟩
    clear cx
    go_wp2_with (first
      | ((with_reducible refine wp_loadB 41 (.tmp 4) (r + 1) 0 (evC noEv nilS nilS) (evC noEv nilS nilS) 41 _ Tryd.underlying41 ?_ ?_ ?_ ?_ BQ (fun j v hv => by rw [Nat.zero_add]; exact hv) ?_); (exact rfl); (exact sizeE); (exact ⟨rfl, rfl⟩); (exact rfl))
      | ((with_reducible refine wp_storeB 41 (.tmp 2) (.tmp 41) r 0 (evC noEv nilS nilS) (evC noEv nilS nilS) 41 ?_ ?_ (evC_one _ rfl rfl) ?_ ?_ ?_ BR ?_); (exact sizeE); (exact (show 0 + 14 ≤ 14 by decide)); (exact ⟨rfl, rfl⟩); (exact rfl); (exact rfl); (intro wx Rx ox)))
    replace Rx : Blk wx r (evC noEv nilS nilS) 41 := Rx
    refine ret_blk2 rfl r (evC noEv nilS nilS) 41 _ (.int .i64 te) Tryd.underlying41 rfl sizeE rfl Rx rfl rfl ?_
    unfold RParse
    rw [HP.out]
    exact ⟨nilS, nilS, rfl, OwnV.nil _ _, OwnV.nil _ _, below_oth bel ox hrr hrr bel.size⟩
  have hT0 : (eT L).2 = 0 := Classical.not_not.1 hT
  clear hT
  obtain ⟨tt, hTT⟩ : ∃ tt, eT L = (tt, 0) := ⟨(eT L).1, by rw [← hT0]⟩
  rw [hTT] at hC
  have HT0 : Hid ((eT L).2 = 0) := hT0
  have HTT : Hid (eT L = (tt, 0)) := hTT
  clear hT0 hTT
  by_cases h2 : L.length < 2
  · have h2' : (L.length : Int) < 2 := by omega
    have HP : Hid (pE (tx s) = (noEv, 2)) := by
      show _ = _
      have e : nE (hdW (L.drop 1)) = 2 := by rw [hdW_none L 1 (by omega), nE_empty]
      have e2 := eF_client HT0.out (by rw [e]; decide)
      rw [e] at e2
      rw [HPF.out (by rw [e2]; decide), e2]
    clear h2
    go_enter Tryd.func12, Tryd.ntmps12
    go_wp2_with fail
    refine (hN _).mono ?_
    rintro e w1 ⟨rfl, b1⟩
    have hb : Below w1.heap.size w1 (w1.alloc (.cells #[.string (bs hd), .string (bs nt1), .bool isn, .bool true] 62)) := below_more (Below.refl _ _) _
    have hq1 : r + 1 < w1.heap.size := (BQ.later b1).lt
    have BN : Blk (w1.alloc (.cells #[.string (bs hd), .string (bs nt1), .bool isn, .bool true] 62)) w1.heap.size [.string (bs hd), .string (bs nt1), .bool isn, .bool true] 62 := Blk.new w1 [.string (bs hd), .string (bs nt1), .bool isn, .bool true] 62
    have BR1 := (BR.later b1).later hb
    have BQ1 := (BQ.later b1).later hb
    have bel1 := (bel.trans (b1.mono bel.size)).trans (hb.mono (bel.trans (b1.mono bel.size)).size)
    clear BR BQ bel b1 hb
    go_wp2_with fail
    refine (hW _).mono ?_
    rintro e w2 ⟨v, b2, ⟨_, rfl, hS⟩ | ⟨h1, _⟩⟩
    case inr => exact absurd h1 HM.out
    obtain ⟨a, c, rfl, hlc, hcc, _⟩ := hS.form
    obtain ⟨b, o, rfl, hbl⟩ := hS.block HLP.out
    have HV : Hid (SSl w2 (.slice (some ⟨b, o, none⟩) L.length c) L) := hS
    have HLO : Hid (b < w2.heap.size) := hbl
    have CELLS : Hid (∀ wr, Below w2.heap.size w2 wr → ∀ i, i < L.length → wr.cell? ⟨b, o + i, none⟩ = some (.string (hdW (L.drop i)))) := fun wr hw i hi => by
      rw [hdW_at L i hi]; exact SSl.cell (HV.out.later hw) hi
    clear hS hbl
    have BR := BR1.later b2
    have BQ := BQ1.later b2
    replace BN := BN.later b2
    have bel := bel1.trans (b2.mono bel1.size)
    have c3 := BN.cell 3 (.bool true) rfl
    clear BR1 BQ1 bel1 b2
    have cx := CELLS.out w2 (Below.refl _ _) 0 HLP.out
    rw [Nat.add_zero] at cx
    go_wp2_with fail
    refine (hC _).mono ?_
    rintro e w3 ⟨rfl, rfl⟩
    clear cx
    go_wp2_with (first
      | ((with_reducible refine wp_loadB 41 (.tmp 4) (r + 1) 0 (evC noEv nilS nilS) (evC noEv nilS nilS) 41 _ Tryd.underlying41 ?_ ?_ ?_ ?_ BQ (fun j v hv => by rw [Nat.zero_add]; exact hv) ?_); (exact rfl); (exact sizeE); (exact ⟨rfl, rfl⟩); (exact rfl))
      | ((with_reducible refine wp_storeB 41 (.tmp 2) (.tmp 46) r 0 (evC noEv nilS nilS) (evC noEv nilS nilS) 41 ?_ ?_ (evC_one _ rfl rfl) ?_ ?_ ?_ BR ?_); (exact sizeE); (exact (show 0 + 14 ≤ 14 by decide)); (exact ⟨rfl, rfl⟩); (exact rfl); (exact rfl); (intro wx Rx ox)))
    replace Rx : Blk wx r (evC noEv nilS nilS) 41 := Rx
    refine ret_blk2 rfl r (evC noEv nilS nilS) 41 _ (.int .i64 2) Tryd.underlying41 rfl sizeE rfl Rx rfl rfl ?_
    unfold RParse
    rw [HP.out]
    exact ⟨nilS, nilS, rfl, OwnV.nil _ _, OwnV.nil _ _, below_oth bel ox hrr hrr bel.size⟩
  have hNm := fun w => rname_any (hdW (L.drop 1)) w (by rw [hdW_at L 1 (by omega), nt_eq L 1 (by omega)]; exact HSm.out _ (List.getElem_mem _))
  change ∀ w, Calls _ _ _ w fun e w' => e = .returned (.tuple #[.agg #[.int .i64 (vOf (L.drop 1)).1, .int .i64 (vOf (L.drop 1)).2.1, .string (vOf (L.drop 1)).2.2], .int .i64 (nE _)]) ∧ _ at hNm
  obtain ⟨cf, hcf⟩ : ∃ cf, nE (hdW (L.drop 1)) = cf := ⟨_, rfl⟩
  rw [hcf] at hNm
  rw [← tail1 L] at hNm
  have HCF : Hid (nE (hdW (L.drop 1)) = cf) := hcf
  have HL2 : Hid (2 ≤ L.length) := by show _ ≤ _; omega
  clear hcf h2
  by_cases hc0 : cf ≠ 0
  · have hne : (cf != 0) = true := by simp [hc0]
    have HP : Hid (pE (tx s) = (noEv, cf)) := by
      show _ = _
      have e2 := eF_client HT0.out (by rw [HCF.out]; exact hc0)
      rw [HCF.out] at e2
      rw [HPF.out (by rw [e2]; exact hc0), e2]
    clear hc0
    go_enter Tryd.func12, Tryd.ntmps12
    go_wp2_with fail
    refine (hN _).mono ?_
    rintro e w1 ⟨rfl, b1⟩
    have hb : Below w1.heap.size w1 (w1.alloc (.cells #[.string (bs hd), .string (bs nt1), .bool isn, .bool true] 62)) := below_more (Below.refl _ _) _
    have hq1 : r + 1 < w1.heap.size := (BQ.later b1).lt
    have BN : Blk (w1.alloc (.cells #[.string (bs hd), .string (bs nt1), .bool isn, .bool true] 62)) w1.heap.size [.string (bs hd), .string (bs nt1), .bool isn, .bool true] 62 := Blk.new w1 [.string (bs hd), .string (bs nt1), .bool isn, .bool true] 62
    have BR1 := (BR.later b1).later hb
    have BQ1 := (BQ.later b1).later hb
    have bel1 := (bel.trans (b1.mono bel.size)).trans (hb.mono (bel.trans (b1.mono bel.size)).size)
    clear BR BQ bel b1 hb
    go_wp2_with fail
    refine (hW _).mono ?_
    rintro e w2 ⟨v, b2, ⟨_, rfl, hS⟩ | ⟨h1, _⟩⟩
    case inr => exact absurd h1 HM.out
    obtain ⟨a, c, rfl, hlc, hcc, _⟩ := hS.form
    obtain ⟨b, o, rfl, hbl⟩ := hS.block HLP.out
    have HV : Hid (SSl w2 (.slice (some ⟨b, o, none⟩) L.length c) L) := hS
    have HLO : Hid (b < w2.heap.size) := hbl
    have CELLS : Hid (∀ wr, Below w2.heap.size w2 wr → ∀ i, i < L.length → wr.cell? ⟨b, o + i, none⟩ = some (.string (hdW (L.drop i)))) := fun wr hw i hi => by
      rw [hdW_at L i hi]; exact SSl.cell (HV.out.later hw) hi
    clear hS hbl
    have BR := BR1.later b2
    have BQ := BQ1.later b2
    replace BN := BN.later b2
    have bel := bel1.trans (b2.mono bel1.size)
    have c3 := BN.cell 3 (.bool true) rfl
    clear BR1 BQ1 bel1 b2
    have cx := CELLS.out w2 (Below.refl _ _) 0 HLP.out
    rw [Nat.add_zero] at cx
    go_wp2_with fail
    refine (hC _).mono ?_
    rintro e w3 ⟨rfl, rfl⟩
    clear cx
    have h2x : ¬ (L.length : Int) < 2 := by have := HL2.out; omega
    have h1x : (1 : Int) < (L.length : Int) := by have := HL2.out; omega
    have cx := CELLS.out w3 (Below.refl _ _) 1 HL2.out
    go_wp2_with fail
    refine (hNm _).mono ?_
    rintro e w4 ⟨rfl, b4⟩
    clear cx c3
    have hb : Below w4.heap.size w4 (w4.alloc (.cells #[.int .i64 (vOf L.tail).1, .int .i64 (vOf L.tail).2.1, .string (vOf L.tail).2.2] 38)) := below_more (Below.refl _ _) _
    have BC : Blk (w4.alloc (.cells #[.int .i64 (vOf L.tail).1, .int .i64 (vOf L.tail).2.1, .string (vOf L.tail).2.2] 38)) w4.heap.size (vls (vOf L.tail).1 (vOf L.tail).2.1 (vOf L.tail).2.2) 38 := Blk.new w4 (vls _ _ _) 38
    have hq2 : w1.heap.size < w4.heap.size := (BN.later b4).lt
    have b5 : Below w3.heap.size w3 (w4.alloc (.cells #[.int .i64 (vOf L.tail).1, .int .i64 (vOf L.tail).2.1, .string (vOf L.tail).2.2] 38)) := below_next b4 hb
    replace BR := BR.later b5
    replace BQ := BQ.later b5
    replace BN := BN.later b5
    replace bel := bel.trans (b5.mono bel.size)
    clear b4 hb
    go_wp2_with (first
      | ((with_reducible refine wp_loadB 41 (.tmp 4) (r + 1) 0 (evC noEv nilS nilS) (evC noEv nilS nilS) 41 _ Tryd.underlying41 ?_ ?_ ?_ ?_ BQ (fun j v hv => by rw [Nat.zero_add]; exact hv) ?_); (exact rfl); (exact sizeE); (exact ⟨rfl, rfl⟩); (exact rfl))
      | ((with_reducible refine wp_storeB 41 (.tmp 2) (.tmp 56) r 0 (evC noEv nilS nilS) (evC noEv nilS nilS) 41 ?_ ?_ (evC_one _ rfl rfl) ?_ ?_ ?_ BR ?_); (exact sizeE); (exact (show 0 + 14 ≤ 14 by decide)); (exact ⟨rfl, rfl⟩); (exact rfl); (exact rfl); (intro wx Rx ox)))
    replace Rx : Blk wx r (evC noEv nilS nilS) 41 := Rx
    refine ret_blk2 rfl r (evC noEv nilS nilS) 41 _ (.int .i64 cf) Tryd.underlying41 rfl sizeE rfl Rx rfl rfl ?_
    unfold RParse
    rw [HP.out]
    exact ⟨nilS, nilS, rfl, OwnV.nil _ _, OwnV.nil _ _, below_oth bel ox hrr hrr bel.size⟩
  have hc1 : cf = 0 := Classical.not_not.1 hc0
  clear hc0
  subst hc1
  by_cases h3 : L.length < 3
  · have HP : Hid (pE (tx s) = (noEv, 2)) := by
      show _ = _
      have e2 := eF_type HT0.out HCF.out (eY_none (by omega))
      rw [HPF.out (by rw [e2]; decide), e2]
    have HL3 : Hid (L.length < 3) := h3
    clear h3
    go_enter Tryd.func12, Tryd.ntmps12
    go_wp2_with fail
    refine (hN _).mono ?_
    rintro e w1 ⟨rfl, b1⟩
    have hb : Below w1.heap.size w1 (w1.alloc (.cells #[.string (bs hd), .string (bs nt1), .bool isn, .bool true] 62)) := below_more (Below.refl _ _) _
    have hq1 : r + 1 < w1.heap.size := (BQ.later b1).lt
    have BN : Blk (w1.alloc (.cells #[.string (bs hd), .string (bs nt1), .bool isn, .bool true] 62)) w1.heap.size [.string (bs hd), .string (bs nt1), .bool isn, .bool true] 62 := Blk.new w1 [.string (bs hd), .string (bs nt1), .bool isn, .bool true] 62
    have BR1 := (BR.later b1).later hb
    have BQ1 := (BQ.later b1).later hb
    have bel1 := (bel.trans (b1.mono bel.size)).trans (hb.mono (bel.trans (b1.mono bel.size)).size)
    clear BR BQ bel b1 hb
    go_wp2_with fail
    refine (hW _).mono ?_
    rintro e w2 ⟨v, b2, ⟨_, rfl, hS⟩ | ⟨h1, _⟩⟩
    case inr => exact absurd h1 HM.out
    obtain ⟨a, c, rfl, hlc, hcc, _⟩ := hS.form
    obtain ⟨b, o, rfl, hbl⟩ := hS.block HLP.out
    have HV : Hid (SSl w2 (.slice (some ⟨b, o, none⟩) L.length c) L) := hS
    have HLO : Hid (b < w2.heap.size) := hbl
    have CELLS : Hid (∀ wr, Below w2.heap.size w2 wr → ∀ i, i < L.length → wr.cell? ⟨b, o + i, none⟩ = some (.string (hdW (L.drop i)))) := fun wr hw i hi => by
      rw [hdW_at L i hi]; exact SSl.cell (HV.out.later hw) hi
    clear hS hbl
    have BR := BR1.later b2
    have BQ := BQ1.later b2
    replace BN := BN.later b2
    have bel := bel1.trans (b2.mono bel1.size)
    have c3 := BN.cell 3 (.bool true) rfl
    clear BR1 BQ1 bel1 b2
    have cx := CELLS.out w2 (Below.refl _ _) 0 HLP.out
    rw [Nat.add_zero] at cx
    go_wp2_with fail
    refine (hC _).mono ?_
    rintro e w3 ⟨rfl, rfl⟩
    clear cx
    have h2x : ¬ (L.length : Int) < 2 := by have := HL2.out; omega
    have h1x : (1 : Int) < (L.length : Int) := by have := HL2.out; omega
    have cx := CELLS.out w3 (Below.refl _ _) 1 HL2.out
    go_wp2_with fail
    refine (hNm _).mono ?_
    rintro e w4 ⟨rfl, b4⟩
    clear cx c3
    have hb : Below w4.heap.size w4 (w4.alloc (.cells #[.int .i64 (vOf L.tail).1, .int .i64 (vOf L.tail).2.1, .string (vOf L.tail).2.2] 38)) := below_more (Below.refl _ _) _
    have BC : Blk (w4.alloc (.cells #[.int .i64 (vOf L.tail).1, .int .i64 (vOf L.tail).2.1, .string (vOf L.tail).2.2] 38)) w4.heap.size (vls (vOf L.tail).1 (vOf L.tail).2.1 (vOf L.tail).2.2) 38 := Blk.new w4 (vls _ _ _) 38
    have hq2 : w1.heap.size < w4.heap.size := (BN.later b4).lt
    have b5 : Below w3.heap.size w3 (w4.alloc (.cells #[.int .i64 (vOf L.tail).1, .int .i64 (vOf L.tail).2.1, .string (vOf L.tail).2.2] 38)) := below_next b4 hb
    replace BR := BR.later b5
    replace BQ := BQ.later b5
    replace BN := BN.later b5
    replace bel := bel.trans (b5.mono bel.size)
    clear b4 hb
    have h3x : (L.length : Int) < 3 := by have := HL3.out; omega
    go_wp2_with (first
      | ((with_reducible refine wp_loadB 41 (.tmp 4) (r + 1) 0 (evC noEv nilS nilS) (evC noEv nilS nilS) 41 _ Tryd.underlying41 ?_ ?_ ?_ ?_ BQ (fun j v hv => by rw [Nat.zero_add]; exact hv) ?_); (exact rfl); (exact sizeE); (exact ⟨rfl, rfl⟩); (exact rfl))
      | ((with_reducible refine wp_storeB 41 (.tmp 2) (.tmp 61) r 0 (evC noEv nilS nilS) (evC noEv nilS nilS) 41 ?_ ?_ (evC_one _ rfl rfl) ?_ ?_ ?_ BR ?_); (exact sizeE); (exact (show 0 + 14 ≤ 14 by decide)); (exact ⟨rfl, rfl⟩); (exact rfl); (exact rfl); (intro wx Rx ox)))
    replace Rx : Blk wx r (evC noEv nilS nilS) 41 := Rx
    refine ret_blk2 rfl r (evC noEv nilS nilS) 41 _ (.int .i64 2) Tryd.underlying41 rfl sizeE rfl Rx rfl rfl ?_
    unfold RParse
    rw [HP.out]
    exact ⟨nilS, nilS, rfl, OwnV.nil _ _, OwnV.nil _ _, below_oth bel ox hrr hrr bel.size⟩
  have HL3 : Hid (3 ≤ L.length) := by show _ ≤ _; omega
  clear h3
  go_enter Tryd.func12, Tryd.ntmps12
  go_wp2_with fail
  refine (hN _).mono ?_
  rintro e w1 ⟨rfl, b1⟩
  have hb : Below w1.heap.size w1 (w1.alloc (.cells #[.string (bs hd), .string (bs nt1), .bool isn, .bool true] 62)) := below_more (Below.refl _ _) _
  have hq1 : r + 1 < w1.heap.size := (BQ.later b1).lt
  have BN : Blk (w1.alloc (.cells #[.string (bs hd), .string (bs nt1), .bool isn, .bool true] 62)) w1.heap.size [.string (bs hd), .string (bs nt1), .bool isn, .bool true] 62 := Blk.new w1 [.string (bs hd), .string (bs nt1), .bool isn, .bool true] 62
  have BR1 := (BR.later b1).later hb
  have BQ1 := (BQ.later b1).later hb
  have bel1 := (bel.trans (b1.mono bel.size)).trans (hb.mono (bel.trans (b1.mono bel.size)).size)
  clear BR BQ bel b1 hb
  go_wp2_with fail
  refine (hW _).mono ?_
  rintro e w2 ⟨v, b2, ⟨_, rfl, hS⟩ | ⟨h1, _⟩⟩
  case inr => exact absurd h1 HM.out
  obtain ⟨a, c, rfl, hlc, hcc, _⟩ := hS.form
  obtain ⟨b, o, rfl, hbl⟩ := hS.block HLP.out
  have HV : Hid (SSl w2 (.slice (some ⟨b, o, none⟩) L.length c) L) := hS
  have HLO : Hid (b < w2.heap.size) := hbl
  have CELLS : Hid (∀ wr, Below w2.heap.size w2 wr → ∀ i, i < L.length → wr.cell? ⟨b, o + i, none⟩ = some (.string (hdW (L.drop i)))) := fun wr hw i hi => by
    rw [hdW_at L i hi]; exact SSl.cell (HV.out.later hw) hi
  clear hS hbl
  have BR := BR1.later b2
  have BQ := BQ1.later b2
  replace BN := BN.later b2
  have bel := bel1.trans (b2.mono bel1.size)
  have c3 := BN.cell 3 (.bool true) rfl
  clear BR1 BQ1 bel1 b2
  have cx := CELLS.out w2 (Below.refl _ _) 0 HLP.out
  rw [Nat.add_zero] at cx
  go_wp2_with fail
  refine (hC _).mono ?_
  rintro e w3 ⟨rfl, rfl⟩
  clear cx
  have h2x : ¬ (L.length : Int) < 2 := by have := HL2.out; omega
  have h1x : (1 : Int) < (L.length : Int) := by have := HL2.out; omega
  have cx := CELLS.out w3 (Below.refl _ _) 1 HL2.out
  go_wp2_with fail
  refine (hNm _).mono ?_
  rintro e w4 ⟨rfl, b4⟩
  clear cx c3
  have hb : Below w4.heap.size w4 (w4.alloc (.cells #[.int .i64 (vOf L.tail).1, .int .i64 (vOf L.tail).2.1, .string (vOf L.tail).2.2] 38)) := below_more (Below.refl _ _) _
  have BC : Blk (w4.alloc (.cells #[.int .i64 (vOf L.tail).1, .int .i64 (vOf L.tail).2.1, .string (vOf L.tail).2.2] 38)) w4.heap.size (vls (vOf L.tail).1 (vOf L.tail).2.1 (vOf L.tail).2.2) 38 := Blk.new w4 (vls _ _ _) 38
  have hq2 : w1.heap.size < w4.heap.size := (BN.later b4).lt
  have b5 : Below w3.heap.size w3 (w4.alloc (.cells #[.int .i64 (vOf L.tail).1, .int .i64 (vOf L.tail).2.1, .string (vOf L.tail).2.2] 38)) := below_next b4 hb
  replace BR := BR.later b5
  replace BQ := BQ.later b5
  replace BN := BN.later b5
  replace bel := bel.trans (b5.mono bel.size)
  clear b4 hb
  have h3x : ¬ (L.length : Int) < 3 := by have := HL3.out; omega
  go_upto_region 16 with fail
  rename_i K1 hK1
  have HK1 : Hid (∀ (a : Act) (w : World), _ → K1 a w) := hK1
  clear hK1
  have hbz : Below (w4.alloc (.cells #[.int .i64 (vOf L.tail).1, .int .i64 (vOf L.tail).2.1, .string (vOf L.tail).2.2] 38)).heap.size (w4.alloc (.cells #[.int .i64 (vOf L.tail).1, .int .i64 (vOf L.tail).2.1, .string (vOf L.tail).2.2] 38)) ((w4.alloc (.cells #[.int .i64 (vOf L.tail).1, .int .i64 (vOf L.tail).2.1, .string (vOf L.tail).2.2] 38)).alloc (.cells #[.int .i64 0, .int .i64 0, .int .i64 0, .string ⟨#[]⟩, .int .i64 0, .int .i64 0, .int .i64 0, .int .i64 0, .string ⟨#[]⟩, .int .i64 0, .slice none 0 0, .slice none 0 0, .bool false, .string ⟨#[]⟩] 41)) := below_more (Below.refl _ _) _
  have BX : Blk ((w4.alloc (.cells #[.int .i64 (vOf L.tail).1, .int .i64 (vOf L.tail).2.1, .string (vOf L.tail).2.2] 38)).alloc (.cells #[.int .i64 0, .int .i64 0, .int .i64 0, .string ⟨#[]⟩, .int .i64 0, .int .i64 0, .int .i64 0, .int .i64 0, .string ⟨#[]⟩, .int .i64 0, .slice none 0 0, .slice none 0 0, .bool false, .string ⟨#[]⟩] 41)) (w4.heap.size + 1) (evC noEv nilS nilS) 41 := by
    have := Blk.new (w4.alloc (.cells #[.int .i64 (vOf L.tail).1, .int .i64 (vOf L.tail).2.1, .string (vOf L.tail).2.2] 38)) (evC noEv nilS nilS) 41
    rw [World.size_alloc] at this
    exact this
  have hA : TAbout w ((w4.alloc (.cells #[.int .i64 (vOf L.tail).1, .int .i64 (vOf L.tail).2.1, .string (vOf L.tail).2.2] 38)).alloc (.cells #[.int .i64 0, .int .i64 0, .int .i64 0, .string ⟨#[]⟩, .int .i64 0, .int .i64 0, .int .i64 0, .int .i64 0, .string ⟨#[]⟩, .int .i64 0, .slice none 0 0, .slice none 0 0, .bool false, .string ⟨#[]⟩] 41)) r w1.heap.size w4.heap.size (w4.heap.size + 1) hd nt1 isn true (vOf L.tail) noEv nilS nilS := ⟨BR.later hbz, BQ.later hbz, BN.later hbz, BC.later hbz, BX, OwnV.nil _ _, OwnV.nil _ _, bel.trans (hbz.mono bel.size), HR.out, hq1, hq2, Nat.lt_succ_self _⟩
  have hv : SSl ((w4.alloc (.cells #[.int .i64 (vOf L.tail).1, .int .i64 (vOf L.tail).2.1, .string (vOf L.tail).2.2] 38)).alloc (.cells #[.int .i64 0, .int .i64 0, .int .i64 0, .string ⟨#[]⟩, .int .i64 0, .int .i64 0, .int .i64 0, .int .i64 0, .string ⟨#[]⟩, .int .i64 0, .slice none 0 0, .slice none 0 0, .bool false, .string ⟨#[]⟩] 41)) (.slice (some ⟨b, o, none⟩) L.length c) L := HV.out.later (below_next b5 hbz)
  have hlo : LoB (w4.heap.size + 1) (.slice (some ⟨b, o, none⟩) L.length c) := fun g hg => by
    have e : b = g := by simpa [Value.ownBlock] using hg
    have := HLO.out
    have h6 := b5.size
    rw [World.size_alloc] at h6
    omega
  have ht : (eEv L).t = tt ∧ (eEv L).c = vOf L.tail := by rw [(ev_tc L).1, (ev_tc L).2, HTT.out]; exact ⟨rfl, rfl⟩
  have h3e := e3_type HT0.out HCF.out
  go_wp2_with fail
  refine HK1.out _ _ ?_
  rcases (show eY L = 0 ∨ eY L = 1 ∨ eY L = 2 ∨ eY L = 3 ∨ eY L = 4 by have := eY_lt L; omega) with h | h | h | h | h
  · exact rp_none s L w ((w4.alloc (.cells #[.int .i64 (vOf L.tail).1, .int .i64 (vOf L.tail).2.1, .string (vOf L.tail).2.2] 38)).alloc (.cells #[.int .i64 0, .int .i64 0, .int .i64 0, .string ⟨#[]⟩, .int .i64 0, .int .i64 0, .int .i64 0, .int .i64 0, .string ⟨#[]⟩, .int .i64 0, .slice none 0 0, .slice none 0 0, .bool false, .string ⟨#[]⟩] 41)) r w1.heap.size w4.heap.size (w4.heap.size + 1) c (some ⟨b, o, none⟩) tt hd nt1 isn true (vOf L.tail) _ _ _ _ _ _ _ _ _ _ _ _ _ _ _ _ _ _ _ _ _ _ _ _ _ _ _ _ _ _ _ _ _ _ _ _ _ _ _ _ _ _ _ _ _ _ _ _ _ _ _ _ _ _ _ _ _ _ _ _ _ _ _ _ _ _ _ _ _ _ _ _ _ _ _ _ _ _ _ _ _ _ _ _ _ _ _ _ _ _ _ _ _ _ _ _ _ _ _ _ _ _ _ _ _ _ _ _ _ _ _ _ _ _ _ _ _ hA hv hlo HSm.out HLN.out HL3.out HPF.out HP0.out ht h3e h
  · exact rp_invoke s L w ((w4.alloc (.cells #[.int .i64 (vOf L.tail).1, .int .i64 (vOf L.tail).2.1, .string (vOf L.tail).2.2] 38)).alloc (.cells #[.int .i64 0, .int .i64 0, .int .i64 0, .string ⟨#[]⟩, .int .i64 0, .int .i64 0, .int .i64 0, .int .i64 0, .string ⟨#[]⟩, .int .i64 0, .slice none 0 0, .slice none 0 0, .bool false, .string ⟨#[]⟩] 41)) r w1.heap.size w4.heap.size (w4.heap.size + 1) c (some ⟨b, o, none⟩) tt hd nt1 isn true (vOf L.tail) _ _ _ _ _ _ _ _ _ _ _ _ _ _ _ _ _ _ _ _ _ _ _ _ _ _ _ _ _ _ _ _ _ _ _ _ _ _ _ _ _ _ _ _ _ _ _ _ _ _ _ _ _ _ _ _ _ _ _ _ _ _ _ _ _ _ _ _ _ _ _ _ _ _ _ _ _ _ _ _ _ _ _ _ _ _ _ _ _ _ _ _ _ _ _ _ _ _ _ _ _ _ _ _ _ _ _ _ _ _ _ _ _ _ _ _ _ hA hv hlo HSm.out HLN.out HL3.out HPF.out HP0.out ht h3e h
  · exact rp_ok s L w ((w4.alloc (.cells #[.int .i64 (vOf L.tail).1, .int .i64 (vOf L.tail).2.1, .string (vOf L.tail).2.2] 38)).alloc (.cells #[.int .i64 0, .int .i64 0, .int .i64 0, .string ⟨#[]⟩, .int .i64 0, .int .i64 0, .int .i64 0, .int .i64 0, .string ⟨#[]⟩, .int .i64 0, .slice none 0 0, .slice none 0 0, .bool false, .string ⟨#[]⟩] 41)) r w1.heap.size w4.heap.size (w4.heap.size + 1) c (some ⟨b, o, none⟩) tt hd nt1 isn true (vOf L.tail) _ _ _ _ _ _ _ _ _ _ _ _ _ _ _ _ _ _ _ _ _ _ _ _ _ _ _ _ _ _ _ _ _ _ _ _ _ _ _ _ _ _ _ _ _ _ _ _ _ _ _ _ _ _ _ _ _ _ _ _ _ _ _ _ _ _ _ _ _ _ _ _ _ _ _ _ _ _ _ _ _ _ _ _ _ _ _ _ _ _ _ _ _ _ _ _ _ _ _ _ _ _ _ _ _ _ _ _ _ _ _ _ _ _ _ _ _ hA hv hlo HSm.out HLN.out HL3.out HPF.out HP0.out ht h3e h
  · exact rp_fail s L w ((w4.alloc (.cells #[.int .i64 (vOf L.tail).1, .int .i64 (vOf L.tail).2.1, .string (vOf L.tail).2.2] 38)).alloc (.cells #[.int .i64 0, .int .i64 0, .int .i64 0, .string ⟨#[]⟩, .int .i64 0, .int .i64 0, .int .i64 0, .int .i64 0, .string ⟨#[]⟩, .int .i64 0, .slice none 0 0, .slice none 0 0, .bool false, .string ⟨#[]⟩] 41)) r w1.heap.size w4.heap.size (w4.heap.size + 1) c (some ⟨b, o, none⟩) tt hd nt1 isn true (vOf L.tail) _ _ _ _ _ _ _ _ _ _ _ _ _ _ _ _ _ _ _ _ _ _ _ _ _ _ _ _ _ _ _ _ _ _ _ _ _ _ _ _ _ _ _ _ _ _ _ _ _ _ _ _ _ _ _ _ _ _ _ _ _ _ _ _ _ _ _ _ _ _ _ _ _ _ _ _ _ _ _ _ _ _ _ _ _ _ _ _ _ _ _ _ _ _ _ _ _ _ _ _ _ _ _ _ _ _ _ _ _ _ _ _ _ _ _ _ _ hA hv hlo HSm.out HLN.out HL3.out HPF.out HP0.out ht h3e h
  · exact rp_info s L w ((w4.alloc (.cells #[.int .i64 (vOf L.tail).1, .int .i64 (vOf L.tail).2.1, .string (vOf L.tail).2.2] 38)).alloc (.cells #[.int .i64 0, .int .i64 0, .int .i64 0, .string ⟨#[]⟩, .int .i64 0, .int .i64 0, .int .i64 0, .int .i64 0, .string ⟨#[]⟩, .int .i64 0, .slice none 0 0, .slice none 0 0, .bool false, .string ⟨#[]⟩] 41)) r w1.heap.size w4.heap.size (w4.heap.size + 1) c (some ⟨b, o, none⟩) tt hd nt1 isn true (vOf L.tail) _ _ _ _ _ _ _ _ _ _ _ _ _ _ _ _ _ _ _ _ _ _ _ _ _ _ _ _ _ _ _ _ _ _ _ _ _ _ _ _ _ _ _ _ _ _ _ _ _ _ _ _ _ _ _ _ _ _ _ _ _ _ _ _ _ _ _ _ _ _ _ _ _ _ _ _ _ _ _ _ _ _ _ _ _ _ _ _ _ _ _ _ _ _ _ _ _ _ _ _ _ _ _ _ _ _ _ _ _ _ _ _ _ _ _ _ _ hA hv hlo HSm.out HLN.out HL3.out HPF.out HP0.out ht h3e h
end Go.Proofs.YtdhlheilgagcpaaDoor
