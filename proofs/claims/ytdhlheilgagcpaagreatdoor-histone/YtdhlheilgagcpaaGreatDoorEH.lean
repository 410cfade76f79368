/- A line as an event, or its first fault; the contract of Parse. Conditions: the tables lie in memory; the line has at most 900,000 bytes. -/
import Derived.Test.YtdhlheilgagcpaaGreatDoorEG
namespace Go.Proofs.YtdhlheilgagcpaaGreatDoor
open Go.RowKit Go.PlainAid Ln
set_option linter.unusedVariables false
set_option linter.unusedSimpArgs false

theorem tail_le (sep : List UInt8) : ∀ (r : List (List UInt8)) (x : List UInt8), x ∈ r → x.length ≤ (Lib.joinTail sep r).length
  | [], x, h => by cases h
  | y :: r, x, h => by
    have e : Lib.joinTail sep (y :: r) = (sep ++ y) ++ Lib.joinTail sep r := by simp [Lib.joinTail]
    rw [e]
    rcases List.mem_cons.1 h with rfl | h
    · simp only [List.length_append]; omega
    · have := tail_le sep r x h
      simp only [List.length_append]; omega
theorem join_le (sep : List UInt8) (L : List (List UInt8)) (x : List UInt8) (h : x ∈ L) : x.length ≤ (Lib.join L sep).length := by
  cases L with
  | nil => cases h
  | cons y r =>
    rw [Lib.join_cons, List.length_append]
    rcases List.mem_cons.1 h with rfl | h
    · omega
    · have := tail_le sep r x h; omega
theorem pcs_le (c : UInt8) (l : List UInt8) (x : List UInt8) (h : x ∈ pcs c l) : x.length ≤ l.length := by
  have := join_le [c] (pcs c l) x h
  rwa [join_pcs] at this
theorem pcs_pos (c : UInt8) (l : List UInt8) : 0 < (pcs c l).length := by unfold pcs; simp
theorem note_le (s : List UInt8) : (noteR s).1.length ≤ s.length := by
  rcases cut_cases 59 s with ⟨h1, h2⟩ | ⟨a, b, h1, h2, h3⟩
  · rw [noteR_none s h1]; exact Nat.le_refl _
  · subst h1
    by_cases hp : noteP a b
    · rw [noteR_good a b h2 hp]; simp; omega
    · rw [noteR_bad a b h2 hp]; simp

/-- a variable of several cells within a block is written, at an operation -/
theorem wpo_storeB {P : Program} {o : Oper} {a : Act} {w : World} {Q : Exit → Act → World → Prop} {K : Act → World → Prop} (ty : TypeId) (x y : Operand) (g off : Nat) (vs c : List Value) (t : TypeId) (hi : (P.info? ty).map (·.size) = some vs.length) (hl : off + vs.length ≤ c.length) (h1 : ∀ v ∈ vs, v.oneCell' = true)
    (hop : o.op = .store ty x y) (hx : a.eval x = .pointer (some ⟨g, off, none⟩)) (hy : a.eval y = .agg vs.toArray) (hg : Blk w g c t)
    (hK : ∀ w', Blk w' g (c.take off ++ vs ++ c.drop (off + vs.length)) t → Oth g g w w' → K (a.put o.dst undef) w') : o.wp P a w K Q := by
  unfold Oper.wp execOp
  simp only [hop, hx, hy, Instr.storeAt, Instr.sureAddr, Sem.run_bind, Sem.run_pure, Result.andThen_ok, run_storeB ty g off vs c t hg hi hl h1]
  exact hK _ (setRow_heap w g _ _ t _ hg) (oth_setRow g w _)
/-- a function whose first result lies in a block of its own, the second in a slot -/
theorem ret_blk2 {P : Program} {fn : Func} {R : Ending → World → Prop} {a : Act} {w : World} {p u : Tmp} {ty : TypeId} (h : fn.results = #[.cell p ty, .tmp u]) (g : Nat) (c : List Value) (t : TypeId) (d : TypeDesc) (v : Value)
    (hu : P.underlying ty = some d) (hd : d.isRow = true) (hi : (P.info? ty).map (·.size) = some c.length)
    (hp : a.tmps.getD p undef = .pointer (some ⟨g, 0, none⟩)) (hr : Blk w g c t) (hv : a.tmps.getD u undef = v) (hdef : a.defers = []) (hR : R (.returned (.tuple #[.agg c.toArray, v])) w) : bodyPost P fn R .ret a w := by
  refine bodyPost_ret (v := .tuple #[.agg c.toArray, v]) ?_ hdef hR
  have hp' : a.tmps[p]?.getD undef = .pointer (some ⟨g, 0, none⟩) := by simpa using hp
  have hv' : a.tmps[u]?.getD undef = v := by simpa using hv
  have hl : (loadVar ty ⟨g, 0, none⟩).run P w = .ok (.agg c.toArray) w := by
    refine run_loadVar_row w g t ty c.toArray (0, 0) d hr hu ?_ (by simpa using hi)
    cases d <;> simp_all [TypeDesc.isRow]
  simp [results, h, hp', hv', asAddr, hl]

/-- the event of a line, and the first fault -/
def pE (s : List UInt8) : Ev × Int :=
  if (noteR s).2.2.2 = true ∧ [] ∉ pcs 32 (noteR s).1 ∧ eF 0 (pcs 32 (noteR s).1) = 0 then ({ eEv (pcs 32 (noteR s).1) with nd := (noteR s).2.2.1, n := bs (noteR s).2.1 }, 0)
  else if (noteR s).2.2.2 = true ∧ [] ∉ pcs 32 (noteR s).1 then (noEv, eF 0 (pcs 32 (noteR s).1))
  else (noEv, 2)
theorem sizeB : (Tryz.prog.info? 4).map (·.size) = some 1 := by kernel_rfl
/-- how Parse ends -/
def RParse (w : World) (s : List UInt8) (e : Ending) (w' : World) : Prop :=
  ∃ va vr, e = .returned (.tuple #[.agg (evC (pE s).1 va vr).toArray, .int .i64 (pE s).2]) ∧ OwnV w' w.heap.size va (pE s).1.a ∧ OwnV w' w.heap.size vr (pE s).1.r ∧ Below w.heap.size w w'
set_option maxRecDepth 100000 in
set_option maxHeartbeats 4000000 in
theorem eparse_any (s : ByteArray) (w : World) (ht : Tbs w) (hz : s.size ≤ 900000) : Calls Tryz.prog 13 #[.string s] w fun e w' => RParse w (tx s) e w' := by
  have mixed : Tryz.prog.follows .mixedOrders = true := by kernel_rfl
  have HT : Hid (Tbs w) := ht
  have hnl := note_le (tx s)
  rw [tx_len] at hnl
  unfold RParse pE
  obtain ⟨hd, hdE⟩ : ∃ hd, (noteR (tx s)).1 = hd := ⟨_, rfl⟩
  obtain ⟨nt1, hn1⟩ : ∃ nt1, (noteR (tx s)).2.1 = nt1 := ⟨_, rfl⟩
  obtain ⟨isn, hn2⟩ : ∃ isn, (noteR (tx s)).2.2.1 = isn := ⟨_, rfl⟩
  obtain ⟨gd, hn3⟩ : ∃ gd, (noteR (tx s)).2.2.2 = gd := ⟨_, rfl⟩
  have hN := fun w => note_any s w (by omega)
  unfold notA at hN
  rw [hdE, hn1, hn2, hn3] at hN ⊢
  rw [hdE] at hnl
  have B0 := Blk.new w (evC noEv nilS nilS) 37
  clear ht hdE hn1 hn2 hn3
  have hW := fun w => words_any (bs hd) w (by show hd.length ≤ _; omega)
  unfold PWords at hW
  rw [tx_bs] at hW
  have hZ : Hid (hd.length ≤ 900000) := by show _ ≤ _; omega
  cases gd
  · have hif : ¬ (false = true ∧ [] ∉ pcs 32 hd ∧ eF 0 (pcs 32 hd) = 0) := fun h => nomatch h.1
    have hif2 : ¬ (false = true ∧ [] ∉ pcs 32 hd) := fun h => nomatch h.1
    rw [if_neg hif, if_neg hif2]
    simp only [Bool.false_eq_true, if_false] at hN
    clear hif hif2 hW hnl
    go_enter Tryz.func13, Tryz.ntmps13
    go_wp2_with fail
    refine (hN _).mono ?_
    rintro e w1 ⟨rfl, b1⟩
    have B1 := B0.later b1
    have bel : Below w.heap.size w w1 := below_next (below_more (Below.refl _ _) _) b1
    go_wp2_with ((with_reducible refine wp_storeB 37 (.tmp 2) (.tmp 20) w.heap.size 0 (evC noEv nilS nilS) (evC noEv nilS nilS) 37 ?_ ?_ (evC_one _ rfl rfl) ?_ ?_ ?_ B1 ?_); (exact sizeE); (exact (show 0 + 14 ≤ 14 by decide)); (exact ⟨rfl, rfl⟩); (exact rfl); (exact rfl); (intro wx Rx ox))
    replace Rx : Blk wx w.heap.size (evC noEv nilS nilS) 37 := Rx
    refine ret_blk2 rfl w.heap.size (evC noEv nilS nilS) 37 _ (.int .i64 2) Tryz.underlying37 rfl sizeE rfl Rx rfl rfl ⟨nilS, nilS, rfl, OwnV.nil _ _, OwnV.nil _ _, below_oth bel ox (Nat.le_refl _) (Nat.le_refl _) (bel).size⟩
  simp only [if_true] at hN
  by_cases hm : [] ∈ pcs 32 hd
  · have hif : ¬ (true = true ∧ [] ∉ pcs 32 hd ∧ eF 0 (pcs 32 hd) = 0) := fun h => h.2.1 hm
    have hif2 : ¬ (true = true ∧ [] ∉ pcs 32 hd) := fun h => h.2 hm
    rw [if_neg hif, if_neg hif2]
    clear hif hif2 hnl
    have HM : Hid ([] ∈ pcs 32 hd) := hm
    clear hm
    go_enter Tryz.func13, Tryz.ntmps13
    go_wp2_with fail
    refine (hN _).mono ?_
    rintro e w1 ⟨rfl, b1⟩
    have B1 := B0.later b1
    have bel : Below w.heap.size w w1 := below_next (below_more (Below.refl _ _) _) b1
    go_wp2_with fail
    refine (hW _).mono ?_
    rintro e w2 ⟨v, b2, ⟨h1, _⟩ | ⟨_, rfl⟩⟩
    · exact absurd HM.out h1
    have B2 := B1.later b2
    have bel2 := below_next bel b2
    go_wp2_with ((with_reducible refine wp_storeB 37 (.tmp 2) (.tmp 29) w.heap.size 0 (evC noEv nilS nilS) (evC noEv nilS nilS) 37 ?_ ?_ (evC_one _ rfl rfl) ?_ ?_ ?_ B2 ?_); (exact sizeE); (exact (show 0 + 14 ≤ 14 by decide)); (exact ⟨rfl, rfl⟩); (exact rfl); (exact rfl); (intro wx Rx ox))
    replace Rx : Blk wx w.heap.size (evC noEv nilS nilS) 37 := Rx
    refine ret_blk2 rfl w.heap.size (evC noEv nilS nilS) 37 _ (.int .i64 2) Tryz.underlying37 rfl sizeE rfl Rx rfl rfl ⟨nilS, nilS, rfl, OwnV.nil _ _, OwnV.nil _ _, below_oth bel2 ox (Nat.le_refl _) (Nat.le_refl _) (bel2).size⟩
  obtain ⟨L, hL⟩ : ∃ L, pcs 32 hd = L := ⟨_, rfl⟩
  have HSm : Hid (Sm L) := fun x hx => by have := pcs_le 32 hd x (by rw [hL]; exact hx); have := hZ.out; omega
  have HLN : Hid (L.length ≤ 900001) := by show _ ≤ _; rw [← hL]; have := pcs_len 32 hd; have := hZ.out; omega
  have HLP : Hid (0 < L.length) := by show _ < _; rw [← hL]; exact pcs_pos 32 hd
  have HM : Hid ([] ∉ L) := by rw [← hL]; exact hm
  rw [hL] at hW ⊢
  clear hL hm hnl
  obtain ⟨F, hF⟩ : ∃ F, eF 0 L = F := ⟨_, rfl⟩
  obtain ⟨X, hX⟩ : ∃ X, eEv L = X := ⟨_, rfl⟩
  by_cases hF0 : F = 0
  · have hne : (F != 0) = false := by simp [hF0]
    have G : Calls Tryz.prog 13 #[.string s] w fun e w' => ∃ va vr, e = .returned (.tuple #[.agg (evC ({ X with nd := isn, n := bs nt1 } : Ev) va vr).toArray, .int .i64 0]) ∧ OwnV w' w.heap.size va ({ X with nd := isn, n := bs nt1 } : Ev).a ∧ OwnV w' w.heap.size vr ({ X with nd := isn, n := bs nt1 } : Ev).r ∧ Below w.heap.size w w' := by
      clear hF0
      go_enter Tryz.func13, Tryz.ntmps13
      go_wp2_with fail
      refine (hN _).mono ?_
      rintro e w1 ⟨rfl, b1⟩
      have B1 := B0.later b1
      have bel : Below w.heap.size w w1 := below_next (below_more (Below.refl _ _) _) b1
      go_wp2_with fail
      refine (hW _).mono ?_
      rintro e w2 ⟨v, b2, ⟨_, rfl, hS⟩ | ⟨h1, _⟩⟩
      case inr => exact absurd h1 HM.out
      have B2 := B1.later b2
      have bel2 := below_next bel b2
      obtain ⟨a, c, rfl, _, _, _⟩ := hS.form
      have hlo : LoB w2.heap.size (.slice a L.length c) := fun g hg => by
        obtain ⟨b, o, rfl, hb⟩ := hS.block HLP.out
        have e : b = g := by simpa [Value.ownBlock] using hg
        omega
      have hq1 : w.heap.size < w2.heap.size := B2.lt
      have hR : Rdr (w2.alloc (.cells #[.slice a L.length c, .int .i64 0] 69)) w2.heap.size L 0 := ⟨_, Blk.new w2 [.slice a L.length c, .int .i64 0] 69, hS.later (below_more (Below.refl _ _) _), hlo⟩
      have B3 := B2.alloc (.cells #[.slice a L.length c, .int .i64 0] 69)
      have bel3 : Below w.heap.size w (w2.alloc (.cells #[.slice a L.length c, .int .i64 0] 69)) := below_more bel2 _
      have HLL : Hid (∃ n, L.length = n) := ⟨_, rfl⟩
      obtain ⟨p, hp⟩ : ∃ p, w2.heap.size = p := ⟨_, rfl⟩
      have hE := rd_event w2.heap.size L 0 _ w hR HSm.out HT.out bel3 (Nat.le_of_lt hq1) HLN.out
      unfold REvent at hE
      rw [hp, hF, hX] at hE
      rw [hp] at hq1
      clear b1 B1 bel b2 hS hlo B2 bel2 HLL hR
      go_wp2_with fail
      refine hE.mono ?_
      rintro e w4 ⟨va, vr, L', rfl, hR4, Va, Vr, o4⟩
      have l2 : w.heap.size ≤ p + 1 := by omega
      have l3 : (w2.alloc (.cells #[.slice a L.length c, .int .i64 0] 69)).heap.size = p + 1 := by rw [World.size_alloc, hp]
      rw [l3] at Va Vr
      have B4 := B3.oth o4 (by omega) (by omega)
      have bel4 := below_oth bel3 o4 (Nat.le_of_lt hq1) (Nat.le_of_lt hq1) bel3.size
      replace Va := OwnV.base Va l2
      replace Vr := OwnV.base Vr l2
      have oa : va.oneCell' = true := by obtain ⟨a1, c1, e1⟩ := Va.form; rw [e1]; rfl
      have ob : vr.oneCell' = true := by obtain ⟨a1, c1, e1⟩ := Vr.form; rw [e1]; rfl
      clear hE B3 bel3 o4 l3 l2 hp
      have hp4 := hR4.lt
      have hz4 := B4.lt
      have Bq0 : Blk (w4.alloc (.cells #[.int .i64 0, .int .i64 0, .int .i64 0, .string ⟨#[]⟩, .int .i64 0, .int .i64 0, .int .i64 0, .int .i64 0, .string ⟨#[]⟩, .int .i64 0, .slice none 0 0, .slice none 0 0, .bool false, .string ⟨#[]⟩] 37)) w4.heap.size (evC noEv nilS nilS) 37 := Blk.new w4 (evC noEv nilS nilS) 37
      have R0 : Rdr (w4.alloc (.cells #[.int .i64 0, .int .i64 0, .int .i64 0, .string ⟨#[]⟩, .int .i64 0, .int .i64 0, .int .i64 0, .int .i64 0, .string ⟨#[]⟩, .int .i64 0, .slice none 0 0, .slice none 0 0, .bool false, .string ⟨#[]⟩] 37)) p L' F := hR4.later (below_more (Below.refl _ _) _)
      have A0 : OwnV (w4.alloc (.cells #[.int .i64 0, .int .i64 0, .int .i64 0, .string ⟨#[]⟩, .int .i64 0, .int .i64 0, .int .i64 0, .int .i64 0, .string ⟨#[]⟩, .int .i64 0, .slice none 0 0, .slice none 0 0, .bool false, .string ⟨#[]⟩] 37)) w.heap.size va X.a := Va.later (below_more (Below.refl _ _) _)
      have V0 : OwnV (w4.alloc (.cells #[.int .i64 0, .int .i64 0, .int .i64 0, .string ⟨#[]⟩, .int .i64 0, .int .i64 0, .int .i64 0, .int .i64 0, .string ⟨#[]⟩, .int .i64 0, .slice none 0 0, .slice none 0 0, .bool false, .string ⟨#[]⟩] 37)) w.heap.size vr X.r := Vr.later (below_more (Below.refl _ _) _)
      have C0 : Blk (w4.alloc (.cells #[.int .i64 0, .int .i64 0, .int .i64 0, .string ⟨#[]⟩, .int .i64 0, .int .i64 0, .int .i64 0, .int .i64 0, .string ⟨#[]⟩, .int .i64 0, .slice none 0 0, .slice none 0 0, .bool false, .string ⟨#[]⟩] 37)) w.heap.size (evC noEv nilS nilS) 37 := B4.alloc _
      have bel5 : Below w.heap.size w (w4.alloc (.cells #[.int .i64 0, .int .i64 0, .int .i64 0, .string ⟨#[]⟩, .int .i64 0, .int .i64 0, .int .i64 0, .int .i64 0, .string ⟨#[]⟩, .int .i64 0, .slice none 0 0, .slice none 0 0, .bool false, .string ⟨#[]⟩] 37)) := below_more bel4 _
      clear hR4 Va Vr B4 bel4
      go_wp2_with (first
        | ((with_reducible refine wp_storeB 37 (.tmp 10) (.tmp 34) w4.heap.size 0 (evC X va vr) (evC noEv nilS nilS) 37 ?_ ?_ (evC_one _ oa ob) ?_ ?_ ?_ Bq0 ?_); (exact sizeE); (exact (show 0 + 14 ≤ 14 by decide)); (exact ⟨rfl, rfl⟩); (exact rfl); (exact rfl); (intro w6 Bq6 o6); (replace Bq6 : Blk w6 w4.heap.size (evC X va vr) 37 := Bq6); (have R6 := R0.oth o6 hp4); (have A6 := OwnV.oth A0 o6 Bq0 (by decide)); (have V6 := OwnV.oth V0 o6 Bq0 (by decide)); (have C6 := C0.oth o6 (by omega) (by omega)); (have bel6 := below_oth bel5 o6 (by omega) (by omega) bel5.size); (obtain ⟨v6, k6, _⟩ := R6); (have c1 := k6.cell 1 (.int .i64 F) rfl); clear o6 Bq0 R0 A0 V0 C0 bel5)
        | ((with_reducible refine wp_storeC 4 (.tmp 43) (.tmp 41) w4.heap.size 12 (.bool isn) (evC X va vr) 37 ?_ ?_ ?_ ?_ ?_ ?_ ?_ Bq6 ?_); (exact sizeB); (exact (show 12 < 14 by decide)); (exact rfl); (exact rfl); (exact ⟨rfl, rfl⟩); (exact rfl); (exact rfl); (intro w7 Bq7 o7); (replace Bq7 : Blk w7 w4.heap.size (evC { X with nd := isn } va vr) 37 := Bq7); (have A7 := OwnV.oth A6 o7 Bq6 (by decide)); (have V7 := OwnV.oth V6 o7 Bq6 (by decide)); (have C7 := C6.oth o7 (by omega) (by omega)); (have bel7 := below_oth bel6 o7 (by omega) (by omega) bel6.size); clear o7 Bq6 A6 V6 C6 bel6 c1 k6)
        | ((with_reducible refine wp_storeC 9 (.tmp 44) (.tmp 42) w4.heap.size 13 (.string (bs nt1)) (evC { X with nd := isn } va vr) 37 ?_ ?_ ?_ ?_ ?_ ?_ ?_ Bq7 ?_); (exact infoS1); (exact (show 13 < 14 by decide)); (exact rfl); (exact rfl); (exact ⟨rfl, rfl⟩); (exact rfl); (exact rfl); (intro w8 Bq8 o8); (replace Bq8 : Blk w8 w4.heap.size (evC { X with nd := isn, n := bs nt1 } va vr) 37 := Bq8); (have A8 := OwnV.oth A7 o8 Bq7 (by decide)); (have V8 := OwnV.oth V7 o8 Bq7 (by decide)); (have C8 := C7.oth o8 (by omega) (by omega)); (have bel8 := below_oth bel7 o8 (by omega) (by omega) bel7.size); clear o8 Bq7 A7 V7 C7 bel7)
        | ((with_reducible refine wp_loadB 37 (.tmp 10) w4.heap.size 0 (evC { X with nd := isn, n := bs nt1 } va vr) (evC { X with nd := isn, n := bs nt1 } va vr) 37 _ Tryz.underlying37 ?_ ?_ ?_ ?_ Bq8 (fun j v hv => by rw [Nat.zero_add]; exact hv) ?_); (exact rfl); (exact sizeE); (exact ⟨rfl, rfl⟩); (exact rfl))
        | ((with_reducible refine wp_storeB 37 (.tmp 2) (.tmp 45) w.heap.size 0 (evC { X with nd := isn, n := bs nt1 } va vr) (evC noEv nilS nilS) 37 ?_ ?_ (evC_one _ oa ob) ?_ ?_ ?_ C8 ?_); (exact sizeE); (exact (show 0 + 14 ≤ 14 by decide)); (exact ⟨rfl, rfl⟩); (exact rfl); (exact rfl); (intro wx Rx ox)))
      replace Rx : Blk wx w.heap.size (evC { X with nd := isn, n := bs nt1 } va vr) 37 := Rx
      refine ret_blk2 rfl w.heap.size (evC { X with nd := isn, n := bs nt1 } va vr) 37 _ (.int .i64 0) Tryz.underlying37 rfl sizeE rfl Rx rfl rfl ?_
      exact ⟨va, vr, rfl, OwnV.oth A8 ox C8 (by decide), OwnV.oth V8 ox C8 (by decide), below_oth bel8 ox (Nat.le_refl _) (Nat.le_refl _) bel8.size⟩
    rw [hF, hX, if_pos ⟨rfl, HM.out, hF0⟩]
    exact G
  · have hne : (F != 0) = true := by simp [hF0]
    have G : Calls Tryz.prog 13 #[.string s] w fun e w' => ∃ va vr, e = .returned (.tuple #[.agg (evC noEv va vr).toArray, .int .i64 F]) ∧ OwnV w' w.heap.size va noEv.a ∧ OwnV w' w.heap.size vr noEv.r ∧ Below w.heap.size w w' := by
      clear hF0
      go_enter Tryz.func13, Tryz.ntmps13
      go_wp2_with fail
      refine (hN _).mono ?_
      rintro e w1 ⟨rfl, b1⟩
      have B1 := B0.later b1
      have bel : Below w.heap.size w w1 := below_next (below_more (Below.refl _ _) _) b1
      go_wp2_with fail
      refine (hW _).mono ?_
      rintro e w2 ⟨v, b2, ⟨_, rfl, hS⟩ | ⟨h1, _⟩⟩
      case inr => exact absurd h1 HM.out
      have B2 := B1.later b2
      have bel2 := below_next bel b2
      obtain ⟨a, c, rfl, _, _, _⟩ := hS.form
      have hlo : LoB w2.heap.size (.slice a L.length c) := fun g hg => by
        obtain ⟨b, o, rfl, hb⟩ := hS.block HLP.out
        have e : b = g := by simpa [Value.ownBlock] using hg
        omega
      have hq1 : w.heap.size < w2.heap.size := B2.lt
      have hR : Rdr (w2.alloc (.cells #[.slice a L.length c, .int .i64 0] 69)) w2.heap.size L 0 := ⟨_, Blk.new w2 [.slice a L.length c, .int .i64 0] 69, hS.later (below_more (Below.refl _ _) _), hlo⟩
      have B3 := B2.alloc (.cells #[.slice a L.length c, .int .i64 0] 69)
      have bel3 : Below w.heap.size w (w2.alloc (.cells #[.slice a L.length c, .int .i64 0] 69)) := below_more bel2 _
      have HLL : Hid (∃ n, L.length = n) := ⟨_, rfl⟩
      obtain ⟨p, hp⟩ : ∃ p, w2.heap.size = p := ⟨_, rfl⟩
      have hE := rd_event w2.heap.size L 0 _ w hR HSm.out HT.out bel3 (Nat.le_of_lt hq1) HLN.out
      unfold REvent at hE
      rw [hp, hF, hX] at hE
      rw [hp] at hq1
      clear b1 B1 bel b2 hS hlo B2 bel2 HLL hR
      go_wp2_with fail
      refine hE.mono ?_
      rintro e w4 ⟨va, vr, L', rfl, hR4, Va, Vr, o4⟩
      have l2 : w.heap.size ≤ p + 1 := by omega
      have l3 : (w2.alloc (.cells #[.slice a L.length c, .int .i64 0] 69)).heap.size = p + 1 := by rw [World.size_alloc, hp]
      rw [l3] at Va Vr
      have B4 := B3.oth o4 (by omega) (by omega)
      have bel4 := below_oth bel3 o4 (Nat.le_of_lt hq1) (Nat.le_of_lt hq1) bel3.size
      replace Va := OwnV.base Va l2
      replace Vr := OwnV.base Vr l2
      have oa : va.oneCell' = true := by obtain ⟨a1, c1, e1⟩ := Va.form; rw [e1]; rfl
      have ob : vr.oneCell' = true := by obtain ⟨a1, c1, e1⟩ := Vr.form; rw [e1]; rfl
      clear hE B3 bel3 o4 l3 l2 hp
      have hp4 := hR4.lt
      have hz4 := B4.lt
      have Bq0 : Blk (w4.alloc (.cells #[.int .i64 0, .int .i64 0, .int .i64 0, .string ⟨#[]⟩, .int .i64 0, .int .i64 0, .int .i64 0, .int .i64 0, .string ⟨#[]⟩, .int .i64 0, .slice none 0 0, .slice none 0 0, .bool false, .string ⟨#[]⟩] 37)) w4.heap.size (evC noEv nilS nilS) 37 := Blk.new w4 (evC noEv nilS nilS) 37
      have R0 : Rdr (w4.alloc (.cells #[.int .i64 0, .int .i64 0, .int .i64 0, .string ⟨#[]⟩, .int .i64 0, .int .i64 0, .int .i64 0, .int .i64 0, .string ⟨#[]⟩, .int .i64 0, .slice none 0 0, .slice none 0 0, .bool false, .string ⟨#[]⟩] 37)) p L' F := hR4.later (below_more (Below.refl _ _) _)
      have A0 : OwnV (w4.alloc (.cells #[.int .i64 0, .int .i64 0, .int .i64 0, .string ⟨#[]⟩, .int .i64 0, .int .i64 0, .int .i64 0, .int .i64 0, .string ⟨#[]⟩, .int .i64 0, .slice none 0 0, .slice none 0 0, .bool false, .string ⟨#[]⟩] 37)) w.heap.size va X.a := Va.later (below_more (Below.refl _ _) _)
      have V0 : OwnV (w4.alloc (.cells #[.int .i64 0, .int .i64 0, .int .i64 0, .string ⟨#[]⟩, .int .i64 0, .int .i64 0, .int .i64 0, .int .i64 0, .string ⟨#[]⟩, .int .i64 0, .slice none 0 0, .slice none 0 0, .bool false, .string ⟨#[]⟩] 37)) w.heap.size vr X.r := Vr.later (below_more (Below.refl _ _) _)
      have C0 : Blk (w4.alloc (.cells #[.int .i64 0, .int .i64 0, .int .i64 0, .string ⟨#[]⟩, .int .i64 0, .int .i64 0, .int .i64 0, .int .i64 0, .string ⟨#[]⟩, .int .i64 0, .slice none 0 0, .slice none 0 0, .bool false, .string ⟨#[]⟩] 37)) w.heap.size (evC noEv nilS nilS) 37 := B4.alloc _
      have bel5 : Below w.heap.size w (w4.alloc (.cells #[.int .i64 0, .int .i64 0, .int .i64 0, .string ⟨#[]⟩, .int .i64 0, .int .i64 0, .int .i64 0, .int .i64 0, .string ⟨#[]⟩, .int .i64 0, .slice none 0 0, .slice none 0 0, .bool false, .string ⟨#[]⟩] 37)) := below_more bel4 _
      clear hR4 Va Vr B4 bel4
      go_wp2_with ((with_reducible refine wp_storeB 37 (.tmp 10) (.tmp 34) w4.heap.size 0 (evC X va vr) (evC noEv nilS nilS) 37 ?_ ?_ (evC_one _ oa ob) ?_ ?_ ?_ Bq0 ?_); (exact sizeE); (exact (show 0 + 14 ≤ 14 by decide)); (exact ⟨rfl, rfl⟩); (exact rfl); (exact rfl); (intro w6 Bq6 o6); (have R6 := R0.oth o6 hp4); (have C6 := C0.oth o6 (by omega) (by omega)); (have bel6 := below_oth bel5 o6 (by omega) (by omega) bel5.size); (obtain ⟨v6, k6, _⟩ := R6); (have c1 := k6.cell 1 (.int .i64 F) rfl); clear o6 Bq0 R0 A0 V0 C0 bel5 Bq6)
      rename_i K8 hK8
      have k7 := k6.drew
      have C7 := C6.drew
      have bel7 : Below w.heap.size w { w6 with drawn := w6.drawn + 1 } := ⟨bel6.os, bel6.tape, bel6.output, bel6.size, bel6.block⟩
      clear c1 k6 C6 bel6
      refine wp_region_held (S := fun w' => Blk w' p [v6, .int .i64 F] 69) mixed ?_
      generalize ({ w6 with drawn := w6.drawn + 1 } : World) = w7 at k7 C7 bel7 ⊢
      have HW := k7
      refine takeH 0 38 (.agg #[.int .i64 0, .int .i64 0, .int .i64 0, .string ⟨#[]⟩, .int .i64 0, .int .i64 0, .int .i64 0, .int .i64 0, .string ⟨#[]⟩, .int .i64 0, .slice none 0 0, .slice none 0 0, .bool false, .string ⟨#[]⟩]) rfl rfl (by kernel_rfl) (by kernel_rfl) (by kernel_rfl) (fun c a w h => h) (.inl ⟨rfl, fun w _ => by go_simp⟩) HW ?_
      simp only [List.setIfInBounds_toArray, List.set_cons_zero, List.set_cons_succ]
      refine takeH 1 39 (.pointer (some ⟨p, 1, none⟩)) rfl rfl (by kernel_rfl) (by kernel_rfl) (by kernel_rfl) (fun c a w h => h) (.inl ⟨rfl, fun w _ => by go_simp⟩) HW ?_
      simp only [List.setIfInBounds_toArray, List.set_cons_zero, List.set_cons_succ]
      refine takeH 2 40 (.int .i64 F) rfl rfl (by kernel_rfl) (by kernel_rfl) (by kernel_rfl) (fun c a w h => h) (.inl ⟨rfl, fun wx hx => by have c := Blk.cell hx 1 (.int .i64 F) rfl; go_simp⟩) HW ?_
      simp only [List.setIfInBounds_toArray, List.set_cons_zero, List.set_cons_succ]
      refine wpAnyH_all (rs := [3]) (by kernel_rfl) (by simp) (fun i hi => ?_)
      obtain rfl : i = 3 := by simpa using hi
      refine wpOp_doG 3 (by rfl) (by rfl) ?_
      refine wpo_storeB 37 (.tmp 2) (.tmp 38) w.heap.size 0 (evC noEv nilS nilS) (evC noEv nilS nilS) 37 sizeE (show 0 + 14 ≤ 14 by decide) (evC_one _ rfl rfl) rfl rfl rfl C7 ?_
      intro wx Rx ox
      change _ ∧ wpAnyH _ _ _ _ _ _ _ (Act.mk _ _) _
      replace Rx : Blk wx w.heap.size (evC noEv nilS nilS) 37 := Rx
      have k9 := Blk.oth k7 ox (by omega) (by omega)
      have bel9 := below_oth bel7 ox (Nat.le_refl _) (Nat.le_refl _) bel7.size
      refine ⟨k9, ?_⟩
      clear HW k7 C7 bel7 ox
      have HW := k9
      refine takeH 4 3 (.int .i64 F) rfl rfl (by kernel_rfl) (by kernel_rfl) (by kernel_rfl) (fun c a w h => h) (.inl ⟨rfl, fun w _ => rfl⟩) HW ?_
      simp only [List.setIfInBounds_toArray, List.set_cons_zero, List.set_cons_succ]
      refine wpAnyH_done (by kernel_rfl) ?_ _
      show K8 _ _
      apply hK8
      clear hK8
      go_wp2
      refine ret_blk2 rfl w.heap.size (evC noEv nilS nilS) 37 _ (.int .i64 F) Tryz.underlying37 rfl sizeE rfl Rx rfl rfl ?_
      exact ⟨nilS, nilS, rfl, OwnV.nil _ _, OwnV.nil _ _, bel9⟩
    rw [hF, hX, if_neg (fun h => hF0 h.2.2), if_pos ⟨rfl, HM.out⟩]
    exact G
end Go.Proofs.YtdhlheilgagcpaaGreatDoor
