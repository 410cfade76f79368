/- The contract of the document's left: the pushes that no pop has taken. Conditions: each deed is one of a queue's or a stack's; sizes. -/
import Derived.Test.YthgafmhpajikdaaDoorKF
import Derived.Test.YthgafmhpajikdaaDoorUG
namespace Go.Proofs.YthgafmhpajikdaaDoor
open Go.RowKit Go.PlainAid Ln Go.Sort
set_option linter.unusedVariables false
set_option linter.unusedSimpArgs false

/-! ### marks in memory -/
def gB (g : Nat → Bool) (n : Nat) : List Value := (List.range n).map fun k => Value.bool (g k)
theorem gB_len (g : Nat → Bool) (n : Nat) : (gB g n).length = n := by unfold gB; simp
theorem gB_at (g : Nat → Bool) (n k : Nat) (h : k < n) : (gB g n)[k]? = some (.bool (g k)) := by unfold gB; simp [h]
theorem gB_set {g g' : Nat → Bool} {n j : Nat} (h : ∀ k, g' k = if k = j then true else g k) : (gB g n).set j (.bool true) = gB g' n := by
  unfold gB
  refine List.ext_getElem (by simp) fun i h1 h2 => ?_
  have hi : i < n := by simpa using h2
  rw [List.getElem_set]
  simp only [List.getElem_map, List.getElem_range]
  rw [h i]
  by_cases e : j = i
  · rw [if_pos e, if_pos e.symm]
  · rw [if_neg e, if_neg (fun k => e k.symm)]
theorem gB_congr {g g' : Nat → Bool} {n : Nat} (h : ∀ k, k < n → g k = g' k) : gB g n = gB g' n := by
  unfold gB
  refine List.map_congr_left fun k hk => ?_
  rw [h k (List.mem_range.1 hk)]
theorem infoB : (Tryd.prog.info? 4).map (fun i => (i.zero, i.size, i.bytes)) = some (some (.bool false), 1, 1) := by kernel_rfl
theorem infoB1 : (Tryd.prog.info? 4).map (·.size) = some 1 := by kernel_rfl
theorem makeB (n : Nat) (hn : n ≤ 1000000) (w : World) : (Instr.makeSlice 63 (.int .i64 (n : Int)) (.int .i64 (n : Int))).run Tryd.prog w = .ok (.slice (some ⟨w.heap.size, 0, none⟩) n n) (w.alloc (.cells (gB (fun _ => false) n).toArray 4)) := by
  have h := run_make_row' (P := Tryd.prog) 63 4 (.bool false) 1 Tryd.underlying63 infoB rfl .i64 .i64 n (by omega) (by omega) w
  have e : madeCells #[Value.bool false] n = (gB (fun _ => false) n).toArray := by
    have : (madeCells #[Value.bool false] n).toList = gB (fun _ => false) n := by
      rw [toList_madeCells_one]
      unfold gB
      refine List.ext_getElem (by simp) fun i h1 h2 => ?_
      simp
    rw [← this]
  rw [e] at h
  exact h
theorem dq_map {ys : List YD} {k : Nat} (h : k < ys.length) : dq (ys.map (·.1)) k = (yd ys k).1 := by
  rw [dq_eq _ k (by simpa using h), List.getElem_map, yd_eq ys k h]
theorem atQ_lt (m : Int) (past : List Dd) (g : Nat → Bool) (i : Nat) : atQ m past g i = -1 ∨ ∃ k : Nat, atQ m past g i = (k : Int) ∧ k < i := by
  rcases atQ_idx m past g i with ⟨_, h⟩ | ⟨k, h1, h2, _⟩
  · exact .inl h
  · exact .inr ⟨k, h1, h2⟩
set_option maxRecDepth 100000 in
set_option maxHeartbeats 16000000 in
theorem left_any (m : Int) (v : Value) (ys : List YD) (w : World) (hv : DSl w v ys) (hi : InD w ys) (hk : ∀ i, i < ys.length → OkQ (yd ys i).1) (hl : ys.length ≤ 1000) :
    Calls Tryd.prog 21 #[.int .i64 m, v] w fun e w' => ∃ l, e = .returned l ∧ OwnV w' w.heap.size l (keptQ m (ys.map (·.1))) ∧ Below w.heap.size w w' := by
  obtain ⟨a, c, rfl, hc1, hc2, _⟩ := hv.form
  have HV : Hid (DSl w (.slice a ys.length c) ys) := hv
  have HI : Hid (InD w ys) := hi
  have HK : Hid (∀ i, i < ys.length → OkQ (yd ys i).1) := hk
  have HD : Hid (∀ k, k < ys.length → dq (ys.map (·.1)) k = (yd ys k).1) := fun k h => dq_map h
  have HE : Hid (valsQ (ys.map (·.1)) (idxQ (ys.map (·.1)) (marksQ m (ys.map (·.1)) ys.length) ys.length) = keptQ m (ys.map (·.1))) := by
    have := left_kept m (ys.map (·.1))
    rw [List.length_map] at this
    exact this
  clear hv hi hk
  generalize keptQ m (ys.map (·.1)) = kb at *
  generalize ys.map (·.1) = P at *
  obtain ⟨n, hn⟩ : ∃ n, ys.length = n := ⟨_, rfl⟩
  have HN : Hid (ys.length = n) := hn
  rw [hn] at hc1 HV HK HD HE hl ⊢
  clear hn
  have hmk := makeB n (by omega) w
  have HG0 : Hid (Blk (w.alloc (.cells (gB (fun _ => false) n).toArray 4)) w.heap.size (gB (fun _ => false) n) 4) := Blk.new w _ _
  have HB0 : Hid (Below w.heap.size w (w.alloc (.cells (gB (fun _ => false) n).toArray 4))) := below_box w _
  go_enter Tryd.func21, Tryd.ntmps21
  go_wp2
  generalize w.alloc (.cells (gB (fun _ => false) n).toArray 4) = w1 at HG0 HB0 ⊢
  clear hmk
  go_loopw [6] (fun i wr => ∃ k : Nat, k ≤ n ∧ i = .int .i64 (k : Int) ∧ Blk wr w.heap.size (gB (marksQ m P k) n) 4 ∧ Below w.heap.size w wr) (fun i wr => n - (intOf i).toNat)
  case atStart => exact ⟨0, Nat.zero_le _, rfl, HG0.out, HB0.out⟩
  case round =>
    obtain ⟨k, hk, rfl, hg, hb⟩ := hrel
    have HG : Hid (Blk wr w.heap.size (gB (marksQ m P k) n) 4) := hg
    have HB : Hid (Below w.heap.size w wr) := hb
    clear hg hb HG0 HB0
    by_cases hlt : k < n
    · have hlt' : (k : Int) < (n : Int) := by omega
      have hkm : (k : Int) + 1 ≤ 9223372036854775807 := by omega
      obtain ⟨b, o, rfl, hbl, hat⟩ := HV.out.near (by rw [HN.out]; omega)
      have HAt : Hid (∀ r, r < n → w.rangeAt b (o + r * 5) (encD (yd ys r))) := fun r hr => hat r (by rw [HN.out]; exact hr)
      have HBl : Hid (b < w.heap.size) := hbl
      have d3 := (HB.out.cell (p := ⟨b, o + k * 5 + 3, none⟩) hbl).trans (dd_at (HAt.out k hlt)).2.2.2.1
      have HMk : Hid (∀ j, marksQ m P (k + 1) j = if (dq P k).o = 10 ∧ atQ m P (marksQ m P k) k = (j : Int) then true else marksQ m P k j) := fun j => rfl
      rw [HD.out k hlt] at HMk
      clear hat hbl
      obtain ⟨oo, hoo⟩ : ∃ oo, (yd ys k).1.o = oo := ⟨_, rfl⟩
      rw [hoo] at d3 HMk
      clear hoo
      obtain ⟨g2, hg2⟩ : ∃ g2, marksQ m P (k + 1) = g2 := ⟨_, rfl⟩
      have HG2 : Hid (marksQ m P (k + 1) = g2) := hg2
      obtain ⟨g, hg⟩ : ∃ g, marksQ m P k = g := ⟨_, rfl⟩
      rw [hg2, hg] at HMk
      rw [hg] at HG
      clear hg hg2
      by_cases h10 : oo = 10
      · subst h10
        go_wp2_with fail
        go_loopw [7, 8] (fun at' j wr' => ∃ r : Nat, r ≤ k ∧ j = .int .i64 (r : Int) ∧ at' = .int .i64 (atQ m P g r) ∧ wr = wr') (fun at' j wr' => k - (intOf j).toNat)
        case atStart => exact ⟨0, Nat.zero_le _, rfl, rfl, rfl⟩
        case round =>
          obtain ⟨r, hr, rfl, rfl, rfl⟩ := hrel
          by_cases hrk : r < k
          · have hrk' : (r : Int) < (k : Int) := by omega
            have hrn : r < n := by omega
            have hrn' : (r : Int) < (n : Int) := by omega
            have hrm : (r : Int) + 1 ≤ 9223372036854775807 := by omega
            have c3 := (HB.out.cell (p := ⟨b, o + r * 5 + 3, none⟩) HBl.out).trans (dd_at (HAt.out r hrn)).2.2.2.1
            have cg := HG.out.cell r _ (gB_at g n r hrn)
            have HO : Hid (openK P g r = (decide ((yd ys r).1.o = 9) && !g r)) := by show _ = _; unfold openK; rw [HD.out r hrn]
            have HS : Hid (atQ m P g (r + 1) = if openK P g r = true ∧ (m = 6 ∨ atQ m P g r < 0) then (r : Int) else atQ m P g r) := rfl
            obtain ⟨o9, ho9⟩ : ∃ o9, (yd ys r).1.o = o9 := ⟨_, rfl⟩
            rw [ho9] at c3 HO
            clear ho9
            generalize openK P g r = op at HO HS
            obtain ⟨gr, hgr⟩ : ∃ gr, g r = gr := ⟨_, rfl⟩
            rw [hgr] at cg HO
            clear hgr
            obtain ⟨at1, ha1⟩ : ∃ at1, atQ m P g r = at1 := ⟨_, rfl⟩
            rw [ha1] at HS ⊢
            clear ha1
            by_cases h9 : o9 = 9
            · subst h9
              cases gr
              · have HOp : Hid (op = true) := HO.out
                by_cases h6 : m = 6
                · have HA2 : Hid (atQ m P g (r + 1) = (r : Int)) := by show _ = _; rw [HS.out, if_pos ⟨HOp.out, .inl h6⟩]
                  subst h6
                  go_wp2
                  go_roundw
                  case rel => exact ⟨r + 1, by omega, by go_num, by rw [HA2.out], by first | rfl | trivial⟩
                  case measure => simp [intOf]; omega
                · have e6 : (m == 6) = false := by simp [h6]
                  by_cases ha : at1 < 0
                  · have HA2 : Hid (atQ m P g (r + 1) = (r : Int)) := by show _ = _; rw [HS.out, if_pos ⟨HOp.out, .inr ha⟩]
                    go_wp2
                    go_roundw
                    case rel => exact ⟨r + 1, by omega, by go_num, by rw [HA2.out], by first | rfl | trivial⟩
                    case measure => simp [intOf]; omega
                  · have HA2 : Hid (atQ m P g (r + 1) = at1) := by show _ = _; rw [HS.out, if_neg (fun k => k.2.elim h6 ha)]
                    go_wp2
                    go_roundw
                    case rel => exact ⟨r + 1, by omega, by go_num, by rw [HA2.out], by first | rfl | trivial⟩
                    case measure => simp [intOf]; omega
              · have HA2 : Hid (atQ m P g (r + 1) = at1) := by show _ = _; rw [HS.out, if_neg (fun k => by have := HO.out; rw [k.1] at this; cases this)]
                go_wp2
                go_roundw
                case rel => exact ⟨r + 1, by omega, by go_num, by rw [HA2.out], by first | rfl | trivial⟩
                case measure => simp [intOf]; omega
            · have e9 : (o9 == 9) = false := by simp [h9]
              have HA2 : Hid (atQ m P g (r + 1) = at1) := by show _ = _; rw [HS.out, if_neg (fun k => by have := HO.out; rw [k.1, decide_eq_false h9] at this; cases this)]
              go_wp2
              go_roundw
              case rel => exact ⟨r + 1, by omega, by go_num, by rw [HA2.out], by first | rfl | trivial⟩
              case measure => simp [intOf]; omega
          · have er : r = k := by omega
            subst er
            rcases atQ_lt m P g r with ha | ⟨q, ha, hq⟩
            · have HSm : Hid (gB g n = gB (marksQ m P (r + 1)) n) := gB_congr fun j _ => by rw [HG2.out, HMk.out j, if_neg (fun h => by rw [ha] at h; omega)]
              rw [ha]
              go_wp2
              go_roundw
              case rel => exact ⟨r + 1, by omega, by go_num, HSm.out ▸ HG.out, HB.out⟩
              case measure => simp [intOf]; omega
            · have HSm : Hid ((gB g n).set q (.bool true) = gB (marksQ m P (r + 1)) n) := gB_set fun j => by
                rw [HG2.out, HMk.out j]
                by_cases e : j = q
                · rw [if_pos e, if_pos ⟨by first | rfl | trivial, by rw [ha, e]⟩]
                · rw [if_neg e, if_neg (fun h => e (by rw [ha] at h; omega))]
              rw [ha]
              have hqn : q < n := by omega
              have hqn' : (q : Int) < (n : Int) := by omega
              have hq0 : (q : Int) ≥ 0 := by omega
              go_wp2_with ((with_reducible refine wp_storeC 4 (.tmp 57) (.const (.bool true)) w.heap.size q (.bool true) (gB g n) 4 infoB1 (by rw [gB_len]; exact hqn) rfl rfl ?_ ?_ ?_ HG.out ?_); (exact ⟨rfl, rfl⟩); (exact rfl); (exact rfl); (intro w8 D8 o8); (have HG8 : Hid (Blk w8 w.heap.size ((gB g n).set q (.bool true)) 4) := D8); (have HB8 : Hid (Below w.heap.size w w8) := below_oth HB.out o8 (Nat.le_refl _) (Nat.le_refl _) HB.out.size); (clear D8 o8))
              go_roundw
              case rel => exact ⟨r + 1, by omega, by go_num, HSm.out ▸ HG8.out, HB8.out⟩
              case measure => simp [intOf]; omega
      · have e10 : (oo != 10) = true := by simp [h10]
        have HSm : Hid (gB g n = gB (marksQ m P (k + 1)) n) := gB_congr fun j _ => by rw [HG2.out, HMk.out j, if_neg (fun h => h10 h.1)]
        go_wp2
        go_roundw
        case rel => exact ⟨k + 1, by omega, by go_num, HSm.out ▸ HG.out, HB.out⟩
        case measure => simp [intOf]; omega
    · have ek : k = n := by omega
      subst ek
      obtain ⟨g, hg⟩ : ∃ g, marksQ m P k = g := ⟨_, rfl⟩
      rw [hg] at HG HE
      clear hg
      go_wp2_with fail
      go_loopw [9, 10] (fun lv i wj => ∃ j : Nat, j ≤ k ∧ i = .int .i64 (j : Int) ∧ OwnV wj w.heap.size lv (valsQ P (idxQ P g j)) ∧ Blk wj w.heap.size (gB g k) 4 ∧ Below w.heap.size w wj) (fun lv i wj => k - (intOf i).toNat)
      case atStart => exact ⟨0, Nat.zero_le _, rfl, OwnV.nil _ _, HG.out, HB.out⟩
      case round =>
        clear HG HB
        obtain ⟨j, hj, rfl, ho, hg, hb⟩ := hrel
        have HO : Hid (OwnV wr w.heap.size _ (valsQ P (idxQ P g j))) := ho
        have HG : Hid (Blk wr w.heap.size (gB g k) 4) := hg
        have HB : Hid (Below w.heap.size w wr) := hb
        clear ho hg hb
        by_cases hlt : j < k
        · have hlt' : (j : Int) < (k : Int) := by omega
          have hjm : (j : Int) + 1 ≤ 9223372036854775807 := by omega
          obtain ⟨b, o, rfl, hbl, hat⟩ := HV.out.near (by rw [HN.out]; omega)
          have hd := dd_at (hat j (by rw [HN.out]; exact hlt))
          have d3 := (HB.out.cell (p := ⟨b, o + j * 5 + 3, none⟩) hbl).trans hd.2.2.2.1
          have d4 := (HB.out.cell (p := ⟨b, o + j * 5 + 4, none⟩) hbl).trans hd.2.2.2.2
          have cg := HG.out.cell j _ (gB_at g k j hlt)
          have hva := HI.out j (by rw [HN.out]; omega)
          have hok := HK.out j hlt
          have HNX : Hid (idxQ P g (j + 1) = if openK P g j = true then idxQ P g j ++ [j] else idxQ P g j) := idxQ_succ P g j
          have HOp : Hid (openK P g j = (decide ((yd ys j).1.o = 9) && !g j)) := by show _ = _; unfold openK; rw [HD.out j hlt]
          have HVl : Hid (nv (dq P j).a 0 = nv (yd ys j).1.a 0) := by show _ = _; rw [HD.out j hlt]
          have HLn : Hid ((valsQ P (idxQ P g j)).length ≤ 1000) := by
            show _ ≤ _
            unfold valsQ idxQ
            rw [List.length_map]
            have := List.length_filter_le (openK P g) (List.range j)
            rw [List.length_range] at this
            omega
          clear hat hd
          obtain ⟨⟨⟨yc, yo, ya⟩, vy⟩, hy⟩ : ∃ y, yd ys j = y := ⟨_, rfl⟩
          rw [hy] at d3 d4 hva hok HOp HVl
          dsimp only at d3 d4 hva
          clear hy
          obtain ⟨gr, hgr⟩ : ∃ gr, g j = gr := ⟨_, rfl⟩
          rw [hgr] at cg HOp
          clear hgr
          by_cases h9 : yo = 9
          · subst h9
            cases gr
            · have HL : Hid (valsQ P (idxQ P g (j + 1)) = valsQ P (idxQ P g j) ++ [nv ya 0]) := by
                show _ = _
                rw [HNX.out, if_pos (by rw [HOp.out]; rfl)]
                unfold valsQ
                rw [List.map_append]
                show _ ++ [nv (dq P j).a 0] = _
                rw [HVl.out]
              have hlen : 0 < ya.length := by
                rcases hok with ⟨_, h⟩ | ⟨h, _⟩
                · have h : ya.length = 1 := h
                  omega
                · exact absurd h (by show ¬ ((9 : Int) = 10); decide)
              obtain ⟨bv, ov, cv, rfl, hvb, hcv, hvat⟩ := vsl_first hva hlen
              have hv0 := (hvat 0 hlen).later hvb HB.out
              rw [Nat.zero_mul, Nat.add_zero] at hv0
              obtain ⟨v0, v1, v2⟩ := hv0
              clear hvat hva hvb hok HVl
              obtain ⟨u, hu⟩ : ∃ u, nv ya 0 = u := ⟨_, rfl⟩
              rw [hu] at HL v0 v1 v2
              clear hu
              obtain ⟨na, hna⟩ : ∃ na, ya.length = na := ⟨_, rfl⟩
              rw [hna] at hlen hcv d4
              clear hna
              have bx := below_box wr (.cells (encV u).toArray 25)
              have HO8 : Hid (OwnV (wr.alloc (.cells (encV u).toArray 25)) w.heap.size _ (valsQ P (idxQ P g j))) := HO.out.later bx
              have HG8 : Hid (Blk (wr.alloc (.cells (encV u).toArray 25)) w.heap.size (gB g k) 4) := HG.out.later bx
              have HB8 : Hid (Below w.heap.size w (wr.alloc (.cells (encV u).toArray 25))) := below_next HB.out bx
              have HU8 : Hid (VSl (wr.alloc (.cells (encV u).toArray 25)) (.slice (some ⟨wr.heap.size, 0, none⟩) 1 1) [u]) := (own_one wr wr.heap.size (Nat.le_refl _) u).vsl
              clear bx
              go_wp2_with (at_builtin; refine wpList_appendV rfl (.tmp 77) (.tmp 85) rfl w.heap.size _ _ rfl HO8.out (.slice (some ⟨wr.heap.size, 0, none⟩) 1 1) [u] rfl HU8.out (by have := HLn.out; simp; omega) HB8.out.size ?_; intro v9 w9 o9 g9 hat9; have HO9 : Hid (OwnV w9 w.heap.size v9 (valsQ P (idxQ P g j) ++ [u])) := o9; have HB9 : Hid (Below w.heap.size w w9) := below_own HO8.out g9 HB8.out HB8.out.size; have HG9 : Hid (Blk w9 w.heap.size (gB g k) 4) := HG8.out.kept g9 (HG8.out.not_row (by decide) HO8.out); clear o9 g9 hat9)
              go_roundw
              case rel => exact ⟨j + 1, by omega, by go_num, HL.out ▸ HO9.out, HG9.out, HB9.out⟩
              case measure => simp [intOf]; omega
            · have HL : Hid (valsQ P (idxQ P g (j + 1)) = valsQ P (idxQ P g j)) := by
                show _ = _
                rw [HNX.out, if_neg (fun k => by rw [HOp.out] at k; cases k)]
              go_wp2
              go_roundw
              case rel => exact ⟨j + 1, by omega, by go_num, HL.out ▸ HO.out, HG.out, HB.out⟩
              case measure => simp [intOf]; omega
          · have e9 : (yo == 9) = false := by simp [h9]
            have HL : Hid (valsQ P (idxQ P g (j + 1)) = valsQ P (idxQ P g j)) := by
              show _ = _
              rw [HNX.out, if_neg (fun k => by rw [HOp.out, decide_eq_false h9] at k; cases k)]
            go_wp2
            go_roundw
            case rel => exact ⟨j + 1, by omega, by go_num, HL.out ▸ HO.out, HG.out, HB.out⟩
            case measure => simp [intOf]; omega
        · have ej : j = k := by omega
          subst ej
          go_wp2
          go_ret
          exact ⟨_, rfl, HE.out ▸ HO.out, HB.out⟩
end Go.Proofs.YthgafmhpajikdaaDoor
