/- The contract of the program's Print of a history. Conditions: the tables and the events lie in memory; at most a million events, their numbers of 64 bits, their texts at most 2^62 bytes, their values few enough. -/
import Derived.Test.YtdhlheilgagcpaaGreatDoorHN
import Derived.Test.YtdhlheilgagcpaaGreatDoorBH
import Derived.Test.YtdhlheilgagcpaaGreatDoorHS
import Derived.Test.YtdhlheilgagcpaaGreatDoorRE
namespace Go.Proofs.YtdhlheilgagcpaaGreatDoor
open Go.RowKit Go.PlainAid Go.Shelf Ln
set_option linter.unusedVariables false
set_option linter.unusedSimpArgs false

theorem bat_later {T e : TypeId} {B b : Nat} {p : Value} {l : List Value} {w w' : World} (h : Lib.BuilderAt T e B b p l w) (hb : Below w.heap.size w w') : Lib.BuilderAt T e B b p l w' := by
  have hlt := h.lt
  obtain ⟨h1, v, h2, h3, h4⟩ := h
  exact ⟨h1, v, (hb.block b hlt).trans h2, World.ownsRow.kept h3 (row := none) ⟨hb.os, hb.tape, hb.output, hb.size, fun k hk _ => hb.block k hk⟩ (by cases v.ownBlock <;> simp), h4⟩
theorem isb_later {T e : TypeId} {B b : Nat} {l : List Value} {w w' : World} (h : Lib.IsBuilder T e B b l w) (hb : Below w.heap.size w w') : Lib.IsBuilder T e B b l w' := h.imp (fun h => bat_later h hb) (fun h => bat_later h hb)
theorem line_ne {x : Ev} (h : rightE x = true) (hb : bdE x) : lineE x ≠ [] := fun e => by
  have h1 := read_line h hb
  rw [e] at h1
  have h2 : (pE []).2 = 2 := by decide +kernel
  rw [h1] at h2
  exact absurd (show (0 : Int) = 2 from h2) (by decide)
/-- the text of the first k events -/
def txtK (ys : List YE) (k : Nat) : List UInt8 := flatC 10 ((ys.take k).map fun y => lineE y.1)
theorem txtK_succ (ys : List YE) (k : Nat) (h : k < ys.length) : txtK ys (k + 1) = txtK ys k ++ lineE (ye ys k).1 ++ [10] := by
  unfold txtK
  rw [List.take_add_one, List.getElem?_eq_getElem h, ← ye_eq ys k h, List.map_append]
  show flatC 10 (_ ++ [lineE (ye ys k).1]) = _
  rw [flatC_snoc, List.append_assoc]
theorem txtK_all {ys : List YE} (h : ∀ i, i < ys.length → rightE (ye ys i).1 = true) : txtK ys ys.length = hT (ys.map (·.1)) := by
  have ha : (ys.map (·.1)).all rightE = true := by
    rw [List.all_eq_true]
    intro x hx
    obtain ⟨y, hy, rfl⟩ := List.mem_map.1 hx
    obtain ⟨i, hi, rfl⟩ := List.getElem_of_mem hy
    rw [← ye_eq ys i hi]; exact h i hi
  rw [hT_t ha]
  unfold txtK
  rw [List.take_length, List.map_map]; rfl
theorem hT_none {ys : List YE} {k : Nat} (hk : k < ys.length) (h : rightE (ye ys k).1 = false) : hT (ys.map (·.1)) = [] := by
  refine hT_f fun ha => ?_
  have := List.all_eq_true.1 ha (ye ys k).1 (List.mem_of_getElem? (map_ye ys k hk))
  rw [h] at this; cases this
theorem txtK_len {ys : List YE} {k : Nat} (hk : k ≤ ys.length) (h : ∀ i, i < k → rightE (ye ys i).1 = true) (hb : ∀ i, i < ys.length → bdE (ye ys i).1) (hr : ∀ i, i < ys.length → (ye ys i).1.r.length ≤ 900000) : (txtK ys k).length ≤ k * 56000001 := by
  have := flat_len (m := 56000000) ((ys.take k).map fun y => lineE y.1) (fun l hl => by
    obtain ⟨y, hy, rfl⟩ := List.mem_map.1 hl
    obtain ⟨i, hi, rfl⟩ := List.getElem_of_mem hy
    have hi' : i < k := by rw [List.length_take] at hi; omega
    have e : (ys.take k)[i] = ye ys i := by rw [ye_eq ys i (by omega)]; simp
    rw [e]
    exact line_len2 (h i hi') (hb i (by omega)) (hr i (by omega)))
  rw [List.length_map, List.length_take, Nat.min_eq_left hk] at this
  exact this
/-- what is asked of the events -/
def OkYs (ys : List YE) : Prop := ∀ i, i < ys.length → SzE (ye ys i).1 ∧ bdE (ye ys i).1 ∧ (ye ys i).1.r.length ≤ 900000
set_option maxRecDepth 100000 in
set_option maxHeartbeats 8000000 in
theorem hprint_any (v : Value) (ys : List YE) (w : World) (ht : Tbs w) (hp : Pt w) (hv : YSl w v ys) (hl : InL w ys) (ho : OkYs ys) (hn : ys.length ≤ 1000000) :
    Calls Tryz.prog 7 #[v] w fun e w' => e = .returned (.string (bs (hT (ys.map (·.1))))) ∧ Below w.heap.size w w' := by
  have HT : Hid (Tbs w) := ht
  have HP : Hid (Pt w) := hp
  have HL : Hid (InL w ys) := hl
  have HOk : Hid (OkYs ys) := ho
  obtain ⟨a, c, rfl, _, _, _⟩ := hv.form
  have HV : Hid (YSl w (.slice a ys.length c) ys) := hv
  have HLn : Hid (∀ k, k ≤ ys.length → (∀ i, i < k → rightE (ye ys i).1 = true) → (txtK ys k).length ≤ 56000001000000) := fun k hk h => by
    have := txtK_len hk h (fun i hi => (ho i hi).2.1) (fun i hi => (ho i hi).2.2)
    have h2 : k * 56000001 ≤ 1000000 * 56000001 := Nat.mul_le_mul_right _ (by omega)
    omega
  obtain ⟨n, hnn⟩ : ∃ n, ys.length = n := ⟨_, rfl⟩
  have HN : Hid (ys.length = n) := hnn
  rw [hnn] at HV HLn ⊢
  have hn' : n ≤ 1000000 := by omega
  clear ht hp hl ho hv hnn hn
  go_enter Tryz.func7, Tryz.ntmps7
  go_wp2_with fail
  have hB0 : Lib.IsBuilder 49 5 w.heap.size w.heap.size [] (w.alloc (.cells #[.pointer none, .slice none 0 0] 49)) := Lib.fresh_isBuilder _ _ _
  have hb0 : Below w.heap.size w (w.alloc (.cells #[.pointer none, .slice none 0 0] 49)) := below_more (Below.refl _ _) _
  obtain ⟨p, hpp⟩ : ∃ p, w.heap.size = p := ⟨_, rfl⟩
  have HPp : Hid (w.heap.size = p) := hpp
  have HI0 : Hid (Lib.IsBuilder 49 5 p p (Lib.byteCells (txtK ys 0)) (w.alloc (.cells #[.pointer none, .slice none 0 0] 49)) ∧ Below p w (w.alloc (.cells #[.pointer none, .slice none 0 0] 49))) := by
    show _ ∧ _; rw [← hpp]; exact ⟨hB0, hb0⟩
  simp only [hpp]
  generalize w.alloc (.cells #[.pointer none, .slice none 0 0] 49) = w1 at HI0 ⊢
  clear hB0 hb0 hpp
  go_loopw [9] (fun i wr => ∃ k : Nat, k ≤ n ∧ i = .int .i64 (k : Int) ∧ Lib.IsBuilder 49 5 p p (Lib.byteCells (txtK ys k)) wr ∧ (∀ i, i < k → rightE (ye ys i).1 = true) ∧ Below p w wr) (fun i wr => n - (intOf i).toNat)
  case atStart => exact ⟨0, Nat.zero_le _, rfl, HI0.out.1, fun i hi => absurd hi (Nat.not_lt_zero i), HI0.out.2⟩
  case round =>
    obtain ⟨k, hk, rfl, hI, hall, hb⟩ := hrel
    have HI : Hid (Lib.IsBuilder 49 5 p p (Lib.byteCells (txtK ys k)) wr) := hI
    have HA : Hid (∀ i, i < k → rightE (ye ys i).1 = true) := hall
    have HB : Hid (Below w.heap.size w wr) := by show Below _ _ _; rw [HPp.out]; exact hb
    have HSp : Hid (p ≤ wr.heap.size) := by show _ ≤ _; rw [← HPp.out]; exact HB.out.size
    have HLK : Hid ((txtK ys k).length ≤ 56000001000000) := HLn.out k hk hall
    have HBp : Hid (Below p w wr) := hb
    clear hI hall hb HI0
    by_cases hlt : k < n
    · have hlt' : (k : Int) < (n : Int) := by omega
      have hly : k < ys.length := by rw [HN.out]; exact hlt
      obtain ⟨b, o, rfl, hb1⟩ := HV.out.block (by omega)
      have ry := (HV.out.later HB.out).at hly
      have ql := (HL.out.later HB.out) k hly
      have qo := HOk.out k hly
      have HTx : Hid (txtK ys (k + 1) = txtK ys k ++ lineE (ye ys k).1 ++ [10]) := txtK_succ ys k hly
      have HNo : Hid (rightE (ye ys k).1 = false → hT (ys.map (·.1)) = []) := fun h => hT_none hly h
      have HAs : Hid (rightE (ye ys k).1 = true → ∀ i, i < k + 1 → rightE (ye ys i).1 = true) := fun h i hi => by
        by_cases e : i = k
        · rw [e]; exact h
        · exact HA.out i (by omega)
      rcases hye : ye ys k with ⟨X, va, vr⟩
      rw [hye] at ry ql qo HTx HNo HAs
      have RY : Hid (wr.rangeAt b (o + k * 14) (evC X va vr)) := ry
      have HQ : Hid (VSl wr va X.a ∧ VSl wr vr X.r) := ql
      have HU1 : Hid (va.oneCell' = true ∧ vr.oneCell' = true) := ⟨vsl_oneC ql.1, vsl_oneC ql.2⟩
      have hE := fun w' (hb : Below wr.heap.size wr w') => eprint_any X va vr w' (HT.out.later (below_next HB.out hb)) (HP.out.later (below_next HB.out hb)) (HQ.out.1.later hb) (HQ.out.2.later hb) qo.1 qo.2.1 qo.2.2
      have hll := fun h : rightE X = true => line_len2 h qo.2.1 qo.2.2
      have hne := fun h : rightE X = true => line_ne h qo.2.1
      have HE : Hid (∀ w', Below wr.heap.size wr w' → _) := hE
      have HLL : Hid (rightE X = true → (lineE X).length ≤ 56000000) := hll
      have HNE : Hid (rightE X = true → lineE X ≠ []) := hne
      have C1 : Blk (wr.alloc (.cells #[.int .i64 0, .int .i64 0, .int .i64 0, .string ⟨#[]⟩, .int .i64 0, .int .i64 0, .int .i64 0, .int .i64 0, .string ⟨#[]⟩, .int .i64 0, .slice none 0 0, .slice none 0 0, .bool false, .string ⟨#[]⟩] 37)) wr.heap.size (evC noEv nilS nilS) 37 := Blk.new wr (evC noEv nilS nilS) 37
      have Hb4 : Hid (Below wr.heap.size wr (wr.alloc (.cells #[.int .i64 0, .int .i64 0, .int .i64 0, .string ⟨#[]⟩, .int .i64 0, .int .i64 0, .int .i64 0, .int .i64 0, .string ⟨#[]⟩, .int .i64 0, .slice none 0 0, .slice none 0 0, .bool false, .string ⟨#[]⟩] 37))) := below_more (Below.refl _ _) _
      clear ry ql qo hE hll hne hye hb1
      go_wp2_with (first
        | ((with_reducible refine wpList_load_mid ?_ 37 (.tmp 11) ?_ b (o + k * 14) ?_ (evC X va vr) _ RY.out Tryz.underlying37 ?_ ?_ ?_); (exact rfl); (exact rfl); (exact rfl); (exact rfl); (exact sizeE))
        | ((with_reducible refine wp_storeB 37 (.tmp 5) (.tmp 12) wr.heap.size 0 (evC X va vr) (evC noEv nilS nilS) 37 ?_ ?_ (evC_one _ HU1.out.1 HU1.out.2) ?_ ?_ ?_ C1 ?_); (exact sizeE); (exact (show 0 + 14 ≤ 14 by decide)); (exact ⟨rfl, rfl⟩); (exact rfl); (exact rfl); (intro w5 D1 o5); (replace D1 : Blk w5 wr.heap.size (evC X va vr) 37 := D1); (have HD : Hid (Blk w5 wr.heap.size (evC X va vr) 37) := D1); (have Hb5 : Hid (Below wr.heap.size wr w5) := below_oth Hb4.out o5 (Nat.le_refl _) (Nat.le_refl _) Hb4.out.size); clear C1 D1 o5 Hb4)
        | ((with_reducible refine wp_loadB 37 (.tmp 5) wr.heap.size 0 (evC X va vr) (evC X va vr) 37 _ Tryz.underlying37 ?_ ?_ ?_ ?_ HD.out (fun j v hv => by rw [Nat.zero_add]; exact hv) ?_); (exact rfl); (exact sizeE); (exact ⟨rfl, rfl⟩); (exact rfl)))
      refine (HE.out w5 Hb5.out).mono ?_
      rintro e w6 ⟨rfl, b6⟩
      have Hb6 : Hid (Below wr.heap.size wr w6) := below_next Hb5.out b6
      clear b6 HE
      by_cases hr : rightE X = true
      · rw [if_pos hr]
        have hnil : (bs (lineE X)).toList ≠ [] := by rw [bs_toList]; exact HNE.out hr
        obtain ⟨l, hle⟩ : ∃ l, lineE X = l := ⟨_, rfl⟩
        have HLe : Hid (lineE X = l) := hle
        have HLl : Hid (l.length ≤ 56000000) := by show _ ≤ _; rw [← hle]; exact HLL.out hr
        rw [hle] at hnil ⊢
        have hnq : ((bs l).toList == []) = false := by simp [hnil]
        have HR : Hid (rightE X = true) := hr
        clear hr hle
        have I6 : Hid (Lib.IsBuilder 49 5 p p (Lib.byteCells (txtK ys k)) w6) := isb_later HI.out Hb6.out
        go_wp2_with fail
        refine (Any.Builder_WriteString bwsLays bwsExtra p p _ (bs l) w6 I6.out (by rw [Lib.byteCells_length, bs_size]; have := HLK.out; have := HLl.out; omega) (Nat.le_trans HSp.out Hb6.out.size)).mono ?_
        rintro e w7 ⟨rfl, hat, b7⟩
        have HI7 : Hid (Lib.IsBuilder 49 5 p p (Lib.byteCells (txtK ys k) ++ Lib.strCells (bs l)) w7) := .inr hat
        have HB7 : Hid (Below p wr w7) := ((Hb6.out.mono HSp.out).trans b7)
        have HS7 : Hid (p ≤ w7.heap.size) := Nat.le_trans HSp.out HB7.out.size
        clear hat b7 I6
        go_wp2_with fail
        refine (Any.Builder_WriteString bwsLays bwsExtra p p _ ⟨#[10]⟩ w7 HI7.out (by rw [List.length_append, Lib.byteCells_length, Lib.strCells_length, bs_size]; have := HLK.out; have := HLl.out; have h1 : (⟨#[10]⟩ : ByteArray).size = 1 := rfl; omega) HS7.out).mono ?_
        rintro e w8 ⟨rfl, hat, b8⟩
        have HI8 : Hid (Lib.IsBuilder 49 5 p p (Lib.byteCells (txtK ys (k + 1))) w8) := by
          have e1 : Lib.byteCells (txtK ys (k + 1)) = Lib.byteCells (txtK ys k) ++ Lib.strCells (bs l) ++ Lib.strCells (⟨#[10]⟩ : ByteArray) := by
            rw [HTx.out, HLe.out, Lib.byteCells_append, Lib.byteCells_append]; rfl
          show Lib.IsBuilder _ _ _ _ _ _
          rw [e1]; exact .inr hat
        have HB8 : Hid (Below p w w8) := by
          have h1 : Below p wr w8 := HB7.out.trans b8
          exact HBp.out.trans h1
        clear hat b8
        go_wp2
        go_roundw
        case rel => exact ⟨k + 1, by omega, by go_num, HI8.out, HAs.out HR.out, HB8.out⟩
        case measure => simp [intOf]; omega
      · have hrf : rightE X = false := by simpa using hr
        rw [if_neg hr]
        clear hr
        go_wp2
        go_ret
        exact ⟨by rw [HNo.out hrf]; rfl, below_next HB.out Hb6.out⟩
    · have e : k = n := by omega
      subst e
      have HTa : Hid (txtK ys k = hT (ys.map (·.1))) := by
        have := txtK_all (ys := ys) (by rw [HN.out]; exact HA.out)
        rw [HN.out] at this; exact this
      go_wp2_with fail
      refine (Any.Builder_String_any bstLays bstExtra p p _ wr HI.out HSp.out).mono ?_
      rintro e w7 ⟨rfl, b7⟩
      go_wp2
      go_ret
      refine ⟨by rw [HTa.out]; rfl, ?_⟩
      have b8 : Below w.heap.size wr w7 := by rw [HPp.out]; exact b7
      exact HB.out.trans b8
end Go.Proofs.YtdhlheilgagcpaaGreatDoor
