/- A row of texts that the call owns: laid, appended to; the contract of texts. Conditions: the values' texts are at most 2^62 bytes, their numbers of 64 bits, and few enough. -/
import Derived.Test.YtdhlheilgagcpaaGreatDoorEV
import Derived.Test.YtdhlheilgagcpaaGreatDoorEQ
namespace Go.Proofs.YtdhlheilgagcpaaGreatDoor
open Go.RowKit Go.PlainAid Ln
set_option linter.unusedVariables false
set_option linter.unusedSimpArgs false

theorem own_three (w : World) (B : Nat) (a b c : ByteArray) (hB : B ≤ w.heap.size) : OwnS (w.alloc (.cells #[.string a, .string b, .string c] 9)) B (.slice (some ⟨w.heap.size, 0, none⟩) 3 3) [tx a, tx b, tx c] := by
  have e : cellsS [tx a, tx b, tx c] = (#[.string a, .string b, .string c] : Array Value).toList := by simp [cellsS, bs_tx]
  unfold OwnS
  rw [e]
  exact World.ownsRow_lit w #[.string a, .string b, .string c] 3 hB (by decide) rfl
theorem addr_add (b o j : Nat) : (⟨b, o, none⟩ : Addr).add j = ⟨b, o + j, none⟩ := by simp [Addr.add]
/-- append of a row of texts to a row that the call owns, at an operation -/
theorem wpo_appendS {o : Oper} {a : Act} {w : World} {K : Act → World → Prop} {Q : Exit → Act → World → Prop} (s x : Operand)
    (ho : o.op = .call { callee := .builtin .append, args := #[s, x], argTypes := #[41, 41] }) (B : Nat) (v u : Value) (xs ys : List (List UInt8)) (hs : a.eval s = v) (hown : OwnS w B v xs)
    (hx : a.eval x = u) (hu : SSl w u ys) (hp : 0 < ys.length) (hlen : xs.length + ys.length ≤ 1000000) (hbase : B ≤ w.heap.size)
    (h : ∀ v' w', OwnS w' B v' (xs ++ ys) → w.grownBy w' v.ownBlock → v' ≠ .slice none 0 0 → K (a.put o.dst v') w') : o.wp Tryz.prog a w K Q := by
  obtain ⟨i0, hi, hz0, hz1, hz2⟩ := info_parts infoS
  obtain ⟨ad, c, hv, hl, hm, hn⟩ := hu.form
  subst hv
  obtain ⟨b, o', rfl, hb⟩ := SSl.block hu hp
  unfold OwnS at hown h
  refine wp_append_lies _ s x 41 ho B 9 i0 (.string ⟨#[]⟩) 1 16 Tryz.underlying41 hi hz0 hz1 hz2 rfl (by decide) v xs.length (cellsS xs) hs hown ⟨b, o', none⟩ ys.length c (cellsS ys) hx (by rw [cellsS_len, Nat.mul_one]) ?_ (cellsS_one _) hp (by unfold maxLen; omega) (by omega) hbase _ rfl ?_
  · intro j z hj
    have hj' : j < ys.length := by
      have := (List.getElem?_eq_some_iff.1 hj).1
      rwa [cellsS_len] at this
    rw [cellsS_at ys j hj'] at hj
    rw [← hj, addr_add]
    exact SSl.cell hu hj'
  · intro g cap w' hown' hgrow _ _
    refine h _ w' ?_ hgrow (fun e => by cases e)
    rw [cellsS_app, List.length_append]; exact hown'
/-- .. in a region, the row to append nil where it is empty -/
theorem wpList_appendSS {ops : Array Oper} {rest : List Oper} {o : Oper} {a : Act} {w : World} {Q : Exit → Act → World → Prop} (hgd : o.guard = none) (s x : Operand)
    (ho : o.op = .call { callee := .builtin .append, args := #[s, x], argTypes := #[41, 41] }) (B : Nat) (v u : Value) (xs ys : List (List UInt8)) (hs : a.eval s = v) (hown : OwnS w B v xs)
    (hx : a.eval x = u) (hu : SSl w u ys) (hnil : ys.length = 0 → u = .slice none 0 0) (hlen : xs.length + ys.length ≤ 1000000) (hbase : B ≤ w.heap.size)
    (h : ∀ v' w', OwnS w' B v' (xs ++ ys) → w.grownBy w' v.ownBlock → wpList Tryz.prog ops Q rest (a.put o.dst v') w') : wpList Tryz.prog ops Q (o :: rest) a w := by
  rcases Nat.eq_zero_or_pos ys.length with e | e
  · have hu0 := hnil e
    obtain rfl : ys = [] := List.eq_nil_of_length_eq_zero e
    obtain ⟨i0, hi, _, _, _⟩ := info_parts infoS
    refine wpList_append_own_none hgd s x 41 ho B 9 i0 1 Tryz.underlying41 hi v xs.length (cellsS xs) hs hown (hx.trans hu0) ?_
    exact h v w (by rw [List.append_nil]; exact hown) ⟨rfl, rfl, rfl, Nat.le_refl _, fun _ _ _ => rfl⟩
  · exact wpList_plain hgd fun K hK => wpo_appendS s x ho B v u xs ys hs hown hx hu e hlen hbase fun v' w' o' g' _ => hK _ _ (h v' w' o' g')
theorem take_pv (xs : List Val) (k : Nat) (h : k < xs.length) : (xs.take (k + 1)).map pv = (xs.take k).map pv ++ [pv (nv xs k)] := by
  rw [List.take_succ_eq_append_getElem h, List.map_append, nv_eq xs k h]; rfl
/-- how texts ends -/
def RTexts (w : World) (xs : List Val) (e : Ending) (w' : World) : Prop := ∃ v, e = .returned v ∧ OwnS w' w.heap.size v (xs.map pv) ∧ (xs.length = 0 → v = .slice none 0 0) ∧ Below w.heap.size w w'
set_option maxHeartbeats 2000000 in
theorem texts_any (v : Value) (xs : List Val) (w : World) (hp : Pt w) (hv : VSl w v xs) (hs : ∀ i, i < xs.length → (nv xs i).2.2.size ≤ 4611686018427387904) (hb : ∀ i, i < xs.length → bdV (nv xs i)) (hn : xs.length ≤ 900000) :
    Calls Tryz.prog 32 #[v] w fun e w' => RTexts w xs e w' := by
  obtain ⟨a, c, rfl, hl, hm, hc⟩ := hv
  have HC : Hid ((xs = [] ∧ (a = none → c = 0)) ∨ ∃ b o, a = some ⟨b, o, none⟩ ∧ b < w.heap.size ∧ ∀ i, i < xs.length → At w b (o + i * 3) (nv xs i)) := hc
  have HS : Hid (∀ i, i < xs.length → (nv xs i).2.2.size ≤ 4611686018427387904) := hs
  have HB : Hid (∀ i, i < xs.length → bdV (nv xs i)) := hb
  have HP : Hid (Pt w) := hp
  clear hc hs hb hp
  go_enter Tryz.func32, Tryz.ntmps32
  go_wp2
  go_loopw [3, 8] (fun l i w' => ∃ k : Nat, k ≤ xs.length ∧ i = .int .i64 (k : Int) ∧ Below w.heap.size w w' ∧ OwnS w' w.heap.size l ((xs.take k).map pv) ∧ (k = 0 → l = .slice none 0 0)) (fun l i w' => xs.length - (intOf i).toNat)
  case atStart => exact ⟨0, by omega, rfl, Below.refl _ _, OwnS.nil _ _, fun _ => rfl⟩
  case round =>
    obtain ⟨k, hk, rfl, hbel, hown, hnil⟩ := hrel
    have HO : Hid (OwnS wr w.heap.size u3 ((xs.take k).map pv)) := hown
    have HBel : Hid (Below w.heap.size w wr) := hbel
    have HN : Hid (k = 0 → u3 = .slice none 0 0) := hnil
    obtain ⟨av, cv, hform⟩ := hown.form
    have hln : ((xs.take k).map pv).length ≤ 900000 := by rw [List.length_map, List.length_take]; omega
    clear hown hnil
    by_cases hlt : k < xs.length
    · have hlt' : (k : Int) < (xs.length : Int) := by omega
      rcases HC.out with ⟨h0, _⟩ | ⟨b, o, rfl, hbl, hat⟩
      · rw [h0] at hlt; cases hlt
      obtain ⟨c0, c1, c2⟩ := (hat k hlt).later hbl hbel
      have HBx : Hid (Below w.heap.size w (wr.alloc (.cells #[.int .i64 (nv xs k).1, .int .i64 (nv xs k).2.1, .string (nv xs k).2.2] 34))) := below_more hbel _
      have hR := fun w' (hw : Below w.heap.size w w') => vprint_any (nv xs k).1 (nv xs k).2.1 (nv xs k).2.2 w' (HS.out k hlt) (HB.out k hlt) (HP.out.later hw)
      obtain ⟨y, hy⟩ : ∃ y, pv (nv xs k) = y := ⟨_, rfl⟩
      have hy2 : prt (nv xs k).1 (nv xs k).2.1 (nv xs k).2.2 = bs y := by rw [← hy]; exact (bs_tx _).symm
      rw [hy2] at hR
      have HY : Hid (pv (nv xs k) = y) := hy
      have HR : Hid (∀ w', Below w.heap.size w w' → _) := hR
      clear hat hy hy2 hR hbel hform
      go_wp2_with fail
      refine (HR.out _ HBx.out).mono ?_
      rintro e w2 ⟨rfl, b2⟩
      have HB2 : Hid (Below w.heap.size w w2) := below_next HBx.out b2
      have HO2 : Hid (OwnS w2 w.heap.size u3 ((xs.take k).map pv)) := (HO.out.later (below_more (Below.refl _ _) _)).later b2
      clear b2
      go_wp2_with (at_builtin; refine wpList_appendS rfl (.tmp 12) (.tmp 15) rfl w.heap.size u3 _ rfl (HO2.out.later (below_more (Below.refl _ _) _)) ⟨w2.heap.size, 0, none⟩ 1 y rfl (by simp) (by omega) (by have := HB2.out.size; simp; omega) ?_; intro v6 w6 o6 g6; have HO6 : Hid (OwnS w6 w.heap.size v6 ((xs.take k).map pv ++ [y])) := o6; have HB6 : Hid (Below w.heap.size w w6) := Below.grown (below_more HB2.out _) g6 (by have := HB2.out.size; simp; omega) (fun q h => (HO2.out.lt q h).1); clear o6 g6)
      go_roundw
      case rel =>
        refine ⟨k + 1, by omega, by go_num, HB6.out, ?_, fun h => by omega⟩
        rw [take_pv xs k hlt, HY.out]; exact HO6.out
      case measure => simp [intOf]; omega
    · have e : k = xs.length := by omega
      subst e
      rw [List.take_of_length_le (Nat.le_refl _)] at HO
      go_wp2
      go_ret
      exact ⟨_, rfl, HO.out, HN.out, HBel.out⟩
end Go.Proofs.YtdhlheilgagcpaaGreatDoor
