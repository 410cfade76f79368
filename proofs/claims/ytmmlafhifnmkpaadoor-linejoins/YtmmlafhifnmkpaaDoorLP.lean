/- The walk of LineJoins. No conditions. -/
import Derived.Test.YtmmlafhifnmkpaaDoorLO
namespace Go.Proofs.YtmmlafhifnmkpaaDoor
open Go.RowKit Go.PlainAid
set_option linter.unusedVariables false

/-- the first k texts are plain: none is empty, none has a blank; and there are some -/
def plB (L : List (List UInt8)) : Nat → Bool
  | 0 => decide (0 < L.length)
  | k + 1 => plB L k && (decide (nt L k ≠ []) && decide ((32 : UInt8) ∉ nt L k))
theorem plB_all (L : List (List UInt8)) : ∀ k, plB L k = true → 0 < L.length ∧ ∀ i, i < k → nt L i ≠ [] ∧ (32 : UInt8) ∉ nt L i
  | 0, h => ⟨of_decide_eq_true h, fun i hi => by omega⟩
  | k + 1, h => by
    simp only [plB, Bool.and_eq_true, decide_eq_true_eq] at h
    obtain ⟨h1, h2⟩ := plB_all L k h.1
    refine ⟨h1, fun i hi => ?_⟩
    by_cases e : i = k
    · subst e; exact h.2
    · exact h2 i (by omega)
theorem join_size (L : List (List UInt8)) (n : Nat) (h : ∀ i, i < L.length → (nt L i).length ≤ n) : (Lib.join L [32]).length ≤ L.length * (n + 1) := by
  have g : ∀ k, k ≤ L.length → (Lib.join (L.take k) [32]).length ≤ k * (n + 1) := by
    intro k
    induction k with
    | zero => intro _; simp [Lib.join_nil]
    | succ k ih =>
      intro hk
      have ih' := ih (by omega)
      have hx := h k (by omega)
      rw [Nat.add_mul]
      by_cases h0 : 0 < k
      · rw [join_take L k (by omega) h0]
        simp only [List.length_append, List.length_cons, List.length_nil]
        omega
      · have : k = 0 := by omega
        subst this
        rw [join_first L (by omega)]
        omega
  have := g L.length (Nat.le_refl _)
  rw [List.take_of_length_le (Nat.le_refl _)] at this
  exact this
/-- plain words are told again -/
theorem plain_pcs (L : List (List UInt8)) (h : plB L L.length = true) : pcs 32 (Lib.join L [32]) = L ∧ [] ∉ L := by
  obtain ⟨h1, h2⟩ := plB_all L _ h
  have hm : ∀ x ∈ L, x ≠ [] ∧ (32 : UInt8) ∉ x := fun x hx => by
    obtain ⟨i, hi, e⟩ := List.getElem_of_mem hx
    have := h2 i hi
    rw [nt_eq L i hi, e] at this
    exact this
  exact ⟨pcs_join 32 L (List.length_pos_iff.1 h1) (fun x hx => (hm x hx).2), fun hx => (hm [] hx).1 rfl⟩

/-- the first m bytes of a text have no blank, and q -/
def rB (q : Bool) (x : List UInt8) (m : Nat) : Bool := q && decide ((32 : UInt8) ∉ x.take m)
theorem rB_zero (q : Bool) (x : List UInt8) : rB q x 0 = q := by unfold rB; simp
theorem rB_next (q : Bool) (x : List UInt8) (m : Nat) (b : UInt8) (h : x.take (m + 1) = x.take m ++ [b]) : rB q x (m + 1) = (rB q x m && decide (b ≠ 32)) := by
  unfold rB
  rw [h, Bool.and_assoc]
  congr 1
  rw [← Bool.decide_and]
  apply decide_eq_decide.2
  rw [List.mem_append, not_or]
  refine and_congr Iff.rfl ?_
  simp only [List.mem_singleton]
  exact ⟨fun h e => h e.symm, fun h e => h e.symm⟩
theorem rB_all (q : Bool) (x : List UInt8) : rB q x x.length = (q && decide ((32 : UInt8) ∉ x)) := by unfold rB; rw [List.take_of_length_le (Nat.le_refl _)]
theorem empty_or {p : Bool} {x : List UInt8} : (p = false ∧ ∃ q, q = false ∧ (p && (decide (x ≠ []) && decide ((32 : UInt8) ∉ x))) = (q && decide ((32 : UInt8) ∉ x))) ∨
    ((p = true ∧ x = []) ∧ ∃ q, q = false ∧ (p && (decide (x ≠ []) && decide ((32 : UInt8) ∉ x))) = (q && decide ((32 : UInt8) ∉ x))) ∨
    ((p = true ∧ x ≠ []) ∧ ∃ q, q = true ∧ (p && (decide (x ≠ []) && decide ((32 : UInt8) ∉ x))) = (q && decide ((32 : UInt8) ∉ x))) := by
  cases p with
  | false => exact .inl ⟨rfl, false, rfl, rfl⟩
  | true =>
    by_cases h : x = []
    · exact .inr (.inl ⟨⟨rfl, h⟩, false, rfl, by simp [h]⟩)
    · exact .inr (.inr ⟨⟨rfl, h⟩, true, rfl, by simp [h]⟩)

set_option maxHeartbeats 8000000 in
theorem law_joins (v : Value) (L : List (List UInt8)) (w : World) (hv : SSl w v L) : Calls Tryd.prog 4 #[v] w fun e w' => e = .returned (.bool true) ∧ Below w.heap.size w w' := by
  have HV : Hid (SSl w v L) := hv
  obtain ⟨a, c, rfl, _, _, _⟩ := hv.form
  clear hv
  by_cases hs : 50 < L.length
  · have hs' : (50 : Int) < (L.length : Int) := by omega
    go_enter Tryd.func4, Tryd.ntmps4
    go_wp2_with fail
    refine (wakes_any _).mono ?_
    rintro e w1 ⟨rfl, hb1⟩
    go_wp2
    go_ret
    exact ⟨rfl, hb1⟩
  · have hs' : ¬ (50 : Int) < (L.length : Int) := by omega
    go_enter Tryd.func4, Tryd.ntmps4
    go_wp2_with fail
    refine (wakes_any _).mono ?_
    rintro e w1 ⟨rfl, hb1⟩
    have HV1 : Hid (SSl w1 (.slice a L.length c) L) := HV.out.later hb1
    clear HV
    go_wp2_with fail
    go_loop [3, 20] (fun p i => ∃ k : Nat, k ≤ L.length ∧ i = .int .i64 (k : Int) ∧ p = .bool (plB L k) ∧ Hid (∀ i, i < k → (nt L i).length ≤ 100)) (fun p i => L.length - (intOf i).toNat)
    case atStart => exact ⟨0, by omega, rfl, by first | rfl | (simp [plB]), fun i h => by omega⟩
    case round =>
      obtain ⟨k, hk, rfl, rfl, HS⟩ := hrel
      by_cases hlt : k < L.length
      · have hlt' : (k : Int) < (L.length : Int) := by omega
        obtain ⟨b, o, rfl, hbl⟩ := HV1.out.block (by omega)
        have hcell := HV1.out.cell (i := k) hlt
        have HP : Hid (plB L (k + 1) = (plB L k && (decide (nt L k ≠ []) && decide ((32 : UInt8) ∉ nt L k)))) := rfl
        obtain ⟨x, hx⟩ : ∃ x, nt L k = x := ⟨_, rfl⟩
        have HX : Hid (nt L k = x) := hx
        rw [hx] at hcell HP
        have hbx := get_bt (bs x)
        have hbz := bs_size x
        have hbl2 := bs_toList x
        generalize plB L k = p at *
        clear hx
        by_cases hl : 100 < x.length
        · have hl' : (100 : Int) < ((bs x).size : Int) := by rw [bs_size]; omega
          go_wp2
          go_ret
          exact ⟨rfl, hb1⟩
        · have hl' : ¬ (100 : Int) < ((bs x).size : Int) := by rw [bs_size]; omega
          have HL : Hid (x.length ≤ 100) := by show x.length ≤ 100; omega
          have hxl : x.length ≤ 100 := HL.out
          rcases empty_or (p := p) (x := x) with ⟨rfl, q, hq, h3⟩ | ⟨⟨rfl, he⟩, q, hq, h3⟩ | ⟨⟨rfl, he⟩, q, hq, h3⟩
          case' inr.inl =>
            have hie : x.isEmpty = true := List.isEmpty_iff.2 he
            have hie2 : (bs x).toList.isEmpty = true := by rw [hbl2]; exact hie
            clear he
          case' inr.inr =>
            have hie : x.isEmpty = false := by cases h : x.isEmpty; rfl; exact absurd (List.isEmpty_iff.1 h) he
            have hie2 : (bs x).toList.isEmpty = false := by rw [hbl2]; exact hie
            clear he
          all_goals
            have HQ : Hid (plB L (k + 1) = (q && decide ((32 : UInt8) ∉ x))) := HP.out.trans h3
            have HZ : Hid (rB q x 0 = q) := rB_zero q x
            clear h3
            go_wp2
            go_loop [3, 34] (fun pl j => ∃ m : Nat, m ≤ x.length ∧ j = .int .i64 (m : Int) ∧ pl = .bool (rB q x m)) (fun pl j => x.length - (intOf j).toNat)
            case atStart => exact ⟨0, by omega, rfl, by rw [HZ.out, hq]; first | done | rfl | simp [hie, hie2, hbl2]⟩
            case round =>
              obtain ⟨m, hm, rfl, rfl⟩ := hrel
              by_cases hmt : m < x.length
              · have hmt' : (m : Int) < (x.length : Int) := by omega
                have hmt2 : m < (bs x).size := by rw [bs_size]; exact hmt
                obtain ⟨b, hb1', hb2, hb3, hb4⟩ := byte_at (bs x) m hmt2
                have HB : Hid (rB q x (m + 1) = (rB q x m && decide (b ≠ 32))) := rB_next q x m b hb3
                generalize rB q x m = r at *
                by_cases hbc : b = 32
                · have hq1 : (bt (bs x) m == 32) = true := by rw [hb2, hbc]; rfl
                  have hq2 : bt (bs x) m = 32 := by rw [hb2, hbc]; rfl
                  have HN : Hid (rB q x (m + 1) = false) := by show _ = _; rw [HB.out, hbc]; simp
                  clear hb1' hb2 hb3 hb4 HB
                  cases r with
                  | false =>
                    go_wp2
                    go_round
                    case rel => exact ⟨m + 1, by omega, by go_num, by rw [HN.out]; first | done | rfl | simp [bne, hq1]⟩
                    case measure => simp [intOf]; omega
                  | true =>
                    go_wp2
                    go_round
                    case rel => exact ⟨m + 1, by omega, by go_num, by rw [HN.out]; first | done | rfl | simp [bne, hq1]⟩
                    case measure => simp [intOf]; omega
                · have hq1 : (bt (bs x) m == 32) = false := by rw [hb2]; exact beq_eq_false_iff_ne.2 (fun h => hbc ((byte_eq b 32).1 h))
                  have hq2 : ¬ bt (bs x) m = 32 := fun h => hbc ((byte_eq b 32).1 (by rw [← hb2, h]; rfl))
                  have HN : Hid (rB q x (m + 1) = r) := by show _ = _; rw [HB.out]; simp [hbc]
                  clear hb1' hb2 hb3 hb4 HB
                  cases r with
                  | false =>
                    go_wp2
                    go_round
                    case rel => exact ⟨m + 1, by omega, by go_num, by rw [HN.out]; first | done | rfl | simp [bne, hq1]⟩
                    case measure => simp [intOf]; omega
                  | true =>
                    go_wp2
                    go_round
                    case rel => exact ⟨m + 1, by omega, by go_num, by rw [HN.out]; first | done | rfl | simp [bne, hq1]⟩
                    case measure => simp [intOf]; omega
              · have e : m = x.length := by omega
                subst e
                have HR : Hid (rB q x x.length = plB L (k + 1)) := (rB_all q x).trans HQ.out.symm
                go_wp2
                go_round
                case rel =>
                  refine ⟨k + 1, by omega, by go_num, by rw [HR.out], fun i hi => ?_⟩
                  by_cases e : i = k
                  · subst e; rw [HX.out]; exact HL.out
                  · exact HS.out i (by omega)
                case measure => simp [intOf]; omega
      · have e : k = L.length := by omega
        subst e
        have hjz : (Lib.join L [32]).length ≤ 5050 := by
          have := join_size L 100 HS.out
          have h2 : L.length * (100 + 1) ≤ 50 * (100 + 1) := Nat.mul_le_mul_right _ (by omega)
          omega
        have hJ1 := pjoin_any w1 _ L HV1.out (by omega) (by omega)
        have HPl : Hid (plB L L.length = true → pcs 32 (Lib.join L [32]) = L ∧ [] ∉ L) := plain_pcs L
        have hJ2 := fun w2 (h : Below w1.heap.size w1 w2) => rjoin_any w2 _ L (HV1.out.later h) (by omega) (by omega)
        have hsz : (bs (Lib.join L [32])).size ≤ 900000 := by rw [bs_size]; omega
        have hW := words_any (bs (Lib.join L [32]))
        rw [tx_bs] at hW
        have hln := pcs_len 32 (Lib.join L [32])
        generalize Lib.join L [32] = J at *
        go_wp2_with fail
        refine hJ1.mono ?_
        rintro e w2 ⟨rfl, hb2⟩
        clear hJ1
        go_wp2_with fail
        refine (hW _ hsz).mono ?_
        rintro e w3 ⟨u, hb3, ⟨hn, rfl, hu⟩ | ⟨hn, rfl⟩⟩
        · have HU : Hid (SSl w3 u (pcs 32 J)) := hu
          have hb23 := below_next hb2 hb3
          have HV3 : Hid (SSl w3 (.slice a L.length c) L) := HV1.out.later hb23
          obtain ⟨a2, c2, rfl, _⟩ := hu.form
          clear hu hW
          cases hp : plB L L.length with
          | true =>
            obtain ⟨e1, e2⟩ := HPl.out hp
            have hS := fun w4 (h : Below w3.heap.size w3 w4) => same_any _ _ _ _ w4 (HU.out.later h) (HV3.out.later h) (by omega)
            rw [e1, sameS_self] at hS
            rw [e1]
            clear hp HPl e1 e2 hn HU
            go_wp2_with (first | (go_at_call 10; refine (hJ2 _ hb23).mono ?_; rintro e w4 ⟨rfl, hb4⟩) | (go_at_call 8; refine (hS _ hb4).mono ?_; rintro e w5 ⟨rfl, hb5⟩))
            go_ret
            exact ⟨rfl, below_next (below_next (below_next hb1 hb23) hb4) hb5⟩
          | false =>
            clear hp HPl hn HU
            generalize (pcs 32 J).length = n2 at *
            go_wp2_with (go_at_call 10; refine (hJ2 _ hb23).mono ?_; rintro e w4 ⟨rfl, hb4⟩)
            go_ret
            exact ⟨rfl, below_next (below_next hb1 hb23) hb4⟩
        · have hb23 := below_next hb2 hb3
          clear hW
          cases hp : plB L L.length with
          | true =>
            obtain ⟨e1, e2⟩ := HPl.out hp
            rw [e1] at hn
            exact absurd hn e2
          | false =>
            clear hp HPl hn
            go_wp2_with (go_at_call 10; refine (hJ2 _ hb23).mono ?_; rintro e w4 ⟨rfl, hb4⟩)
            go_ret
            exact ⟨rfl, below_next (below_next hb1 hb23) hb4⟩
end Go.Proofs.YtmmlafhifnmkpaaDoor
