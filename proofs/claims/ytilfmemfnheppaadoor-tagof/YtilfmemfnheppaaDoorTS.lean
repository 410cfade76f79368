/- The walk of TagOf. Conditions: the table holds the rounds' numbers. -/
import Derived.Test.YtilfmemfnheppaaDoorTR
namespace Go.Proofs.YtilfmemfnheppaaDoor
open Go.RowKit Hx
set_option linter.unusedVariables false

/-- the call laid in memory -/
def Box (w : World) (p : Nat) (v : Value) (d x : ByteArray) : Prop :=
  p < w.heap.size ∧ w.cell? ⟨p, 0, none⟩ = some v ∧ w.cell? ⟨p, 1, none⟩ = some (.string d) ∧ w.cell? ⟨p, 2, none⟩ = some (.string x)
theorem Box.later {w w' : World} {p : Nat} {v : Value} {d x : ByteArray} (h : Box w p v d x) (hb : Below w.heap.size w w') : Box w' p v d x :=
  ⟨Nat.lt_of_lt_of_le h.1 hb.size, (hb.cell (p := ⟨p, 0, none⟩) h.1).trans h.2.1, (hb.cell (p := ⟨p, 1, none⟩) h.1).trans h.2.2.1, (hb.cell (p := ⟨p, 2, none⟩) h.1).trans h.2.2.2⟩
theorem Box.new (w : World) (v : Value) (d x : ByteArray) (T : TypeId) : Box (w.alloc (.cells #[v, .string d, .string x] T)) w.heap.size v d x :=
  ⟨by simp, by simp, by simp, by simp⟩

set_option maxRecDepth 100000 in
set_option maxHeartbeats 1000000 in
theorem law_of (v : Value) (key : List Int) (d x : ByteArray) (size : Int) (w : World) (hK : Kt w) (hv : Sl w v key) (hn : Nf v) (hd : d.size ≤ 9223372036854775807) (hx : x.size ≤ 9223372036854775807) (hs : -9223372036854775808 ≤ size ∧ size ≤ 9223372036854775807) :
    Calls Tryd.prog 5 #[.agg #[v, .string d, .string x], .int .i64 size] w fun en w' => en = .returned (.bool true) ∧ Below w.heap.size w w' := by
  obtain ⟨a, n, c, rfl⟩ := sl_form hv
  have HV : Hid (Sl w (.slice a n c) key) := hv
  have HN : Hid (Nf (.slice a n c)) := hn
  have HK : Hid (Kt w) := hK
  have hk0 := hK.pos
  clear hv hn hK
  go_enter Tryd.func5, Tryd.ntmps5
  go_wp2_with fail
  have b0 := Box.new w (.slice a n c) d x 38
  have hb0 : Below w.heap.size w (w.alloc (.cells #[.slice a n c, .string d, .string x] 38)) := (Below.refl _ _).alloc (Nat.le_refl _) _
  obtain ⟨p, hp⟩ : ∃ p, p = w.heap.size := ⟨_, rfl⟩
  rw [← hp] at b0 ⊢
  clear hp
  generalize w.alloc (.cells #[.slice a n c, .string d, .string x] 38) = w0 at b0 hb0 ⊢
  refine (wakes_any w0).mono ?_
  rintro e w1 ⟨rfl, hb1⟩
  have hb1' := below_next hb0 hb1
  have HB1 : Hid (Box w1 p (.slice a n c) d x) := b0.later hb1
  obtain ⟨_, c0, c1, c2⟩ := HB1.out
  clear b0 hb0 hb1
  go_wp2_with fail
  clear c0 c1 c2
  have p2 := psl_one (HV.out.later hb1') (.cells #[.slice a n c] 25) ⟨_, rfl⟩
  have hb2 : Below w1.heap.size w1 (w1.alloc (.cells #[.slice a n c] 25)) := (Below.refl _ _).alloc (Nat.le_refl _) _
  generalize w1.alloc (.cells #[.slice a n c] 25) = w2 at p2 hb2 ⊢
  have HB2 : Hid (Box w2 p (.slice a n c) d x) := HB1.out.later hb2
  have hb2' := below_next hb1' hb2
  obtain ⟨_, c0, c1, c2⟩ := HB2.out
  refine (great_any _ [key] w2 p2).mono ?_
  rintro e w3 ⟨bb, rfl, hf, rfl⟩
  cases bb with
  | true =>
    go_wp2
    go_ret
    exact ⟨rfl, hb2'⟩
  | false =>
    have hkey : key.length ≤ 200 := (hf rfl).2 0 (by simp)
    clear hb1' hb2 p2 hf HB1
    by_cases hd1 : 100 < d.size
    · have hd1' : (100 : Int) < (d.size : Int) := by omega
      go_wp2
      go_ret
      exact ⟨rfl, hb2'⟩
    · have hd1' : ¬ (100 : Int) < (d.size : Int) := by omega
      by_cases hx1 : 100 < x.size
      · have hx1' : (100 : Int) < (x.size : Int) := by omega
        go_wp2
        go_ret
        exact ⟨rfl, hb2'⟩
      · have hx1' : ¬ (100 : Int) < (x.size : Int) := by omega
        by_cases hsz : size < 1 ∨ 16 < size
        · go_wp2_with fail
          refine (of_no _ _ size _ w3 hsz).mono ?_
          rintro e w4 ⟨rfl, rfl⟩
          rcases hsz with h1 | h1
          · go_wp2
            go_ret
            exact ⟨rfl, hb2'⟩
          · have h2 : ¬ size < 1 := by omega
            go_wp2
            go_ret
            exact ⟨rfl, hb2'⟩
        · obtain ⟨m, hm⟩ : ∃ m : Nat, size = (m : Int) := ⟨size.toNat, by omega⟩
          subst hm
          go_wp2_with fail
          refine (of_any _ key d x m w3 (HK.out.below hb2' hk0) (HV.out.later hb2') (by omega) (by omega) (by omega) (by omega) (by omega)).mono ?_
          rintro e w4 ⟨rfl, hb4⟩
          have HB4 : Hid (Box w4 p (.slice a n c) d x) := HB2.out.later hb4
          have hb4' := below_next hb2' hb4
          clear c0 c1 c2 hb4
          obtain ⟨_, c0, c1, c2⟩ := HB4.out
          obtain ⟨S, hS⟩ : ∃ S, S = strOfNums (enc ((tagB key d x).take m)) := ⟨_, rfl⟩
          rw [← hS]
          have HS : Hid (S = strOfNums (enc ((tagB key d x).take m))) := hS
          have q1 : ¬ (m : Int) < 1 := by omega
          have q2 : ¬ (16 : Int) < (m : Int) := by omega
          clear hS hb2'
          go_wp2_with fail
          refine (rof_any _ key d x m w4 (HV.out.later hb4') HN.out (by omega) (by omega) (by omega) (by omega) (by omega)).mono ?_
          rintro e w5 ⟨rfl, hb5⟩
          rw [← HS.out]
          have hb5' := below_next hb4' hb5
          clear c0 c1 c2 hb5 hb4'
          go_wp2
          go_ret
          exact ⟨ret_bool (by simp), hb5'⟩
end Go.Proofs.YtilfmemfnheppaaDoor
