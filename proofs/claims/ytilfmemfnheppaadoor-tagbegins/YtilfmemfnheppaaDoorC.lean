/- One round of a block, as the program reckons it: the eight words behind it. Conditions: words are numbers of 32 bits. -/
import Derived.Test.YtilfmemfnheppaaDoorB
import Derived.Deep.QuietTactic
import Derived.BigQuiet
namespace Go.Proofs.YtilfmemfnheppaaDoor
open Go.RowKit Hx
set_option linter.unusedVariables false

def xo (a b : Int) : Int := bits .xor .u32 a b
def an (a b : Int) : Int := bits .and .u32 a b
/-- e turned by 6, 11 and 25 -/
def s1 (e : Int) : Int := bits .xor .u32 (bits .xor .u32 (rr e 6) (rr e 11)) (rr e 25)
/-- a turned by 2, 13 and 22 -/
def s0 (a : Int) : Int := bits .xor .u32 (bits .xor .u32 (rr a 2) (rr a 13)) (rr a 22)
/-- of f and g what e chooses -/
def ch (e f g : Int) : Int := bits .xor .u32 (bits .and .u32 e f) (bits .and .u32 (4294967295 - e) g)
/-- what most of the three say -/
def mj (a b c : Int) : Int := bits .xor .u32 (bits .xor .u32 (bits .and .u32 a b) (bits .and .u32 a c)) (bits .and .u32 b c)
/-- the sums of a round -/
def sx (e f g h n : Int) : Int := (h + s1 e + ch e f g + n) % 4294967296
def sy (a b c : Int) : Int := (s0 a + mj a b c) % 4294967296

/-- a word: a number of 32 bits -/
def Wd (x : Int) : Prop := 0 ≤ x ∧ x < 4294967296

theorem below_only {B g : Nat} {w0 w w' : World} (h : Below B w0 w) (ho : Only g w w') (hB : B ≤ g) (hB0 : B ≤ w0.heap.size) : Below B w0 w' :=
  h.trans (ho.below hB (Nat.le_trans hB0 h.size))

theorem arr8 (k : IntKind) {a0 a1 a2 a3 a4 a5 a6 a7 b0 b1 b2 b3 b4 b5 b6 b7 : Int} (h0 : a0 = b0) (h1 : a1 = b1) (h2 : a2 = b2) (h3 : a3 = b3) (h4 : a4 = b4) (h5 : a5 = b5) (h6 : a6 = b6) (h7 : a7 = b7) :
    Value.agg #[.int k a0, .int k a1, .int k a2, .int k a3, .int k a4, .int k a5, .int k a6, .int k a7] = arr k [b0, b1, b2, b3, b4, b5, b6, b7] := by
  subst h0 h1 h2 h3 h4 h5 h6 h7; rfl

set_option maxHeartbeats 1000000 in
theorem round_walk (a b c d e f g h n : Int) (ha : Wd a) (he : Wd e) (w : World) :
    Calls Tryd.prog 43 #[arr .u32 [a, b, c, d, e, f, g, h], .int .u32 n] w fun en w' =>
      en = .returned (arr .u32 [(sx e f g h n + sy a b c) % 4294967296, a, b, c, (d + sx e f g h n) % 4294967296, e, f, g]) ∧ Below w.heap.size w w' := by
  go_enter Tryd.func43, Tryd.ntmps43
  go_wp2_with (first
    | ((with_reducible refine wp_boxR 69 (.tmp 0) .u32 [a, b, c, d, e, f, g, h] ?_ ?_ ?_); (exact rfl); (exact ⟨rfl, rfl⟩); intro g1 w1 hg1 hr1 hb1)
    | ((with_reducible refine wp_allocR 69 .u32 8 Tryd.zero69 ?_ ?_); (exact ⟨rfl, rfl⟩); intro g2 w2 hg2 hr2 hb2))
  have hr := hr1.later hb2
  have c0 : w2.cell? ⟨g1, 0, none⟩ = some (.int .u32 a) := hr.cell 0 (by simp)
  have c1 : w2.cell? ⟨g1, 1, none⟩ = some (.int .u32 b) := hr.cell 1 (by simp)
  have c2 : w2.cell? ⟨g1, 2, none⟩ = some (.int .u32 c) := hr.cell 2 (by simp)
  have c3 : w2.cell? ⟨g1, 3, none⟩ = some (.int .u32 d) := hr.cell 3 (by simp)
  have c4 : w2.cell? ⟨g1, 4, none⟩ = some (.int .u32 e) := hr.cell 4 (by simp)
  have c5 : w2.cell? ⟨g1, 5, none⟩ = some (.int .u32 f) := hr.cell 5 (by simp)
  have c6 : w2.cell? ⟨g1, 6, none⟩ = some (.int .u32 g) := hr.cell 6 (by simp)
  have c7 : w2.cell? ⟨g1, 7, none⟩ = some (.int .u32 h) := hr.cell 7 (by simp)
  have HB : Hid (Below w.heap.size w w2) := hb1.trans (hb2.mono hb1.size)
  have HG : Hid (w.heap.size ≤ g2) := Nat.le_trans hb1.size hg2
  have HR : Hid (Row w2 g2 .u32 (List.replicate 8 0)) := hr2
  clear hr hr1 hr2 hb1 hb2 hg1 hg2
  obtain ⟨a0, a1⟩ := ha
  obtain ⟨e0, e1⟩ := he
  go_quiet (fail)
  go_wp2
  go_quiet (fail)
  clear c0 c1 c2 c3 c4 c5 c6 c7
  have hsg : IntKind.u32.signed = false := rfl
  have hmx : IntKind.u32.max = 4294967295 := rfl
  have hnot := not32 e e0 e1
  go_wp2_with fail
  refine (right_any e 6 (by omega) (by omega) e0 e1 _).mono ?_
  rintro en w3 ⟨rfl, rfl⟩
  go_wp2_with fail
  refine (right_any e 11 (by omega) (by omega) e0 e1 _).mono ?_
  rintro en w3 ⟨rfl, rfl⟩
  go_wp2_with fail
  refine (right_any e 25 (by omega) (by omega) e0 e1 _).mono ?_
  rintro en w3 ⟨rfl, rfl⟩
  go_wp2_with fail
  refine (right_any a 2 (by omega) (by omega) a0 a1 _).mono ?_
  rintro en w3 ⟨rfl, rfl⟩
  go_wp2_with fail
  refine (right_any a 13 (by omega) (by omega) a0 a1 _).mono ?_
  rintro en w3 ⟨rfl, rfl⟩
  go_wp2_with fail
  refine (right_any a 22 (by omega) (by omega) a0 a1 _).mono ?_
  rintro en w3 ⟨rfl, rfl⟩
  go_wp2_with ((with_reducible refine wp_storeR 69 (.tmp 4) (.tmp 84) g2 .u32 (List.replicate 8 0) [(sx e f g h n + sy a b c) % 4294967296, a, b, c, (d + sx e f g h n) % 4294967296, e, f, g] ?_ ?_ ?_ ?_ ?_ ?_ ?_); (exact Tryd.size69); (exact rfl); (exact ⟨rfl, rfl⟩); (exact rfl); (exact arr8 .u32 (by unfold sx sy s1 s0 ch mj; omega) rfl rfl rfl (by unfold sx s1 ch; omega) rfl rfl rfl); (exact HR.out); intro w4 hr4 ho4)
  go_wp2_with fail
  refine ret_row rfl g2 .u32 [(sx e f g h n + sy a b c) % 4294967296, a, b, c, (d + sx e f g h n) % 4294967296, e, f, g] _ Tryd.underlying69 rfl Tryd.size69 rfl hr4 rfl ⟨rfl, ?_⟩
  exact below_only (below_drewN HB.out _) ho4 HG.out (Nat.le_refl _)

/-- the eight words behind a round -/
def rnd : List Int → Int → List Int
  | [a, b, c, d, e, f, g, h], n => [(sx e f g h n + sy a b c) % 4294967296, a, b, c, (d + sx e f g h n) % 4294967296, e, f, g]
  | s, _ => s

/-- eight words -/
def St (s : List Int) : Prop := s.length = 8 ∧ ∀ x ∈ s, Wd x
theorem md_wd (x : Int) : Wd (x % 4294967296) := by unfold Wd; omega
theorem St.eight {s : List Int} (h : St s) : ∃ a b c d e f g i, s = [a, b, c, d, e, f, g, i] ∧ Wd a ∧ Wd b ∧ Wd c ∧ Wd d ∧ Wd e ∧ Wd f ∧ Wd g ∧ Wd i := by
  obtain ⟨hl, hw⟩ := h
  match s, hl with
  | [a, b, c, d, e, f, g, i], _ => exact ⟨a, b, c, d, e, f, g, i, rfl, hw _ (by simp), hw _ (by simp), hw _ (by simp), hw _ (by simp), hw _ (by simp), hw _ (by simp), hw _ (by simp), hw _ (by simp)⟩
theorem St.mk8 {a b c d e f g i : Int} (h : Wd a ∧ Wd b ∧ Wd c ∧ Wd d ∧ Wd e ∧ Wd f ∧ Wd g ∧ Wd i) : St [a, b, c, d, e, f, g, i] := by
  obtain ⟨h0, h1, h2, h3, h4, h5, h6, h7⟩ := h
  refine ⟨rfl, fun x hx => ?_⟩
  simp only [List.mem_cons, List.not_mem_nil, or_false] at hx
  rcases hx with rfl | rfl | rfl | rfl | rfl | rfl | rfl | rfl <;> assumption
theorem rnd_st {s : List Int} (h : St s) (n : Int) : St (rnd s n) := by
  obtain ⟨a, b, c, d, e, f, g, i, rfl, h0, h1, h2, h3, h4, h5, h6, h7⟩ := h.eight
  exact St.mk8 ⟨md_wd _, h0, h1, h2, md_wd _, h4, h5, h6⟩

theorem round_any (s : List Int) (n : Int) (hs : St s) (w : World) :
    Calls Tryd.prog 43 #[arr .u32 s, .int .u32 n] w fun en w' => en = .returned (arr .u32 (rnd s n)) ∧ Below w.heap.size w w' := by
  obtain ⟨a, b, c, d, e, f, g, i, rfl, h0, h1, h2, h3, h4, h5, h6, h7⟩ := hs.eight
  exact round_walk a b c d e f g i n h0 h4 w
end Go.Proofs.YtilfmemfnheppaaDoor
