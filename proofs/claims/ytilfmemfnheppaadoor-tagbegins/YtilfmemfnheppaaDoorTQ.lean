/- What a value is called under a key: as the program says it. Conditions: the table holds the rounds' numbers; the key, the domain and the value have no more than 100,000 bytes. -/
import Derived.Test.YtilfmemfnheppaaDoorTN
import Derived.Test.YtilfmemfnheppaaDoorTF
import Derived.Test.YtilfmemfnheppaaDoorMF
import Derived.Test.YtilfmemfnheppaaDoorML
import Derived.Lib.ConvBytes
namespace Go.Proofs.YtilfmemfnheppaaDoor
open Go.RowKit Hx
set_option linter.unusedVariables false

/-- a string's bytes -/
def bytesOf (s : ByteArray) : List Int := s.data.toList.map (fun b => (b.toNat : Int))
theorem bytesOf_len (s : ByteArray) : (bytesOf s).length = s.size := by
  unfold bytesOf; rw [List.length_map, Array.length_toList]; rfl
theorem bytesOf_by (s : ByteArray) : By (bytesOf s) := by
  intro x hx
  simp only [bytesOf, List.mem_map] at hx
  obtain ⟨b, _, rfl⟩ := hx
  have := b.toNat_lt
  omega
theorem conv_below (w : World) (s : ByteArray) : Below w.heap.size w (Lib.bytesWorld w 5 s) :=
  ⟨rfl, rfl, rfl, by rw [Lib.bytesWorld_size]; omega, fun k hk => Lib.bytesWorld_at_old w 5 s k hk⟩
theorem conv_sl (w : World) (s : ByteArray) (hs : s.size ≤ 9223372036854775807) : Sl (Lib.bytesWorld w 5 s) (.slice (some ⟨w.heap.size, 0, none⟩) s.size (grownCap w s.size 0 5)) (bytesOf s) := by
  refine ⟨_, _, by rw [bytesOf_len], bytesOf_by s, by rw [bytesOf_len]; exact hs, by rw [bytesOf_len]; exact grownCap_ge _ _ _ _, fun _ => ⟨w.heap.size, 0, rfl, by rw [Lib.bytesWorld_size]; omega, fun i hi => ?_⟩⟩
  rw [bytesOf_len] at hi
  rw [Nat.zero_add, Lib.bytesWorld_cell w 5 s i hi]
  unfold nth bytesOf
  have h' : i < s.data.size := hi
  rw [List.getD_eq_getElem?_getD, List.getD_eq_getElem?_getD, List.getElem?_map, Array.getElem?_toList, Array.getElem?_eq_getElem h']
  rfl

theorem slice49h (w : World) (p m : Nat) (h : m ≤ 32) : (Instr.sliceAt 49 (.pointer (some ⟨p, 0, none⟩)) none (some (.int .i64 (m : Int))) none).run Tryd.prog w = .ok (.slice (some ⟨p, 0, none⟩) m 32) w := by
  rw [run_sliceAt_array_h w 49 _ Tryd.arr49 .i64 _ (by omega) (by rw [Tryd.len49]; omega), Tryd.elem49, Tryd.sizeOf5, Tryd.len49]
  simp only [Result.andThen_ok, slicedAt, Nat.mul_one, Int.toNat_natCast]
  rfl
theorem row_take {w : World} {p m : Nat} {xs : List Int} (h : Row w p .u8 xs) (hb : By xs) (hn : xs.length = 32) (hm : m ≤ 32) : Sl w (.slice (some ⟨p, 0, none⟩) m 32) (xs.take m) := by
  have hl : (xs.take m).length = m := by rw [List.length_take]; omega
  refine ⟨some ⟨p, 0, none⟩, 32, by rw [hl], fun x hx => hb x (List.mem_of_mem_take hx), by omega, by omega, fun _ => ⟨p, 0, rfl, h.lt, fun i hi => ?_⟩⟩
  rw [Nat.zero_add, h.cell i (by omega)]
  rw [hl] at hi
  unfold nth
  simp [List.getD, hi]

/-- the program's word -/
def incog : List Int := [105, 110, 99, 111, 103, 110, 105, 116, 111]
/-- the three parts -/
def three (d x : ByteArray) : List (List Int) := [incog, bytesOf d, bytesOf x]
theorem three_len (d x : ByteArray) : (frameB (three d x)).length = 33 + d.size + x.size := by
  simp only [three, frameB, List.length_append, bigB_len, bytesOf_len, List.length_nil]
  have : incog.length = 9 := rfl
  omega
theorem three_by (d x : ByteArray) : By (frameB (three d x)) := frame_by fun k hk => by
  have hk3 : k < 3 := hk
  match k, hk3 with
  | 0, _ => exact (by decide : ∀ x ∈ incog, 0 ≤ x ∧ x ≤ 255)
  | 1, _ => exact bytesOf_by d
  | 2, _ => exact bytesOf_by x
/-- the seal of which a tag takes the first bytes -/
def tagB (key : List Int) (d x : ByteArray) : List Int := sealB key (frameB (three d x))
theorem tagB_len (key : List Int) (d x : ByteArray) : (tagB key d x).length = 32 := sealB_len _ _
theorem tagB_by (key : List Int) (d x : ByteArray) : By (tagB key d x) := sumB_by _

theorem ret_of {a b : ByteArray} {e : Value} (h : a = b) : Ending.returned (.tuple #[.string a, e]) = .returned (.tuple #[.string b, e]) := by rw [h]
theorem three_laid (w : World) (d x : ByteArray) (hd : d.size ≤ 100000) (hx : x.size ≤ 100000) (W0 W1 W2 : World)
    (h0 : W0 = w.alloc (.cells #[.int .u8 105, .int .u8 110, .int .u8 99, .int .u8 111, .int .u8 103, .int .u8 110, .int .u8 105, .int .u8 116, .int .u8 111] 5 (9, 10)))
    (h1 : W1 = Lib.bytesWorld W0 5 d) (h2 : W2 = Lib.bytesWorld W1 5 x) :
    PSn (W2.alloc (.cells #[.slice (some ⟨w.heap.size, 0, none⟩) 9 9, .slice (some ⟨w.heap.size + 1, 0, none⟩) d.size (grownCap W0 d.size 0 5), .slice (some ⟨W1.heap.size, 0, none⟩) x.size (grownCap W1 x.size 0 5)] 25)) (.slice (some ⟨W2.heap.size, 0, none⟩) 3 3) (three d x) ∧
    Below w.heap.size w (W2.alloc (.cells #[.slice (some ⟨w.heap.size, 0, none⟩) 9 9, .slice (some ⟨w.heap.size + 1, 0, none⟩) d.size (grownCap W0 d.size 0 5), .slice (some ⟨W1.heap.size, 0, none⟩) x.size (grownCap W1 x.size 0 5)] 25)) := by
  have s0 : Sl W0 (.slice (some ⟨w.heap.size, 0, none⟩) 9 9) incog := by rw [h0]; exact sl_lit w incog (by decide) (by decide) (9, 10)
  have z0 : W0.heap.size = w.heap.size + 1 := by rw [h0, World.size_alloc]
  have b0 : Below w.heap.size w W0 := by rw [h0]; exact (Below.refl _ _).alloc (Nat.le_refl _) _
  have s1 : Sl W1 (.slice (some ⟨w.heap.size + 1, 0, none⟩) d.size (grownCap W0 d.size 0 5)) (bytesOf d) := by rw [h1, ← z0]; exact conv_sl W0 d (by omega)
  have b1 : Below W0.heap.size W0 W1 := by rw [h1]; exact conv_below W0 d
  have s2 : Sl W2 (.slice (some ⟨W1.heap.size, 0, none⟩) x.size (grownCap W1 x.size 0 5)) (bytesOf x) := by rw [h2]; exact conv_sl W1 x (by omega)
  have b2 : Below W1.heap.size W1 W2 := by rw [h2]; exact conv_below W1 x
  exact ⟨psn_three ((s0.later b1).later b2) (s1.later b2) s2 (nf_some _ _ _) (nf_some _ _ _) (nf_some _ _ _) 25, below_more (below_next (below_next b0 b1) b2) _⟩

set_option maxRecDepth 100000 in
set_option maxHeartbeats 1000000 in
theorem of_any (v : Value) (key : List Int) (d x : ByteArray) (m : Nat) (w : World) (hK : Kt w) (hv : Sl w v key) (hks : key.length ≤ 100000) (hd : d.size ≤ 100000) (hx : x.size ≤ 100000) (h1 : 1 ≤ m) (h16 : m ≤ 16) :
    Calls Tryd.prog 16 #[v, .string d, .int .i64 m, .string x] w fun en w' => en = .returned (.tuple #[.string (strOfNums (enc ((tagB key d x).take m))), .int .i64 0]) ∧ Below w.heap.size w w' := by
  obtain ⟨a, n, c, rfl⟩ := sl_form hv
  have HV : Hid (Sl w (.slice a n c) key) := hv
  have hk0 := hK.pos
  have kc := fun (w : World) (C : Array Value) (n c : Nat) => Lib.run_convert_bytes_const (P := Tryd.prog) w 25 5 C n c Tryd.underlying25 Tryd.underlying5
  have kd := fun (w : World) => Lib.run_convert_string_bytes (P := Tryd.prog) w 9 25 5 d Tryd.underlying9 Tryd.underlying25 Tryd.underlying5
  have kx := fun (w : World) => Lib.run_convert_string_bytes (P := Tryd.prog) w 9 25 5 x Tryd.underlying9 Tryd.underlying25 Tryd.underlying5
  have q1 : ¬ (m : Int) < 1 := by omega
  have q2 : ¬ (16 : Int) < (m : Int) := by omega
  clear hv
  go_enter Tryd.func16, Tryd.ntmps16
  go_wp2_with fail
  clear kc kd kx
  obtain ⟨p1, hb1⟩ := three_laid w d x hd hx _ _ _ rfl rfl rfl
  have hlen := three_len d x
  refine (frame_any _ (three d x) _ p1 (by omega)).mono ?_
  rintro e w2 ⟨v2, rfl, own2, hb2⟩
  have s2 := Sl.of_own own2 (three_by d x) (by omega)
  have hb2' := below_next hb1 hb2
  obtain ⟨a2, n2, c2, rfl⟩ := sl_form s2
  clear p1 hb1 hb2 own2
  generalize grownCap (Lib.bytesWorld _ 5 d) x.size 0 5 = G2 at *
  generalize grownCap _ d.size 0 5 = G1 at *
  generalize (Lib.bytesWorld (Lib.bytesWorld _ 5 d) 5 x).heap.size = Z2 at *
  generalize (Lib.bytesWorld _ 5 d).heap.size = Z1 at *
  go_wp2_with fail
  have p3 := psl_one s2 (.cells #[.slice a2 n2 c2] 25) ⟨_, rfl⟩
  have hb3 : Below w2.heap.size w2 (w2.alloc (.cells #[.slice a2 n2 c2] 25)) := (Below.refl _ _).alloc (Nat.le_refl _) _
  generalize w2.alloc (.cells #[.slice a2 n2 c2] 25) = w3 at p3 hb3 ⊢
  have hb3' := below_next hb2' hb3
  refine (msum_any _ _ key [frameB (three d x)] w3 (hK.below hb3' hk0) (HV.out.later hb3') p3 (by omega) (by simp; omega)).mono ?_
  rintro e w4 ⟨rfl, hb4⟩
  rw [show ([frameB (three d x)] : List (List Int)).flatten = frameB (three d x) by simp, show sealB key (frameB (three d x)) = tagB key d x from rfl]
  have hb4' := below_next hb3' hb4
  have hTl := tagB_len key d x
  have hTb := tagB_by key d x
  obtain ⟨S, hS⟩ : ∃ S, S = strOfNums (enc ((tagB key d x).take m)) := ⟨_, rfl⟩
  have HS : Hid (S = strOfNums (enc ((tagB key d x).take m))) := hS
  generalize tagB key d x = T at hS hTl hTb ⊢
  have h32 : (Tryd.prog.info? 49).map (·.size) = some T.length := by rw [hTl]; exact Tryd.size49
  have HT : Hid (T.length = 32 ∧ By T ∧ S = strOfNums (enc (T.take m))) := ⟨hTl, hTb, hS⟩
  have e5 := fun (w : World) (p : Nat) => slice49h w p m (by omega)
  clear s2 hb2' hb3 hb3' hb4 p3 hTb hlen hS
  go_wp2_with (first
    | ((with_reducible refine wp_allocD 10 49 .u8 32 Tryd.zero49 ?_ ?_); (exact ⟨rfl, rfl, rfl⟩); intro p w5 hg5 hr5 hb5)
    | ((with_reducible refine wp_storeR 49 (.tmp 10) (.tmp 27) p .u8 (List.replicate 32 0) T h32 ?_ ?_ ?_ ?_ hr5 ?_); (rw [HT.out.1]; rfl); (exact ⟨rfl, rfl⟩); (exact rfl); (exact rfl); intro w6 r6 o6))
  have hb6 := below_only (below_next hb4' hb5) o6 (by have := hb4'.size; omega) (Nat.le_refl _)
  have s6 := row_take (m := m) r6 HT.out.2.1 HT.out.1 (by omega)
  refine (encode_any _ _ w6 s6 (by rw [List.length_take]; omega)).mono ?_
  rintro e w7 ⟨rfl, hb7⟩
  have hb7' := below_next hb6 hb7
  rw [← HT.out.2.2]
  clear hb7 hb6 s6 o6 r6 hr5 hb5 hb4' e5
  go_wp2
  go_ret2
  exact ⟨ret_of HS.out, hb7'⟩
end Go.Proofs.YtilfmemfnheppaaDoor
