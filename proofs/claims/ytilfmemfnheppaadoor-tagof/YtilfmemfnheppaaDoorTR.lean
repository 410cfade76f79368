/- What a value is called under a key: as the document says it. Conditions: nil has no bytes; the key, the domain and the value have no more than 100,000 bytes. -/
import Derived.Test.YtilfmemfnheppaaDoorTQ
import Derived.Test.YtilfmemfnheppaaDoorMH
namespace Go.Proofs.YtilfmemfnheppaaDoor
open Go.RowKit Hx
set_option linter.unusedVariables false

set_option maxRecDepth 100000 in
set_option maxHeartbeats 1000000 in
theorem rof_any (v : Value) (key : List Int) (d x : ByteArray) (m : Nat) (w : World) (hv : Sl w v key) (hn : Nf v) (hks : key.length ≤ 100000) (hd : d.size ≤ 100000) (hx : x.size ≤ 100000) (h1 : 1 ≤ m) (h16 : m ≤ 16) :
    Calls Tryd.prog 17 #[v, .string d, .string x, .int .i64 m] w fun en w' => en = .returned (.string (strOfNums (enc ((tagB key d x).take m)))) ∧ Below w.heap.size w w' := by
  obtain ⟨a, n, c, rfl⟩ := sl_form hv
  have HV : Hid (Sl w (.slice a n c) key) := hv
  have HNV : Hid (Nf (.slice a n c)) := hn
  have kc := fun (w : World) (C : Array Value) (n c : Nat) => Lib.run_convert_bytes_const (P := Tryd.prog) w 25 5 C n c Tryd.underlying25 Tryd.underlying5
  have kd := fun (w : World) => Lib.run_convert_string_bytes (P := Tryd.prog) w 9 25 5 d Tryd.underlying9 Tryd.underlying25 Tryd.underlying5
  have kx := fun (w : World) => Lib.run_convert_string_bytes (P := Tryd.prog) w 9 25 5 x Tryd.underlying9 Tryd.underlying25 Tryd.underlying5
  have q1 : ¬ (m : Int) < 1 := by omega
  have q2 : ¬ (16 : Int) < (m : Int) := by omega
  clear hv hn
  go_enter Tryd.func17, Tryd.ntmps17
  go_wp2_with fail
  clear kc kd kx
  obtain ⟨p1, hb1⟩ := three_laid w d x hd hx _ _ _ rfl rfl rfl
  have hlen := three_len d x
  refine (rframe_any _ (three d x) _ p1 (by omega)).mono ?_
  rintro e w2 ⟨v2, rfl, own2, hb2⟩
  have s2 := Sl.of_own own2 (three_by d x) (by omega)
  have nf2 := own_nil_form own2
  have hb2' := below_next hb1 hb2
  obtain ⟨a2, n2, c2, rfl⟩ := sl_form s2
  clear p1 hb1 hb2 own2
  generalize grownCap (Lib.bytesWorld _ 5 d) x.size 0 5 = G2 at *
  generalize grownCap _ d.size 0 5 = G1 at *
  generalize (Lib.bytesWorld (Lib.bytesWorld _ 5 d) 5 x).heap.size = Z2 at *
  generalize (Lib.bytesWorld _ 5 d).heap.size = Z1 at *
  go_wp2_with fail
  have hb3' := hb2'
  refine (rmsum_any _ _ key (frameB (three d x)) w2 (HV.out.later hb2') HNV.out s2 nf2 (by omega) (by omega)).mono ?_
  rintro e w4 ⟨rfl, hb4⟩
  rw [show sealB key (frameB (three d x)) = tagB key d x from rfl]
  have hb4' := below_next hb3' hb4
  have hTl := tagB_len key d x
  have hTb := tagB_by key d x
  obtain ⟨S, hS⟩ : ∃ S, S = strOfNums (enc ((tagB key d x).take m)) := ⟨_, rfl⟩
  have HS : Hid (S = strOfNums (enc ((tagB key d x).take m))) := hS
  generalize tagB key d x = T at hS hTl hTb ⊢
  have h32 : (Tryd.prog.info? 49).map (·.size) = some T.length := by rw [hTl]; exact Tryd.size49
  have HT : Hid (T.length = 32 ∧ By T ∧ S = strOfNums (enc (T.take m))) := ⟨hTl, hTb, hS⟩
  have e5 := fun (w : World) (p : Nat) => slice49h w p m (by omega)
  clear s2 hb2' hb3' hb4 nf2 hTb hlen hS
  go_wp2_with (first
    | ((with_reducible refine wp_allocD 9 49 .u8 32 Tryd.zero49 ?_ ?_); (exact ⟨rfl, rfl, rfl⟩); intro p w5 hg5 hr5 hb5)
    | ((with_reducible refine wp_storeR 49 (.tmp 9) (.tmp 19) p .u8 (List.replicate 32 0) T h32 ?_ ?_ ?_ ?_ hr5 ?_); (rw [HT.out.1]; rfl); (exact ⟨rfl, rfl⟩); (exact rfl); (exact rfl); intro w6 r6 o6))
  have hb6 := below_only (below_next hb4' hb5) o6 (by have := hb4'.size; omega) (Nat.le_refl _)
  have s6 := row_take (m := m) r6 HT.out.2.1 HT.out.1 (by omega)
  refine (rencode_any _ _ w6 s6 (by rw [List.length_take]; omega)).mono ?_
  rintro e w7 ⟨rfl, hb7⟩
  have hb7' := below_next hb6 hb7
  rw [← HT.out.2.2]
  clear hb7 hb6 s6 o6 r6 hr5 hb5 hb4' e5
  go_wp2
  go_ret
  exact ⟨ret_str HS.out, hb7'⟩
end Go.Proofs.YtilfmemfnheppaaDoor
