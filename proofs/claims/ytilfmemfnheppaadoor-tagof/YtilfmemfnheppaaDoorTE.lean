/- The contract of the program's Encode: two digits of each byte. No conditions but that the bytes lie in memory (and, so that the text can be, that they are at most 2^40). -/
import Derived.Test.YtilfmemfnheppaaDoorTD
import Derived.Deep.RegionLaw
import Derived.Deep.AppendLies
import Derived.Laws.BytesArg
namespace Go.Proofs.YtilfmemfnheppaaDoor
open Go.RowKit Hx
set_option linter.unusedVariables false

/-- the digits of a row of bytes -/
def enc (xs : List Int) : List Int := xs.flatMap (fun c => [sgn (c / 16), sgn (c % 16)])
theorem enc_len (xs : List Int) : (enc xs).length = 2 * xs.length := by
  induction xs with
  | nil => rfl
  | cons x xs ih => simp [enc] at ih ⊢; omega
theorem enc_take (xs : List Int) (k : Nat) (h : k < xs.length) : enc (xs.take (k + 1)) = enc (xs.take k) ++ [sgn (nth xs k / 16), sgn (nth xs k % 16)] := by
  unfold enc; rw [List.take_succ_eq_append_getElem h, List.flatMap_append, nth_eq xs k h]; simp
theorem sgn_bd (n : Int) (h0 : 0 ≤ n) (h1 : n ≤ 15) : 0 ≤ sgn n ∧ sgn n ≤ 255 := by unfold sgn; split <;> omega
theorem enc_bd {xs : List Int} (h : ∀ x ∈ xs, 0 ≤ x ∧ x ≤ 255) : ∀ x ∈ enc xs, 0 ≤ x ∧ x ≤ 255 := by
  intro x hx
  simp [enc] at hx
  obtain ⟨c, hc, h1⟩ := hx
  have := h c hc
  rcases h1 with rfl | rfl
  · exact sgn_bd _ (by omega) (by omega)
  · exact sgn_bd _ (by omega) (by omega)

/-- the sixteen digits, as the program has them -/
theorem dig_at (x : Int) (h0 : 0 ≤ x) (h1 : x ≤ 15) (h : x.toNat < (ByteArray.mk #[48, 49, 50, 51, 52, 53, 54, 55, 56, 57, 97, 98, 99, 100, 101, 102]).size) :
    (((ByteArray.mk #[48, 49, 50, 51, 52, 53, 54, 55, 56, 57, 97, 98, 99, 100, 101, 102])[x.toNat]'h).toNat : Int) = sgn x := by
  obtain ⟨n, rfl⟩ := Int.eq_ofNat_of_zero_le h0
  have hn : n < 16 := by omega
  have hall : ∀ m : Fin 16, (((ByteArray.mk #[48, 49, 50, 51, 52, 53, 54, 55, 56, 57, 97, 98, 99, 100, 101, 102])[m.1]'m.2).toNat : Int) = sgn (m.1 : Int) := by decide
  exact hall ⟨n, hn⟩

theorem two_new (w : World) (x y : Value) (t : TypeId) : ∀ j u, [x, y][j]? = some u → (w.alloc (.cells #[x, y] t)).cell? ((⟨w.heap.size, 0, none⟩ : Addr).add j) = some u := by
  intro j u h
  match j, h with
  | 0, h => simp at h; subst h; simp [Addr.add]
  | 1, h => simp at h; subst h; simp [Addr.add]

theorem conv_own {w : World} {base : Nat} {v : Value} {xs : List Int} (h : Hx.Own w base v xs) : (convert 25 9 v).run Tryd.prog w = .ok (.string (strOfNums xs)) w := by
  have h2 := h.2
  rcases h2 with ⟨hv, hn⟩ | ⟨g, cap, cur, hv, hg, hh, hnc, hcm, hcs, ht⟩
  · subst hv
    have : xs = [] := List.eq_nil_of_length_eq_zero hn
    subst this
    exact run_convert_bytes_nil w 25 5 Tryd.underlying25 Tryd.underlying5 0 0 9 Tryd.underlying9
  · subst hv
    exact run_convert_bytes_arg w 25 5 Tryd.underlying25 Tryd.underlying5 g 0 xs.length cap xs rfl (fun i hi => by
      have := World.ownsRow.cellAt h i (by omega)
      rw [Nat.zero_add, this, cells8_at xs i hi]; rfl) 9 Tryd.underlying9

theorem step_enc {w1 : World} {base : Nat} {v : Value} {xs : List Int} {k : Nat} (h : k < xs.length)
    (hown : w1.ownsRow base 5 1 v ((enc (xs.take k)).length + 2) (cells8 (enc (xs.take k)) ++ [.int .u8 (sgn (nth xs k / 16)), .int .u8 (sgn (nth xs k % 16))])) : Hx.Own w1 base v (enc (xs.take (k + 1))) := by
  rw [enc_take xs k h]
  unfold Own
  rw [← cells8_app, List.length_append]
  exact hown

theorem ret_str {a b : ByteArray} (h : a = b) : Ending.returned (.string a) = .returned (.string b) := by rw [h]

set_option maxRecDepth 100000 in
set_option maxHeartbeats 1000000 in
theorem encode_any (v : Value) (xs : List Int) (w : World) (hv : Sl w v xs) (hs : xs.length ≤ 1099511627776) :
    Calls Tryd.prog 23 #[v] w fun e w' => e = .returned (.string (strOfNums (enc xs))) ∧ Below w.heap.size w w' := by
  obtain ⟨i0, hi, hz0, hz1, hz2⟩ := info_parts Tryd.info5
  obtain ⟨a, cap, rfl, hx, hl, hc, hr⟩ := hv
  go_enter Tryd.func23, Tryd.ntmps23
  go_wp2_with (at_make; refine wpList_make_own _ rfl (.const (.int .i64 0)) (.tmp 8) 25 rfl w.heap.size 5 i0 (.int .u8 0) 1 Tryd.underlying25 hi hz0 hz1 .i64 .i64 _ (2 * xs.length) rfl rfl (by omega) (by rw [hz2]; omega) (by unfold maxLen; omega) (Nat.le_refl _) ?_; intro w1 hown hgrow)
  have hb1 : Below w.heap.size w w1 := (Below.refl _ _).grown hgrow (Nat.le_refl _) (fun k h => by cases h)
  go_loopw [3, 12] (fun v i wr => ∃ k : Nat, k ≤ xs.length ∧ i = .int .i64 k ∧ Hx.Own wr w.heap.size v (enc (xs.take k)) ∧ Below w.heap.size w wr) (fun _ i _ => xs.length - (intOf i).toNat)
  case atStart => exact ⟨0, by omega, rfl, hown, hb1⟩
  case round =>
    clear hown hgrow hb1
    obtain ⟨k, hk, rfl, hown, hb⟩ := hrel
    by_cases hlt : k < xs.length
    · obtain ⟨b, off, rfl, hbs, hcell⟩ := hr (by omega)
      have c1 : wr.cell? ⟨b, off + k, none⟩ = some (.int .u8 (nth xs k)) := (hb.cell (p := ⟨b, off + k, none⟩) hbs).trans (hcell k hlt)
      have hlt'' : (k : Int) < (xs.length : Int) := by omega
      obtain ⟨n1, n2⟩ := nth_bd hx k
      clear hcell hr
      have b1 : 0 ≤ nth xs k / 16 := by omega
      have b2 : nth xs k / 16 < 16 := by omega
      have b3 : 0 ≤ nth xs k % 16 := by omega
      have b4 : nth xs k % 16 < 16 := by omega
      have eand : bits BinOp.and IntKind.u8 (nth xs k) 15 = nth xs k % 16 := by
        rw [u8_and _ _ (by omega) (by omega) (by omega) (by omega)]
        show ((((nth xs k).toNat &&& 15 : Nat)) : Int) = _
        rw [nat_mask4]; omega
      have e1 := dig_at (nth xs k / 16) b1 (by omega)
      have e2 := dig_at (nth xs k % 16) b3 (by omega)
      have HO : Hid (Hx.Own wr w.heap.size u3 (enc (xs.take k))) := hown
      have hlen : (enc (xs.take k)).length + 2 ≤ 2199023255552 := by rw [enc_len, List.length_take]; omega
      have hwz := hb.size
      clear hown
      go_wp2
      go_region_law ((refine step_append_lies _ (by rfl) (.tmp 16) (.tmp 23) 25 (by rfl) w.heap.size 5 i0 (.int .u8 0) 1 1 Tryd.underlying25 hi hz0 hz1 hz2 (by rfl) (by decide) u3 (enc (xs.take k)).length (cells8 (enc (xs.take k))) (by rfl) (by exact (HO.out.alloc _)) ⟨wr.heap.size, 0, none⟩ 2 2 [.int .u8 (sgn (nth xs k / 16)), .int .u8 (sgn (nth xs k % 16))] (by rfl) (by rfl) (by exact two_new wr _ _ 5) (by simp [Value.oneCell']) (by decide) (by unfold maxLen; omega) (by omega) (by simp; omega) (wr.heap.size + 1) (by simp) ?_; intro g cap' w1 hown1 hgrow hat hlt1))
      all_goals
        have hb1 : Below w.heap.size w w1 := ((hb.alloc hwz (.cells #[.int .u8 (sgn (nth xs k / 16)), .int .u8 (sgn (nth xs k % 16))] 5)).drew).grown hgrow (by simp; omega) (fun q h => (World.ownsRow.lt HO.out q h).1)
        have hown2 : Hid (Hx.Own w1 w.heap.size (.slice (some ⟨g, 0, none⟩) ((enc (xs.take k)).length + 2) cap') (enc (xs.take (k + 1)))) := step_enc hlt hown1
        clear hown1 hgrow hat
        go_wp2
        go_roundw
        case rel => exact ⟨k + 1, by omega, by go_num, hown2.out, hb1⟩
        case measure => simp [intOf]; omega
    · have hkk : k = xs.length := by omega
      have hcv := conv_own hown
      clear hown hr
      go_wp2
      go_ret
      exact ⟨rfl, hb⟩
end Go.Proofs.YtilfmemfnheppaaDoor
