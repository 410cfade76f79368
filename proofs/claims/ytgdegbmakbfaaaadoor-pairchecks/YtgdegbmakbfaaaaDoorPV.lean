/- The contract of an event's fault. Conditions: the walk's state, the table and the history lie in memory. -/
import Derived.Test.YtgdegbmakbfaaaaDoorPU
namespace Go.Proofs.YtgdegbmakbfaaaaDoor
open Go.RowKit Go.PlainAid Ln
set_option linter.unusedVariables false
set_option linter.unusedSimpArgs false

/-- a history in memory: its events and their lists, of a size that the contracts take; its clients are keys -/
structure Hst (w : World) (b o q c : Nat) (ys : List YE) : Prop where
  len : ys.length = q
  row : ∀ k, k < q → w.rangeAt b (o + k * 14) (encE (ye ys k))
  lt : b < w.heap.size
  inl : InL w ys
  few : q ≤ 900000
  le : q ≤ c
  top : c ≤ 9223372036854775807
  sz : ∀ k, k < q → SzE (ye ys k).1
  kv : ∀ k, k < q → KV (ye ys k).1.c
theorem Hst.later {w w' : World} {b o q c : Nat} {ys : List YE} (h : Hst w b o q c ys) (hb : Below w.heap.size w w') : Hst w' b o q c ys :=
  ⟨h.len, fun k hk j u hj => (hb.cell (p := ⟨b, o + k * 14 + j, none⟩) h.lt).trans (h.row k hk j u hj), Nat.lt_of_lt_of_le h.lt hb.size, h.inl.later hb, h.few, h.le, h.top, h.sz, h.kv⟩
theorem Hst.below {w w' : World} {B b o q c : Nat} {ys : List YE} (h : Hst w b o q c ys) (hl : Below B w w') (hb : b < B) (hi : InL w' ys) : Hst w' b o q c ys :=
  ⟨h.len, fun k hk j u hj => (hl.cell (p := ⟨b, o + k * 14 + j, none⟩) hb).trans (h.row k hk j u hj), Nat.lt_of_lt_of_le h.lt hl.size, hi, h.few, h.le, h.top, h.sz, h.kv⟩
set_option maxRecDepth 100000 in
set_option maxHeartbeats 16000000 in
theorem fault_any (p mb ml n b o q c B : Nat) (ve : Value) (ys : List YE) (w : World) (hst : St w B p mb ml (.slice (some ⟨b, o, none⟩) q c) ve (ys.map (·.1)) n) (hh : Hst w b o q c ys) (hn : n < q) (ht : Tb w) :
    Calls Tryd.prog 26 #[.pointer (some ⟨p, 0, none⟩), .int .i64 (n : Int)] w fun e w' => e = .returned (.int .i64 (wrongE (ys.map (·.1)) n)) ∧ Below w.heap.size w w' := by
  by_cases hbig : n < 4096
  case neg =>
    rw [wrong_many hbig]
    have hbig' : (4096 : Int) ≤ (n : Int) := by omega
    go_enter Tryd.func26, Tryd.ntmps26
    go_wp2
    go_ret
    exact ⟨rfl, Below.refl _ _⟩
  have hbig' : ¬ (4096 : Int) ≤ (n : Int) := by omega
  have hnq : (n : Int) < (q : Int) := by have := hn; omega
  have hn0 : (0 : Int) ≤ (n : Int) := by omega
  have hq := hh.few
  have hqc := hh.le
  have hct := hh.top
  have hy := hh.row n hn
  have hin := hh.inl n (by rw [hh.len]; exact hn)
  have hzn := hh.sz n hn
  have hkn := hh.kv n hn
  have hex := ev_ye ys n
  rcases hye : ye ys n with ⟨X, va, vr⟩
  rw [hye] at hy hin hzn hkn hex
  have k0 := hst.blk.cell 0 _ rfl
  have HR : Hid (Calls Tryd.prog 32 #[.agg (evC X va vr).toArray] w fun e w' => e = .returned (.bool (rightE X)) ∧ Below w.heap.size w w') := eright_any X va vr w ht hin.1 hin.2 hzn
  have HTi : Hid (∀ w', Below w.heap.size w w' → Calls Tryd.prog 33 #[.pointer (some ⟨p, 0, none⟩), .int .i64 (n : Int)] w' fun e w'' => e = .returned (.bool (timeB (ys.map (·.1)) n)) ∧ Below w'.heap.size w' w'') :=
    fun w' h => time_any p mb ml n b o q c ve ys w' (hst.blk.later h) (hh.later h).row hn (by omega) hqc hct
  have HTu : Hid (∀ w', Below w.heap.size w w' → Calls Tryd.prog 34 #[.pointer (some ⟨p, 0, none⟩), .agg (evC X va vr).toArray] w' fun e w'' => e = .returned (.bool (turnB (ys.map (·.1)) n)) ∧ Below w'.heap.size w' w'') :=
    fun w' h => turn_any p mb ml n b o q c B ve ys X va vr w' (hst.later h) hh.len (hh.later h).row (hh.later h).lt (hh.later h).inl hye hn (by omega) hqc hct (ht.later h) hzn hkn
  have HX : Hid (wrongE (ys.map (·.1)) n = if rightE X = true then (if (timeB (ys.map (·.1)) n && turnB (ys.map (·.1)) n) = true then 0 else 4) else 2) := by show _ = _; rw [wrong_of, if_pos hbig, hex]
  have HY : Hid (w.rangeAt b (o + n * 14) (evC X va vr)) := hy
  have HBb : Hid (b < w.heap.size) := hh.lt
  have HK : Hid (Blk w p (wkC (.slice (some ⟨b, o, none⟩) q c) mb ml ve) 61) := hst.blk
  clear hst hh ht hye hex hkn hzn hin hy
  generalize ys.map (·.1) = xs at *
  generalize rightE X = rt at *
  generalize timeB xs n = ti at *
  generalize turnB xs n = tu at *
  generalize wrongE xs n = wr at *
  go_enter Tryd.func26, Tryd.ntmps26
  go_wp2_with ((with_reducible refine wpList_load_mid ?_ 47 (.tmp 14) ?_ b (o + n * 14) ?_ (evC X va vr) _ HY.out Tryd.underlying47 ?_ ?_ ?_); (exact rfl); (exact rfl); (exact rfl); (exact rfl); (exact sizeE))
  refine HR.out.mono ?_
  rintro e w1 ⟨rfl, b1⟩
  have Hb1 : Hid (Below w.heap.size w w1) := b1
  cases rt
  · clear b1
    go_wp2
    go_ret
    exact ⟨by rw [HX.out]; rfl, Hb1.out⟩
  clear b1 k0
  go_wp2_with fail
  refine (HTi.out _ Hb1.out).mono ?_
  rintro e w2 ⟨rfl, b2⟩
  have Hb2 : Hid (Below w.heap.size w w2) := below_next Hb1.out b2
  clear b2
  cases ti
  · go_wp2
    go_ret
    exact ⟨by rw [HX.out]; rfl, Hb2.out⟩
  have k0 := (HK.out.later Hb2.out).cell 0 _ rfl
  have HY2 : Hid (w2.rangeAt b (o + n * 14) (evC X va vr)) := fun j u hj => (Hb2.out.cell (p := ⟨b, o + n * 14 + j, none⟩) HBb.out).trans (HY.out j u hj)
  go_wp2_with (refine wpList_wanted (by rfl) ?_; refine wp_load_mid 47 (.tmp 30) rfl b (o + n * 14) rfl (evC X va vr) _ HY2.out Tryd.underlying47 rfl sizeE ?_)
  refine (HTu.out _ Hb2.out).mono ?_
  rintro e w3 ⟨rfl, b3⟩
  have Hb3 : Hid (Below w.heap.size w w3) := below_next Hb2.out b3
  clear b3
  cases tu
  · go_wp2
    go_ret
    exact ⟨by rw [HX.out]; rfl, Hb3.out⟩
  · go_wp2
    go_ret
    exact ⟨by rw [HX.out]; rfl, Hb3.out⟩
end Go.Proofs.YtgdegbmakbfaaaaDoor
