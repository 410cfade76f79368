/- The contracts of Print (off the library's shelf: its table holds the powers of ten) and of the document's own Print: a number's text. Conditions: the number is one of 64 bits; the table, for the first. -/
import Derived.Test.YtdhlheilgagcpaaGreatDoorNS
import Derived.Test.YtdhlheilgagcpaaGreatDoorBN
import Derived.Lib.AppendIntMem
import Derived.Lib.ItoaLen
import Derived.Laws.BytesArg
import Derived.Deep.AppendLies
namespace Go.Proofs.YtdhlheilgagcpaaGreatDoor
open Go.RowKit Go.PlainAid
set_option linter.unusedVariables false

/-- the library's table of powers of ten is as its text lays it -/
def Pt (w : World) : Prop := Lib.TabIs Tryz.prog w "internal/strconv.uint64pow10" .u64 Lib.pow10Tab
theorem Pt.later {w w' : World} (h : Pt w) (hb : Below w.heap.size w w') : Pt w' := Lib.tabBelow_of_tabIs h w' hb
/-- a number's text -/
def txt (n : Int) : ByteArray := ⟨(Lib.itoa n).toArray⟩

theorem below_grow (w : World) (k : Nat) (os : Array Obj) : Below w.heap.size w (Sort.grow (w.drewN k) os) :=
  ⟨rfl, rfl, rfl, by show w.heap.size ≤ (w.heap ++ os).size; simp, fun j hj => by show (w.heap ++ os)[j]? = w.heap[j]?; rw [Array.getElem?_append_left hj]⟩

theorem print_any (n : Int) (w : World) (h0 : -9223372036854775808 ≤ n) (h1 : n ≤ 9223372036854775807) (hp : Pt w) :
    Calls Tryz.prog 28 #[.int .i64 n] w fun e w' => e = .returned (.string (txt n)) ∧ Below w.heap.size w w' := by
  go_enter Tryz.func28, Tryz.ntmps28
  go_wp2_with (go_at_call 59; refine (Any.strconv_FormatInt_10 fmtLays n h0 h1 _ hp).mono ?_; rintro e w1 ⟨rfl, k, os, rfl⟩)
  go_ret
  exact ⟨rfl, below_grow w k os⟩

theorem dec_step {u : Nat} (h : ¬ u < 10) : Lib.decDigits u = Lib.decDigits (u / 10) ++ [UInt8.ofNat (48 + u % 10)] := by rw [Lib.decDigits, dif_neg h]
theorem str_cons (c : Nat) (h : c ≤ 255) (l : List UInt8) : strOfNums [(c : Int)] ++ ⟨l.toArray⟩ = ⟨(UInt8.ofNat c :: l).toArray⟩ := by
  apply ByteArray.ext
  simp [strOfNums, ByteArray.data_append]

theorem conv_one (w : World) (c : Int) : (convert 47 9 (.slice (some ⟨w.heap.size, 0, none⟩) 1 1)).run Tryz.prog (w.alloc (.cells #[.int .u8 c] 5)) = .ok (.string (strOfNums [c])) (w.alloc (.cells #[.int .u8 c] 5)) :=
  run_convert_bytes_arg _ 47 5 Tryz.underlying47 Tryz.underlying5 w.heap.size 0 1 1 [c] rfl (fun i hi => by
    have e : i = 0 := by simp at hi; omega
    subst e
    simp) 9 Tryz.underlying9

theorem txt_neg {n : Int} (h : n < 0) {l : List UInt8} (hd : Lib.decDigits n.natAbs = l) : (⟨#[45]⟩ : ByteArray) ++ ⟨l.toArray⟩ = txt n := by
  unfold txt Lib.itoa
  rw [if_pos h, hd]
  apply ByteArray.ext
  simp [ByteArray.data_append]
theorem txt_pos {n : Int} (h : ¬ n < 0) {l : List UInt8} (hd : Lib.decDigits n.natAbs = l) : (⟨l.toArray⟩ : ByteArray) = txt n := by
  unfold txt Lib.itoa
  rw [if_neg h, ← hd, show n.natAbs = n.toNat from by omega]

set_option maxRecDepth 100000 in
set_option maxHeartbeats 1600000 in
theorem rprint_any (n : Int) (w : World) (h0 : -9223372036854775808 ≤ n) (h1 : n ≤ 9223372036854775807) :
    Calls Tryz.prog 35 #[.int .i64 n] w fun e w' => e = .returned (.string (txt n)) ∧ Below w.heap.size w w' := by
  go_enter Tryz.func35, Tryz.ntmps35
  go_wp2
  go_loopw [3, 4] (fun s m wr => ∃ (u : Nat) (l : List UInt8) (x : Int), m = .int .i64 x ∧ s = .string ⟨l.toArray⟩ ∧ Hid (0 ≤ n → x = (u : Int)) ∧ Hid (n < 0 → x = -(u : Int)) ∧ u ≤ 9223372036854775808 ∧ Hid (Lib.decDigits n.natAbs = Lib.decDigits u ++ l) ∧ Below w.heap.size w wr) (fun _ m _ => (intOf m).natAbs)
  case atStart => exact ⟨n.natAbs, [], n, rfl, rfl, fun h => by omega, fun h => by omega, by omega, by show _ = _; simp, Below.refl _ _⟩
  case round =>
    obtain ⟨u, l, x, rfl, rfl, HP, HN, hu, HD, hb⟩ := hrel
    have hsz : (⟨l.toArray⟩ : ByteArray).size ≤ 20 := by
      have e1 := congrArg List.length HD.out
      rw [List.length_append, Lib.decDigits_length] at e1
      have := Lib.nDigits_le20 n.natAbs (by omega)
      show l.toArray.size ≤ 20
      simp; omega
    have hwz := hb.size
    have hcv := conv_one wr (48 + (u % 10 : Nat))
    have HT : Hid (strOfNums [((48 + u % 10 : Nat) : Int)] ++ ⟨l.toArray⟩ = ⟨(UInt8.ofNat (48 + u % 10) :: l).toArray⟩) := str_cons (48 + u % 10) (by omega) l
    have HS : Hid (u < 10 → Lib.decDigits n.natAbs = UInt8.ofNat (48 + u % 10) :: l) := by
      intro h; rw [HD.out, Lib.decDigits_one h, Nat.mod_eq_of_lt h]; rfl
    have HS2 : Hid (¬ u < 10 → Lib.decDigits n.natAbs = Lib.decDigits (u / 10) ++ (UInt8.ofNat (48 + u % 10) :: l)) := by
      intro h; rw [HD.out, dec_step h, List.append_assoc]; rfl
    obtain ⟨l', hl'⟩ : ∃ l', l' = UInt8.ofNat (48 + u % 10) :: l := ⟨_, rfl⟩
    rw [← hl'] at HT HS HS2
    have hsz' : (⟨l'.toArray⟩ : ByteArray).size ≤ 21 := by
      rw [hl']
      have : l.toArray.size ≤ 20 := hsz
      show (UInt8.ofNat (48 + u % 10) :: l).toArray.size ≤ 21
      simp at this ⊢; omega
    clear hl' HD
    obtain ⟨T, hT⟩ : ∃ T, strOfNums [((48 + u % 10 : Nat) : Int)] = T := ⟨_, rfl⟩
    have hTs : T.size = 1 := by rw [← hT]; rfl
    rw [hT] at HT
    rw [show (48 + ((u % 10 : Nat) : Int)) = ((48 + u % 10 : Nat) : Int) from by omega, hT, show ((48 + u % 10 : Nat) : Int) = 48 + (u : Int) % 10 from by omega] at hcv
    clear hT
    obtain ⟨S, hS⟩ : ∃ S, S = (⟨l.toArray⟩ : ByteArray) := ⟨_, rfl⟩
    rw [← hS] at hsz HT ⊢
    clear hS
    obtain ⟨S', hS'⟩ : ∃ S', S' = (⟨l'.toArray⟩ : ByteArray) := ⟨_, rfl⟩
    have HS' : Hid (S' = (⟨l'.toArray⟩ : ByteArray)) := hS'
    rw [← hS'] at hsz' HT
    clear hS'
    have hle : ¬ 9223372036854775807 < T.size + S.size := by omega
    have hadd : T ++ S = S' := HT.out
    have r0 : 0 ≤ (u : Int) % 10 := by omega
    have r1 : (u : Int) % 10 ≤ 9 := by omega
    clear HT hTs
    by_cases hn : n < 0
    · have e := HN.out hn
      subst e
      have m1 : (-(u : Int)).tmod 10 = -((u : Int) % 10) := by rw [Int.neg_tmod, Int.tmod_eq_emod_of_nonneg (by omega)]
      have m2 : (-(u : Int)).tdiv 10 = -((u / 10 : Nat) : Int) := by rw [Int.neg_tdiv, Int.tdiv_eq_ediv_of_nonneg (by omega)]; omega
      have hle2 : ¬ 9223372036854775807 < 1 + S'.size := by omega
      clear HP HN
      by_cases hr : (u : Int) % 10 = 0
      case' pos =>
        rw [hr] at m1 hcv
        rw [show -(0 : Int) = 0 from rfl] at m1
        rw [show (48 : Int) + 0 = 48 from rfl] at hcv
      case' neg =>
        have r2 : 0 < (u : Int) % 10 := by omega
        clear hr
      all_goals
        by_cases hq : u < 10
        · have HQ : Hid (Lib.decDigits n.natAbs = l') := HS.out hq
          clear HS HS2
          rw [show u / 10 = 0 from by omega, show -((0 : Nat) : Int) = 0 from rfl] at m2
          go_wp2
          go_ret
          refine ⟨?_, hb.alloc hwz _⟩
          show Ending.returned (.string (⟨#[45]⟩ ++ S')) = _
          rw [HS'.out, txt_neg hn HQ.out]
        · have HQ : Hid (Lib.decDigits n.natAbs = Lib.decDigits (u / 10) ++ l') := HS2.out hq
          clear HS HS2
          obtain ⟨q, hqq⟩ : ∃ q : Nat, q = u / 10 := ⟨_, rfl⟩
          have q0 : 0 < q := by omega
          have q1 : 10 * q ≤ u := by omega
          rw [← hqq] at m2
          have HQQ : Hid (q = u / 10) := hqq
          clear hqq
          have hz1 : (-(q : Int) == 0) = false := by simp; omega
          have hz2 : ¬ -(q : Int) = 0 := by omega
          go_wp2
          go_roundw
          case rel => exact ⟨q, l', -(q : Int), rfl, by rw [HS'.out], fun h => by omega, fun _ => rfl, by omega, by rw [HQQ.out]; exact HQ, hb.alloc hwz _⟩
          case measure => simp [intOf]; omega
    · have e := HP.out (by omega)
      subst e
      have m1 : ((u : Int)).tmod 10 = ((u : Int) % 10) := by rw [Int.tmod_eq_emod_of_nonneg (by omega)]
      have m2 : ((u : Int)).tdiv 10 = ((u / 10 : Nat) : Int) := by rw [Int.tdiv_eq_ediv_of_nonneg (by omega)]; omega
      clear HP HN
      by_cases hq : u < 10
      · have HQ : Hid (Lib.decDigits n.natAbs = l') := HS.out hq
        clear HS HS2
        rw [show u / 10 = 0 from by omega, show ((0 : Nat) : Int) = 0 from rfl] at m2
        go_wp2
        go_ret
        refine ⟨?_, hb.alloc hwz _⟩
        show Ending.returned (.string S') = _
        rw [HS'.out, txt_pos (by omega) HQ.out]
      · have HQ : Hid (Lib.decDigits n.natAbs = Lib.decDigits (u / 10) ++ l') := HS2.out hq
        clear HS HS2
        obtain ⟨q, hqq⟩ : ∃ q : Nat, q = u / 10 := ⟨_, rfl⟩
        have q0 : 0 < q := by omega
        have q1 : 10 * q ≤ u := by omega
        rw [← hqq] at m2
        have HQQ : Hid (q = u / 10) := hqq
        clear hqq
        have hz1 : ((q : Int) == 0) = false := by simp; omega
        have hz2 : ¬ (q : Int) = 0 := by omega
        have hz3 : ¬ q = 0 := by omega
        go_wp2
        go_roundw
        case rel => exact ⟨q, l', (q : Int), rfl, by rw [HS'.out], fun _ => rfl, fun h => by omega, by omega, by rw [HQQ.out]; exact HQ, hb.alloc hwz _⟩
        case measure => simp [intOf]; omega
end Go.Proofs.YtdhlheilgagcpaaGreatDoor
