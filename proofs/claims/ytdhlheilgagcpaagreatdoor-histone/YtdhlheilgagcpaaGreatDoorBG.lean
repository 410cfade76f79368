/- The contracts of Print (off the library's shelf: its table holds the powers of ten) and of the document's own Print: a number's text. Conditions: the number is one of 64 bits; the table, for the first. Plain mathematics of a number's text: it is read again, and what is read has this text; unlike numbers have unlike texts. Conditions: numbers of 64 bits, where one is read. -/
import Derived.Test.YtdhlheilgagcpaaGreatDoorNS
import Derived.Test.YtdhlheilgagcpaaGreatDoorBN
import Derived.Lib.AppendIntMem
import Derived.Lib.ItoaLen
import Derived.Laws.BytesArg
import Derived.Deep.AppendLies
namespace Go.Proofs.YtdhlheilgagcpaaGreatDoor
open Go.RowKit Go.PlainAid
set_option linter.unusedVariables false

/-- the library's table of powers of ten is as its text lays it -/
def Pt (w : World) : Prop := Lib.TabIs Tryz.prog w "internal/strconv.uint64pow10" .u64 Lib.pow10Tab
theorem Pt.later {w w' : World} (h : Pt w) (hb : Below w.heap.size w w') : Pt w' := Lib.tabBelow_of_tabIs h w' hb
/-- a number's text -/
def txt (n : Int) : ByteArray := ⟨(Lib.itoa n).toArray⟩

theorem below_grow (w : World) (k : Nat) (os : Array Obj) : Below w.heap.size w (Sort.grow (w.drewN k) os) :=
  ⟨rfl, rfl, rfl, by show w.heap.size ≤ (w.heap ++ os).size; simp, fun j hj => by show (w.heap ++ os)[j]? = w.heap[j]?; rw [Array.getElem?_append_left hj]⟩

theorem print_any (n : Int) (w : World) (h0 : -9223372036854775808 ≤ n) (h1 : n ≤ 9223372036854775807) (hp : Pt w) :
    Calls Tryz.prog 28 #[.int .i64 n] w fun e w' => e = .returned (.string (txt n)) ∧ Below w.heap.size w w' := by
  go_enter Tryz.func28, Tryz.ntmps28
  go_wp2_with (go_at_call 59; refine (Any.strconv_FormatInt_10 fmtLays n h0 h1 _ hp).mono ?_; rintro e w1 ⟨rfl, k, os, rfl⟩)
  go_ret
  exact ⟨rfl, below_grow w k os⟩

theorem dec_step {u : Nat} (h : ¬ u < 10) : Lib.decDigits u = Lib.decDigits (u / 10) ++ [UInt8.ofNat (48 + u % 10)] := by rw [Lib.decDigits, dif_neg h]
theorem str_cons (c : Nat) (h : c ≤ 255) (l : List UInt8) : strOfNums [(c : Int)] ++ ⟨l.toArray⟩ = ⟨(UInt8.ofNat c :: l).toArray⟩ := by
  apply ByteArray.ext
  simp [strOfNums, ByteArray.data_append]

theorem conv_one (w : World) (c : Int) : (convert 47 9 (.slice (some ⟨w.heap.size, 0, none⟩) 1 1)).run Tryz.prog (w.alloc (.cells #[.int .u8 c] 5)) = .ok (.string (strOfNums [c])) (w.alloc (.cells #[.int .u8 c] 5)) :=
  run_convert_bytes_arg _ 47 5 Tryz.underlying47 Tryz.underlying5 w.heap.size 0 1 1 [c] rfl (fun i hi => by
    have e : i = 0 := by simp at hi; omega
    subst e
    simp) 9 Tryz.underlying9

theorem txt_neg {n : Int} (h : n < 0) {l : List UInt8} (hd : Lib.decDigits n.natAbs = l) : (⟨#[45]⟩ : ByteArray) ++ ⟨l.toArray⟩ = txt n := by
  unfold txt Lib.itoa
  rw [if_pos h, hd]
  apply ByteArray.ext
  simp [ByteArray.data_append]
theorem txt_pos {n : Int} (h : ¬ n < 0) {l : List UInt8} (hd : Lib.decDigits n.natAbs = l) : (⟨l.toArray⟩ : ByteArray) = txt n := by
  unfold txt Lib.itoa
  rw [if_neg h, ← hd, show n.natAbs = n.toNat from by omega]

set_option maxRecDepth 100000 in
set_option maxHeartbeats 1600000 in
theorem rprint_any (n : Int) (w : World) (h0 : -9223372036854775808 ≤ n) (h1 : n ≤ 9223372036854775807) :
    Calls Tryz.prog 35 #[.int .i64 n] w fun e w' => e = .returned (.string (txt n)) ∧ Below w.heap.size w w' := by
  go_enter Tryz.func35, Tryz.ntmps35
  go_wp2
  go_loopw [3, 4] (fun s m wr => ∃ (u : Nat) (l : List UInt8) (x : Int), m = .int .i64 x ∧ s = .string ⟨l.toArray⟩ ∧ Hid (0 ≤ n → x = (u : Int)) ∧ Hid (n < 0 → x = -(u : Int)) ∧ u ≤ 9223372036854775808 ∧ Hid (Lib.decDigits n.natAbs = Lib.decDigits u ++ l) ∧ Below w.heap.size w wr) (fun _ m _ => (intOf m).natAbs)
  case atStart => exact ⟨n.natAbs, [], n, rfl, rfl, fun h => by omega, fun h => by omega, by omega, by show _ = _; simp, Below.refl _ _⟩
  case round =>
    obtain ⟨u, l, x, rfl, rfl, HP, HN, hu, HD, hb⟩ := hrel
    have hsz : (⟨l.toArray⟩ : ByteArray).size ≤ 20 := by
      have e1 := congrArg List.length HD.out
      rw [List.length_append, Lib.decDigits_length] at e1
      have := Lib.nDigits_le20 n.natAbs (by omega)
      show l.toArray.size ≤ 20
      simp; omega
    have hwz := hb.size
    have hcv := conv_one wr (48 + (u % 10 : Nat))
    have HT : Hid (strOfNums [((48 + u % 10 : Nat) : Int)] ++ ⟨l.toArray⟩ = ⟨(UInt8.ofNat (48 + u % 10) :: l).toArray⟩) := str_cons (48 + u % 10) (by omega) l
    have HS : Hid (u < 10 → Lib.decDigits n.natAbs = UInt8.ofNat (48 + u % 10) :: l) := by
      intro h; rw [HD.out, Lib.decDigits_one h, Nat.mod_eq_of_lt h]; rfl
    have HS2 : Hid (¬ u < 10 → Lib.decDigits n.natAbs = Lib.decDigits (u / 10) ++ (UInt8.ofNat (48 + u % 10) :: l)) := by
      intro h; rw [HD.out, dec_step h, List.append_assoc]; rfl
    obtain ⟨l', hl'⟩ : ∃ l', l' = UInt8.ofNat (48 + u % 10) :: l := ⟨_, rfl⟩
    rw [← hl'] at HT HS HS2
    have hsz' : (⟨l'.toArray⟩ : ByteArray).size ≤ 21 := by
      rw [hl']
      have : l.toArray.size ≤ 20 := hsz
      show (UInt8.ofNat (48 + u % 10) :: l).toArray.size ≤ 21
      simp at this ⊢; omega
    clear hl' HD
    obtain ⟨T, hT⟩ : ∃ T, strOfNums [((48 + u % 10 : Nat) : Int)] = T := ⟨_, rfl⟩
    have hTs : T.size = 1 := by rw [← hT]; rfl
    rw [hT] at HT
    rw [show (48 + ((u % 10 : Nat) : Int)) = ((48 + u % 10 : Nat) : Int) from by omega, hT, show ((48 + u % 10 : Nat) : Int) = 48 + (u : Int) % 10 from by omega] at hcv
    clear hT
    obtain ⟨S, hS⟩ : ∃ S, S = (⟨l.toArray⟩ : ByteArray) := ⟨_, rfl⟩
    rw [← hS] at hsz HT ⊢
    clear hS
    obtain ⟨S', hS'⟩ : ∃ S', S' = (⟨l'.toArray⟩ : ByteArray) := ⟨_, rfl⟩
    have HS' : Hid (S' = (⟨l'.toArray⟩ : ByteArray)) := hS'
    rw [← hS'] at hsz' HT
    clear hS'
    have hle : ¬ 9223372036854775807 < T.size + S.size := by omega
    have hadd : T ++ S = S' := HT.out
    have r0 : 0 ≤ (u : Int) % 10 := by omega
    have r1 : (u : Int) % 10 ≤ 9 := by omega
    clear HT hTs
    by_cases hn : n < 0
    · have e := HN.out hn
      subst e
      have m1 : (-(u : Int)).tmod 10 = -((u : Int) % 10) := by rw [Int.neg_tmod, Int.tmod_eq_emod_of_nonneg (by omega)]
      have m2 : (-(u : Int)).tdiv 10 = -((u / 10 : Nat) : Int) := by rw [Int.neg_tdiv, Int.tdiv_eq_ediv_of_nonneg (by omega)]; omega
      have hle2 : ¬ 9223372036854775807 < 1 + S'.size := by omega
      clear HP HN
      by_cases hr : (u : Int) % 10 = 0
      case' pos =>
        rw [hr] at m1 hcv
        rw [show -(0 : Int) = 0 from rfl] at m1
        rw [show (48 : Int) + 0 = 48 from rfl] at hcv
      case' neg =>
        have r2 : 0 < (u : Int) % 10 := by omega
        clear hr
      all_goals
        by_cases hq : u < 10
        · have HQ : Hid (Lib.decDigits n.natAbs = l') := HS.out hq
          clear HS HS2
          rw [show u / 10 = 0 from by omega, show -((0 : Nat) : Int) = 0 from rfl] at m2
          go_wp2
          go_ret
          refine ⟨?_, hb.alloc hwz _⟩
          show Ending.returned (.string (⟨#[45]⟩ ++ S')) = _
          rw [HS'.out, txt_neg hn HQ.out]
        · have HQ : Hid (Lib.decDigits n.natAbs = Lib.decDigits (u / 10) ++ l') := HS2.out hq
          clear HS HS2
          obtain ⟨q, hqq⟩ : ∃ q : Nat, q = u / 10 := ⟨_, rfl⟩
          have q0 : 0 < q := by omega
          have q1 : 10 * q ≤ u := by omega
          rw [← hqq] at m2
          have HQQ : Hid (q = u / 10) := hqq
          clear hqq
          have hz1 : (-(q : Int) == 0) = false := by simp; omega
          have hz2 : ¬ -(q : Int) = 0 := by omega
          go_wp2
          go_roundw
          case rel => exact ⟨q, l', -(q : Int), rfl, by rw [HS'.out], fun h => by omega, fun _ => rfl, by omega, by rw [HQQ.out]; exact HQ, hb.alloc hwz _⟩
          case measure => simp [intOf]; omega
    · have e := HP.out (by omega)
      subst e
      have m1 : ((u : Int)).tmod 10 = ((u : Int) % 10) := by rw [Int.tmod_eq_emod_of_nonneg (by omega)]
      have m2 : ((u : Int)).tdiv 10 = ((u / 10 : Nat) : Int) := by rw [Int.tdiv_eq_ediv_of_nonneg (by omega)]; omega
      clear HP HN
      by_cases hq : u < 10
      · have HQ : Hid (Lib.decDigits n.natAbs = l') := HS.out hq
        clear HS HS2
        rw [show u / 10 = 0 from by omega, show ((0 : Nat) : Int) = 0 from rfl] at m2
        go_wp2
        go_ret
        refine ⟨?_, hb.alloc hwz _⟩
        show Ending.returned (.string S') = _
        rw [HS'.out, txt_pos (by omega) HQ.out]
      · have HQ : Hid (Lib.decDigits n.natAbs = Lib.decDigits (u / 10) ++ l') := HS2.out hq
        clear HS HS2
        obtain ⟨q, hqq⟩ : ∃ q : Nat, q = u / 10 := ⟨_, rfl⟩
        have q0 : 0 < q := by omega
        have q1 : 10 * q ≤ u := by omega
        rw [← hqq] at m2
        have HQQ : Hid (q = u / 10) := hqq
        clear hqq
        have hz1 : ((q : Int) == 0) = false := by simp; omega
        have hz2 : ¬ (q : Int) = 0 := by omega
        have hz3 : ¬ q = 0 := by omega
        go_wp2
        go_roundw
        case rel => exact ⟨q, l', (q : Int), rfl, by rw [HS'.out], fun _ => rfl, fun h => by omega, by omega, by rw [HQQ.out]; exact HQ, hb.alloc hwz _⟩
        case measure => simp [intOf]; omega
end Go.Proofs.YtdhlheilgagcpaaGreatDoor
namespace Go.Proofs.YtdhlheilgagcpaaGreatDoor
open Go.RowKit Go.PlainAid
set_option linter.unusedVariables false

theorem ofNat_dig (d : Nat) (h : d < 10) : (UInt8.ofNat (48 + d)).toNat = 48 + d := by
  rw [UInt8.toNat_ofNat']; omega

theorem dec_all : ∀ u, allL (Lib.decDigits u) ∧ vL (Lib.decDigits u) = u ∧ 0 < (Lib.decDigits u).length ∧ (0 < u → (Lib.decDigits u).head? ≠ some 48) ∧ (1 < (Lib.decDigits u).length → 10 ≤ u) := by
  intro u
  induction u using Nat.strongRecOn with
  | ind u ih =>
    by_cases h : u < 10
    · rw [Lib.decDigits_one h]
      have e := ofNat_dig u h
      refine ⟨?_, ?_, by simp, ?_, by simp⟩
      · intro c hc
        simp only [List.mem_singleton] at hc
        subst hc
        omega
      · show dv _ * 10 ^ 0 + 0 = u
        unfold dv
        rw [e]; omega
      · intro h0 k
        have k : some (UInt8.ofNat (48 + u)) = some 48 := k
        injection k with k
        have := congrArg UInt8.toNat k
        rw [e] at this
        have h48 : (48 : UInt8).toNat = 48 := rfl
        omega
    · obtain ⟨i1, i2, i3, i4, i5⟩ := ih (u / 10) (by omega)
      have e := ofNat_dig (u % 10) (by omega)
      rw [dec_step h]
      refine ⟨?_, ?_, by simp, ?_, fun _ => by omega⟩
      · intro c hc
        rcases List.mem_append.1 hc with hc | hc
        · exact i1 c hc
        · simp only [List.mem_singleton] at hc
          subst hc
          omega
      · rw [vL_one, i2]
        unfold dv
        rw [e]; omega
      · intro _
        rw [List.head?_append, Option.or_of_isSome (by rw [List.isSome_head?]; simp; intro k; rw [k] at i3; simp at i3)]
        exact i4 (by omega)
theorem dec_ok (u : Nat) : okL (Lib.decDigits u) := by
  obtain ⟨h1, h2, h3, h4, h5⟩ := dec_all u
  exact ⟨h3, h1, fun h => h4 (by have := h5 h; omega)⟩
theorem dec_val (u : Nat) : vL (Lib.decDigits u) = u := (dec_all u).2.1
theorem dec_of {xs : List UInt8} (h : okL xs) : Lib.decDigits (vL xs) = xs := one_text (dec_ok _) h (dec_val _)

theorem toList_mk (l : List UInt8) : (⟨l.toArray⟩ : ByteArray).toList = l := by rw [ByteArray.toList_eq]
theorem eq_of_toList {a b : ByteArray} (h : a.toList = b.toList) : a = b := by
  rw [ByteArray.toList_eq, ByteArray.toList_eq] at h
  exact ByteArray.ext (Array.toList_inj.1 h)
theorem txt_list (n : Int) : (txt n).toList = Lib.itoa n := toList_mk _
theorem tl_list (s : ByteArray) : (tl s).toList = s.toList.drop 1 := by
  rw [ByteArray.toList_eq, ByteArray.toList_eq]
  unfold tl
  rw [ByteArray.data_extract, Array.toList_extract]
  have : s.data.toList.length = s.size := rfl
  simp only [List.extract_eq_take_drop]
  rw [List.take_of_length_le (by rw [List.length_drop]; omega)]

theorem itoa_neg {n : Int} (h : n < 0) : Lib.itoa n = 45 :: Lib.decDigits n.natAbs := by unfold Lib.itoa; rw [if_pos h]
theorem itoa_pos {n : Int} (h : ¬ n < 0) : Lib.itoa n = Lib.decDigits n.natAbs := by unfold Lib.itoa; rw [if_neg h, show n.natAbs = n.toNat from by omega]
theorem first_of {s : ByteArray} {c : UInt8} {cs : List UInt8} (h : s.toList = c :: cs) : bt s 0 = (c.toNat : Int) := by
  rw [bt_list s 0 (by rw [h]; simp)]
  simp only [h]
  rfl
theorem plain_ok {s : ByteArray} (h : okD s) : ¬ bt s 0 = 45 := by have := h.2.1 0 h.1; omega

/-- a number's text is read again -/
theorem read_txt (n : Int) (h0 : -9223372036854775808 ≤ n) (h1 : n ≤ 9223372036854775807) : sgnR (txt n) = (n, 0) := by
  by_cases h : n < 0
  · have e := (txt_list n).trans (itoa_neg h)
    have e2 : (tl (txt n)).toList = Lib.decDigits n.natAbs := by rw [tl_list, e]; rfl
    have k : okD (tl (txt n)) := (ok_list _).2 (by rw [e2]; exact dec_ok _)
    have v : valN (tl (txt n)) (tl (txt n)).size = n.natAbs := by rw [val_list, e2, dec_val]
    rw [sgnR_neg (by rw [first_of e]; rfl) k (by rw [v]; omega) (by rw [v]; omega), v]
    exact Prod.ext (by show -(n.natAbs : Int) = n; omega) rfl
  · have e := (txt_list n).trans (itoa_pos h)
    have k : okD (txt n) := (ok_list _).2 (by rw [e]; exact dec_ok _)
    have v : valN (txt n) (txt n).size = n.natAbs := by rw [val_list, e, dec_val]
    rw [sgnR_plain (plain_ok k), cntR_good k (by rw [v]; omega), v]
    exact Prod.ext (by show (n.natAbs : Int) = n; omega) rfl

/-- what is read has this text -/
theorem txt_read {s : ByteArray} {n : Int} (h : sgnR s = (n, 0)) : txt n = s := by
  apply eq_of_toList
  rw [txt_list]
  by_cases hm : bt s 0 = 45
  · by_cases hk : okD (tl s)
    · by_cases h0 : valN (tl s) (tl s).size = 0
      · rw [sgnR_nought hm hk h0] at h; injection h with _ h; cases h
      · by_cases hv : (valN (tl s) (tl s).size : Int) ≤ 9223372036854775808
        · rw [sgnR_neg hm hk hv h0] at h
          injection h with h _
          have e : n.natAbs = vL (tl s).toList := by rw [← val_list]; omega
          rw [itoa_neg (by omega), e, dec_of ((ok_list _).1 hk), tl_list]
          have hs : 0 < s.toList.length := by
            apply Nat.pos_of_ne_zero
            intro k
            rw [bt_end s (by rw [ByteArray.toList_eq] at k; show s.data.size ≤ 0; have : s.data.toList.length = s.data.size := rfl; omega)] at hm
            omega
          match hl : s.toList, hs with
          | c :: cs, _ =>
            have := first_of hl
            rw [hm] at this
            rw [show c = 45 from UInt8.toNat_inj.1 (by have h45 : (45 : UInt8).toNat = 45 := rfl; omega)]
            rfl
        · rw [sgnR_great hm hk hv] at h; injection h with _ h; cases h
    · rw [sgnR_bad hm hk] at h; injection h with _ h; cases h
  · rw [sgnR_plain hm] at h
    by_cases hk : okD s
    · by_cases hv : (valN s s.size : Int) ≤ 9223372036854775807
      · rw [cntR_good hk hv] at h
        injection h with h _
        have e : n.natAbs = vL s.toList := by rw [← val_list]; omega
        rw [itoa_pos (by omega), e, dec_of ((ok_list _).1 hk)]
      · rw [cntR_great hk hv] at h; injection h with _ h; cases h
    · rw [cntR_bad _ hk] at h; injection h with _ h; cases h

/-- what is read is a number of 64 bits -/
theorem read_bd (s : ByteArray) : -9223372036854775808 ≤ (sgnR s).1 ∧ (sgnR s).1 ≤ 9223372036854775807 := by
  unfold sgnR cntR
  split
  · split
    · split
      · split
        · exact ⟨by decide, by decide⟩
        · constructor <;> simp only <;> omega
      · exact ⟨by decide, by decide⟩
    · exact ⟨by decide, by decide⟩
  · split
    · split
      · constructor <;> simp only <;> omega
      · exact ⟨by decide, by decide⟩
    · exact ⟨by decide, by decide⟩

/-- unlike numbers have unlike texts -/
theorem txt_inj {a b : Int} (ha : -9223372036854775808 ≤ a ∧ a ≤ 9223372036854775807) (hb : -9223372036854775808 ≤ b ∧ b ≤ 9223372036854775807) : txt a = txt b ↔ a = b := by
  constructor
  · intro h
    have h1 := read_txt a ha.1 ha.2
    rw [h, read_txt b hb.1 hb.2] at h1
    injection h1 with h1 _
    exact h1.symm
  · intro h; rw [h]
/-- a longer text without a sign is a greater number -/
theorem txt_long {a b : Int} (ha : 0 ≤ a) (hb : 0 ≤ b) (h : (txt b).size < (txt a).size) : b < a := by
  have ea := (txt_list a).trans (itoa_pos (by omega))
  have eb := (txt_list b).trans (itoa_pos (by omega))
  have la : (txt a).toList.length = (txt a).size := by rw [ByteArray.toList_eq]; rfl
  have lb : (txt b).toList.length = (txt b).size := by rw [ByteArray.toList_eq]; rfl
  have := longer (dec_ok b.natAbs) (dec_ok a.natAbs) (by rw [← eb, ← ea]; omega)
  rw [dec_val, dec_val] at this
  omega
theorem txt_size (n : Int) (h0 : -9223372036854775808 ≤ n) (h1 : n ≤ 9223372036854775807) : (txt n).size ≤ 21 := by
  have := Lib.itoa_length_le n h0 h1
  show (Lib.itoa n).toArray.size ≤ 21
  simpa using this
end Go.Proofs.YtdhlheilgagcpaaGreatDoor
