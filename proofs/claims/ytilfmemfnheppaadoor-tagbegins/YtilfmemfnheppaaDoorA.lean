/- The words of layer 3: turning a word, twice, and the bits of words as the document and the program reckon them. Conditions: words are numbers of 32 bits. -/
import Derived.Test.YtilfmemfnheppaaDoorHC
import Derived.Laws.BitsAllLaws
import Derived.Deep.RegionHeld3
import Derived.Deep.MidRow
import Derived.Lib.LaidTab
namespace Go.Proofs.YtilfmemfnheppaaDoor
open Go.RowKit Hx
set_option linter.unusedVariables false

theorem ret_k {k : IntKind} {a b : Int} (h : a = b) : Ending.returned (.int k a) = .returned (.int k b) := by rw [h]

/-- a word turned right by n bits -/
def rr (x : Int) (n : Nat) : Int := bits .or .u32 (x / 2 ^ n) (x * 2 ^ (32 - n) % 4294967296)

theorem lift_or (a b : Int) (h1 : 0 ≤ a) (h2 : a < 4294967296) (h3 : 0 ≤ b) (h4 : b < 4294967296) : bits .or .u64 a b = bits .or .u32 a b := by
  rw [u64_or a b h1 (by omega) h3 (by omega), u32_or a b h1 h2 h3 h4]
theorem lift_and (a b : Int) (h1 : 0 ≤ a) (h2 : a < 4294967296) (h3 : 0 ≤ b) (h4 : b < 4294967296) : bits .and .u64 a b = bits .and .u32 a b := by
  rw [u64_and a b h1 (by omega) h3 (by omega), u32_and a b h1 h2 h3 h4]
theorem lift_xor (a b : Int) (h1 : 0 ≤ a) (h2 : a < 4294967296) (h3 : 0 ≤ b) (h4 : b < 4294967296) : bits .xor .u64 a b = bits .xor .u32 a b := by
  rw [u64_xor a b h1 (by omega) h3 (by omega), u32_xor a b h1 h2 h3 h4]
theorem or_comm32 (a b : Int) (h1 : 0 ≤ a) (h2 : a < 4294967296) (h3 : 0 ≤ b) (h4 : b < 4294967296) : bits .or .u32 a b = bits .or .u32 b a := by
  rw [u32_or a b h1 h2 h3 h4, u32_or b a h3 h4 h1 h2, Nat.or_comm]
theorem bits_bd (op : BinOp) (a b : Int) : 0 ≤ bits op .u32 a b ∧ bits op .u32 a b < 4294967296 := by
  unfold bits
  rw [IntKind.wrap_u32']
  omega
/-- what a word isn't -/
theorem not32 (e : Int) (h1 : 0 ≤ e) (h2 : e < 4294967296) : bits .xor .u32 4294967295 e = 4294967295 - e := by
  obtain ⟨E, rfl⟩ := Int.eq_ofNat_of_zero_le h1
  show IntKind.u32.wrap ((BitVec.ofInt 32 4294967295 ^^^ BitVec.ofInt 32 (E : Int)).toNat : Int) = _
  have e1 : BitVec.ofInt 32 4294967295 = BitVec.allOnes 32 := by decide
  rw [e1, BitVec.allOnes_xor, BitVec.toNat_not, ofInt_u32 E (by omega), IntKind.wrap_u32']
  omega

theorem and31 (n s : Nat) (hn : 1 ≤ n) (hs : 1 ≤ s) (hns : n + s = 32) : bits .and .u64 (IntKind.u64.wrap (-(n : Int))) 31 = (s : Int) := by
  have h : n < 32 := by omega
  obtain rfl : s = 32 - n := by omega
  have : ∀ n : Nat, n < 32 → 1 ≤ n → bits .and .u64 (IntKind.u64.wrap (-(n : Int))) 31 = ((32 - n : Nat) : Int) := by decide +kernel
  exact this n h hn

theorem rr_bd (x : Int) (n : Nat) : 0 ≤ rr x n ∧ rr x n < 4294967296 := bits_bd _ _ _
theorem pow_pos (n : Nat) : (0 : Int) < 2 ^ n := Int.pow_pos (by omega)
theorem div_bd (x : Int) (n : Nat) (h0 : 0 ≤ x) (h1 : x < 4294967296) : 0 ≤ x / 2 ^ n ∧ x / 2 ^ n < 4294967296 := by
  refine ⟨Int.ediv_nonneg h0 (Int.le_of_lt (pow_pos n)), ?_⟩
  have := Int.ediv_le_self (2 ^ n) h0
  omega

set_option maxHeartbeats 400000 in
theorem rot_any (x : Int) (n s : Nat) (hn : 1 ≤ n) (hs : 1 ≤ s) (hns : n + s = 32) (h0 : 0 ≤ x) (h1 : x < 4294967296) (w : World) :
    Calls Tryd.prog 54 #[.int .u32 x, .int .i64 (-(n : Int))] w fun e w' => e = .returned (.int .u32 (rr x n)) ∧ w' = w := by
  have HR : Hid (bits .or .u32 (x * 2 ^ s % 4294967296) (x / 2 ^ n) = rr x n) := by
    show _ = _
    unfold rr
    have := div_bd x n h0 h1
    rw [show 32 - n = s by omega, or_comm32 _ _ (by omega) (by omega) (by omega) (by omega)]
  have ha := and31 n s hn hs hns
  have hl : Op.shift .shl .u32 x .u64 (s : Int) = pure (.int .u32 (x * 2 ^ s % 4294967296)) := by
    rw [shift_shl .u32 .u64 x s (by omega) (by show (s : Int) ≤ 32; omega), IntKind.wrap_u32', Int.toNat_natCast]
  have hr : Op.shift .shr .u32 x .u64 (n : Int) = pure (.int .u32 (x / 2 ^ n)) := by
    rw [shift_shr .u32 .u64 x n (by omega) (by show (n : Int) ≤ 32; omega), Int.toNat_natCast]
  have hsub : (32 : Int) - s = n := by omega
  clear hns
  go_enter Tryd.func54, Tryd.ntmps54
  go_wp2
  go_ret
  exact ⟨ret_k HR.out, rfl⟩

set_option maxHeartbeats 400000 in
theorem right_any (x : Int) (n : Nat) (hn : 1 ≤ n) (hs : n ≤ 31) (h0 : 0 ≤ x) (h1 : x < 4294967296) (w : World) :
    Calls Tryd.prog 51 #[.int .u32 x, .int .i64 n] w fun e w' => e = .returned (.int .u32 (rr x n)) ∧ w' = w := by
  go_enter Tryd.func51, Tryd.ntmps51
  go_wp2_with fail
  refine (rot_any x n (32 - n) hn (by omega) (by omega) h0 h1 _).mono ?_
  rintro e w1 ⟨rfl, rfl⟩
  go_wp2
  go_ret
  exact ⟨rfl, rfl⟩

set_option maxHeartbeats 400000 in
theorem turned_any (x : Int) (n : Nat) (hn : 1 ≤ n) (hs : n ≤ 31) (h0 : 0 ≤ x) (h1 : x < 4294967296) (w : World) :
    Calls Tryd.prog 48 #[.int .u64 x, .int .u64 n] w fun e w' => e = .returned (.int .u64 (rr x n)) ∧ w' = w := by
  obtain ⟨s, hns⟩ : ∃ s : Nat, n + s = 32 := ⟨32 - n, by omega⟩
  have HR : Hid (bits .or .u64 (x / 2 ^ n) (x * 2 ^ s % 4294967296) = rr x n) := by
    show _ = _
    unfold rr
    have := div_bd x n h0 h1
    rw [show 32 - n = s by omega, lift_or _ _ (by omega) (by omega) (by omega) (by omega)]
  have hp : (2 : Int) ^ s ≤ 2147483648 := by
    have h : (2 : Nat) ^ s ≤ 2 ^ 31 := Nat.pow_le_pow_right (by omega) (by omega)
    have e : (2 : Int) ^ s = ((2 ^ s : Nat) : Int) := (Int.natCast_pow 2 s).symm
    rw [e]
    exact Int.ofNat_le.2 h
  have hx2 : 0 ≤ x * 2 ^ s := Int.mul_nonneg h0 (Int.le_of_lt (pow_pos s))
  have hx3 : x * 2 ^ s < 18446744073709551616 := by
    have := Int.mul_le_mul_of_nonneg_left hp h0
    omega
  have hl : Op.shift .shl .u64 x .u64 (s : Int) = pure (.int .u64 (x * 2 ^ s)) := by
    rw [shift_shl .u64 .u64 x s (by omega) (by show (s : Int) ≤ 64; omega), Int.toNat_natCast]
    rw [IntKind.wrap_u64, Int.emod_eq_of_lt hx2 hx3]
  have hr : Op.shift .shr .u64 x .u64 (n : Int) = pure (.int .u64 (x / 2 ^ n)) := by
    rw [shift_shr .u64 .u64 x n (by omega) (by show (n : Int) ≤ 64; omega), Int.toNat_natCast]
  have hsub : (32 : Int) - n = s := by omega
  clear hns hp
  go_enter Tryd.func48, Tryd.ntmps48
  go_wp2
  go_ret
  exact ⟨ret_k HR.out, rfl⟩

set_option maxHeartbeats 400000 in
theorem rright_any (x : Int) (n m : Nat) (hn : 1 ≤ n) (hs : n ≤ 31) (hm : 1 ≤ m) (hms : m ≤ 31) (h0 : 0 ≤ x) (h1 : x < 4294967296) (w : World) :
    Calls Tryd.prog 46 #[.int .u64 x, .int .u64 n, .int .u64 m] w fun e w' => e = .returned (.int .u64 (bits .xor .u32 (rr x n) (rr x m))) ∧ w' = w := by
  have HX : Hid (bits .xor .u64 (rr x n) (rr x m) = bits .xor .u32 (rr x n) (rr x m)) := lift_xor _ _ (rr_bd _ _).1 (rr_bd _ _).2 (rr_bd _ _).1 (rr_bd _ _).2
  go_enter Tryd.func46, Tryd.ntmps46
  go_wp2_with fail
  refine (turned_any x n hn hs h0 h1 _).mono ?_
  rintro e w1 ⟨rfl, rfl⟩
  go_wp2_with fail
  refine (turned_any x m hm hms h0 h1 _).mono ?_
  rintro e w1 ⟨rfl, rfl⟩
  go_wp2
  go_ret
  exact ⟨ret_k HX.out, rfl⟩
end Go.Proofs.YtilfmemfnheppaaDoor
