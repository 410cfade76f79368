/- The digit of a number. No conditions but the ranges named in each. -/
import Derived.Test.YtilfmemfnheppaaDoorHC
import Derived.WalkKit
import Derived.WalkSpells
import Derived.WalkLawsBesides
import Derived.Handy
namespace Go.Proofs.YtilfmemfnheppaaDoor
open Go.RowKit Hx
set_option linter.unusedVariables false

/-- the digit of a number from 0 to 15 -/
def sgn (n : Int) : Int := if n < 10 then 48 + n else 87 + n
theorem ret_int {k : IntKind} {a b : Int} (h : a = b) : Ending.returned (.int k a) = .returned (.int k b) := by rw [h]

set_option maxRecDepth 100000 in
set_option maxHeartbeats 1000000 in
theorem sign_any (n : Int) (w : World) (h0 : 0 ≤ n) (h1 : n ≤ 15) :
    Calls Tryd.prog 31 #[.int .u8 n] w fun e w' => e = .returned (.int .u8 (sgn n)) ∧ w' = w := by
  by_cases h : n < 10
  · go_enter Tryd.func31, Tryd.ntmps31
    go_wp2
    go_ret
    exact ⟨ret_int (by unfold sgn; rw [if_pos h]), rfl⟩
  · go_enter Tryd.func31, Tryd.ntmps31
    go_wp2
    go_ret
    exact ⟨ret_int (by unfold sgn; split <;> omega), rfl⟩

end Go.Proofs.YtilfmemfnheppaaDoor
