/- The contract of the laws' number: a point as a complex number. -/
import Derived.Test.YtjjmflkdfgneoaaWhereFnsD
import Derived.Test.YtjjmflkdfgneoaaLawEnd
namespace Go.Proofs.Ytjjmflkdfgneoaa
open Go.RowKit

set_option maxHeartbeats 400000 in
theorem number_plain (x y : Int) (w : World) :
    Calls Try.prog 7 #[.agg #[.int .i64 x, .int .i64 y, .bool false]] w fun e w' => e = .returned (.complex .f64 (floatOfInt .f64 x) (floatOfInt .f64 y)) ∧ Below w.heap.size w w' := by
  go_enter Try.func7, Try.ntmps7
  go_wp2
  go_ret
  exact ⟨rfl, (Below.refl _ _).alloc (Nat.le_refl _) _⟩
/-- a number as 64 bits -/
def wordI (x : Int) : Int := IntKind.u64.wrap x
def numW (x : Int) : Nat := (wordI x).toNat
theorem word_conv (x : Int) (w : World) : (convert 3 41 (.int .i64 x)).run Try.prog w = .ok (.int .u64 (wordI x)) w := by kernel_rfl
theorem word_call (x : Int) (w : World) : (callFunc 14 #[.int .u64 (wordI x)]).run Try.prog w = .ok (.value (.float .f64 (numW x))) w := from_call _ _
set_option maxHeartbeats 400000 in
theorem number_raw (x y : Int) (w : World) :
    Calls Try.prog 7 #[.agg #[.int .i64 x, .int .i64 y, .bool true]] w fun e w' => e = .returned (.complex .f64 (numW x) (numW y)) ∧ Below w.heap.size w w' := by
  have C := fun (x : Int) (w : World) => word_conv x w
  have B := fun (x : Int) (w : World) => word_call x w
  go_enter Try.func7, Try.ntmps7
  go_wp2_with (fail)
  go_quiet (fail)
  go_wp2
  go_ret
  exact ⟨rfl, below_drewN ((Below.refl _ _).alloc (Nat.le_refl _) _) _⟩
end Go.Proofs.Ytjjmflkdfgneoaa
