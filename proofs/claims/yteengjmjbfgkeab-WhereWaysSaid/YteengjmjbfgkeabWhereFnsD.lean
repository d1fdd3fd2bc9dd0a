/- The contracts of the laws' own small functions: whole, speaks, number. -/
import Derived.Test.YteengjmjbfgkeabWhereFnsC
namespace Go.Proofs.Yteengjmjbfgkeab
open Go.RowKit

theorem whole_yes (x y : Int) (w : World) :
    Calls Try.prog 15 #[.complex .f64 (floatOfInt .f64 x) (floatOfInt .f64 y), .int .i64 x, .int .i64 y] w fun e w' => e = .returned (.bool true) ∧ w = w' := by
  have B := fun (x : Nat) (w : World) => bits_call x w
  go_enter Try.func15, Try.ntmps15
  go_wp2
  go_ret
  exact ⟨rfl, rfl⟩
theorem nought_word : floatOfInt .f64 0 = 0 := by decide +kernel
theorem whole_nought (w : World) :
    Calls Try.prog 15 #[.complex .f64 0 0, .int .i64 0, .int .i64 0] w fun e w' => e = .returned (.bool true) ∧ w = w' := by
  have := whole_yes 0 0 w
  rwa [nought_word] at this
end Go.Proofs.Yteengjmjbfgkeab
