/- The contracts of the laws' own small functions: whole, speaks, number. -/
import Derived.Test.YtjjmflkdfgneoaaWhereFnsD
namespace Go.Proofs.Ytjjmflkdfgneoaa
open Go.RowKit

theorem speaks3_any (w : World) : Calls Try.prog 4 #[] w fun e w' => e = .returned (.bool true) ∧ w = w' := by
  have f1 : plc 4607182418800017408 4611686018427387904 = some (1, 2) := by
    refine plc_of ⟨one_fl, by decide, by decide⟩ ⟨?_, by decide, by decide⟩
    have e : Ieee.double.read 4611686018427387904 = .number false 4503599627370496 (-((51 : Nat) : Int)) := by decide +kernel
    unfold Fl; rw [e]
    exact ⟨false, _, 51, rfl, by decide +kernel⟩
  have f2 : plc 4616189618054758400 13835058055282163712 = some (4, -2) := by
    refine plc_of ⟨?_, by decide, by decide⟩ ⟨?_, by decide, by decide⟩
    · have e : Ieee.double.read 4616189618054758400 = .number false 4503599627370496 (-((50 : Nat) : Int)) := by decide +kernel
      unfold Fl; rw [e]
      exact ⟨false, _, 50, rfl, by decide +kernel⟩
    · have e : Ieee.double.read 13835058055282163712 = .number true 4503599627370496 (-((51 : Nat) : Int)) := by decide +kernel
      unfold Fl; rw [e]
      exact ⟨true, _, 51, rfl, by decide +kernel⟩
  have hd := dist_any 4607182418800017408 4611686018427387904 4616189618054758400 13835058055282163712 w
  rw [f1, f2] at hd
  have HD := Lib.hid hd
  clear f1 f2 hd
  go_enter Try.func4, Try.ntmps4
  go_wp2_with (fail)
  refine HD.out.mono ?_
  rintro e w' ⟨rfl, rfl⟩
  go_wp2
  go_ret
  exact ⟨rfl, rfl⟩
end Go.Proofs.Ytjjmflkdfgneoaa
