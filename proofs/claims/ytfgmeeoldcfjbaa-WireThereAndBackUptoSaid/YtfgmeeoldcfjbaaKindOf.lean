/- The contract of the laws' own kind: a number's remainder by three. -/
import Derived.Test.YtfgmeeoldcfjbaaRows
import Derived.WalkKit
import Derived.Lib.Hide
namespace Go.Proofs.Ytfgmeeoldcfjbaa
open Go.RowKit
def kd (k : Int) : Int := k % 3
theorem kd_cases (k : Int) : kd k = 0 ∨ kd k = 1 ∨ kd k = 2 := by unfold kd; omega
theorem kind_is (k : Int) (c : Int) (w : World) (hk : -9223372036854775808 ≤ k ∧ k ≤ 9223372036854775807) (hc : kd k = c) :
    Calls Try.prog 7 #[.int .i64 k] w fun e w' => e = .returned (.int .i64 c) ∧ w = w' := by
  obtain ⟨h1, h2⟩ := hk
  have e : (wrap64 (k.tmod 3 + 3)).tmod 3 = c := by
    rw [← hc]
    unfold kd
    rw [IntWalk.wrap64_in _ ⟨by have := Int.tmod_lt_of_pos k (by decide : (0:Int) < 3); have := Int.lt_tmod_of_pos k (by decide : (0:Int) < 3); omega, by have := Int.tmod_lt_of_pos k (by decide : (0:Int) < 3); omega⟩]
    rcases Int.le_total 0 k with h | h
    · rw [Int.tmod_eq_emod_of_nonneg h, Int.tmod_eq_emod_of_nonneg (by omega)]; omega
    · have : k.tmod 3 = -((-k) % 3) := by
        rw [← Int.tmod_eq_emod_of_nonneg (by omega : 0 ≤ -k), Int.neg_tmod, Int.neg_neg]
      rw [this, Int.tmod_eq_emod_of_nonneg (by omega)]
      omega
  have HE := Lib.hid e
  clear e hc
  go_enter Try.func7, Try.ntmps7
  go_wp2
  go_ret
  exact ⟨by show Ending.returned (.int .i64 ((wrap64 (k.tmod 3 + 3)).tmod 3)) = _; rw [HE.out], rfl⟩

end Go.Proofs.Ytfgmeeoldcfjbaa
