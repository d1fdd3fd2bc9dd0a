/- The contracts of the reference's sums, of Join and of the law's own test. -/
import Derived.Test.YtgeigimdmhjddaaDoorCrcFns
namespace Go.Proofs.YtgeigimdmhjddaaDoor
open Go.RowKit

theorem rextend_any (c : BitVec 32) (s : ByteArray) (w : World) (hs : s.size ≤ maxLen) :
    Calls Tryd.prog 32 #[.int .u32 (U c), .string s] w fun e w' => e = .returned (.int .u32 (U (Crc.ext c s.data.toList))) ∧ w = w' := by
  unfold maxLen at hs
  have hn := xnot_U c
  go_enter Tryd.func32, Tryd.ntmps32
  go_wp2
  go_loop [5, 6] (fun r i => ∃ k : Nat, k ≤ s.size ∧ i = .int .i64 k ∧ r = .int .u32 (U (Crc.run (~~~ c) (s.data.toList.take k)))) (fun _ i => s.size - (intOf i).toNat)
  case atStart => exact ⟨0, Nat.zero_le _, rfl, rfl⟩
  case round =>
    obtain ⟨k, hk, rfl, rfl⟩ := hrel
    clear hn
    by_cases hlt : k < s.size
    · go_wp2_with (go_at_call 39; refine (step_any _ _ _).mono ?_; rintro e w' ⟨rfl, rfl⟩)
      go_round
      case rel => exact ⟨k + 1, by omega, by go_num, by rw [take_snoc s k hlt, Crc.run_snoc]⟩
      case measure => simp [intOf]; omega
    · have hn := xnot_U (Crc.run (~~~ c) (s.data.toList.take k))
      go_wp2
      go_ret
      exact ⟨by rw [List.take_of_length_le (by simp; omega)]; rfl, rfl⟩

theorem rsum_any (s : ByteArray) (w : World) (hs : s.size ≤ maxLen) :
    Calls Tryd.prog 19 #[.string s] w fun e w' => e = .returned (.int .u32 (U (Crc.sum s.data.toList))) ∧ w = w' := by
  go_enter Tryd.func19, Tryd.ntmps19
  go_wp2_with (go_at_call 32; refine (rextend_any 0#32 s _ hs).mono ?_; rintro e w' ⟨rfl, rfl⟩)
  go_ret
  exact ⟨rfl, rfl⟩

def digits : ByteArray := ⟨#[49, 50, 51, 52, 53, 54, 55, 56, 57]⟩
theorem digits_sum : Crc.sum digits.data.toList = 3808858755#32 := by decide +kernel

theorem speaks1_any (w : World) (hh : Half w) :
    Calls Tryd.prog 5 #[] w fun e w' => e = .returned (.bool true) ∧ w = w' := by
  have he : (U (Crc.sum digits.data.toList) == 3808858755) = true := by rw [digits_sum]; rfl
  go_enter Tryd.func5, Tryd.ntmps5
  go_wp2_with (go_at_call 18; refine (sum_any digits _ hh (by decide)).mono ?_; rintro e w' ⟨rfl, rfl⟩)
  go_ret
  exact ⟨rfl, rfl⟩
end Go.Proofs.YtgeigimdmhjddaaDoor
