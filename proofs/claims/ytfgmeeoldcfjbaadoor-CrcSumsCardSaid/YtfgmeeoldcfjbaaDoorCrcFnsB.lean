/- The contracts of the reference's sums, of Join and of the law's own test. -/
import Derived.Test.YtfgmeeoldcfjbaaDoorCrcFns
namespace Go.Proofs.YtfgmeeoldcfjbaaDoor
open Go.RowKit

theorem rextend_any (c : BitVec 32) (s : ByteArray) (w : World) (hs : s.size ≤ maxLen) :
    Calls Tryd.prog 16 #[.int .u32 (U c), .string s] w fun e w' => e = .returned (.int .u32 (U (Crc.ext c s.data.toList))) ∧ w = w' := by
  unfold maxLen at hs
  have hn := xnot_U c
  go_enter Tryd.func16, Tryd.ntmps16
  go_wp2
  go_loop [5, 6] (fun r i => ∃ k : Nat, k ≤ s.size ∧ i = .int .i64 k ∧ r = .int .u32 (U (Crc.run (~~~ c) (s.data.toList.take k)))) (fun _ i => s.size - (intOf i).toNat)
  case atStart => exact ⟨0, Nat.zero_le _, rfl, rfl⟩
  case round =>
    obtain ⟨k, hk, rfl, rfl⟩ := hrel
    clear hn
    by_cases hlt : k < s.size
    · go_wp2_with (go_at_call 33; refine (step_any _ _ _).mono ?_; rintro e w' ⟨rfl, rfl⟩)
      go_round
      case rel => exact ⟨k + 1, by omega, by go_num, by rw [take_snoc s k hlt, Crc.run_snoc]⟩
      case measure => simp [intOf]; omega
    · have hn := xnot_U (Crc.run (~~~ c) (s.data.toList.take k))
      go_wp2
      go_ret
      exact ⟨by rw [List.take_of_length_le (by simp; omega)]; rfl, rfl⟩

theorem rsum_any (s : ByteArray) (w : World) (hs : s.size ≤ maxLen) :
    Calls Tryd.prog 14 #[.string s] w fun e w' => e = .returned (.int .u32 (U (Crc.sum s.data.toList))) ∧ w = w' := by
  go_enter Tryd.func14, Tryd.ntmps14
  go_wp2_with (go_at_call 16; refine (rextend_any 0#32 s _ hs).mono ?_; rintro e w' ⟨rfl, rfl⟩)
  go_ret
  exact ⟨rfl, rfl⟩

theorem zs_succ (k : Nat) (a : BitVec 32) : Crc.zs (k + 1) a = Crc.s8 (Crc.zs k a) := rfl
theorem step_zero (r : BitVec 32) : Crc.step r 0 = Crc.s8 r := by
  unfold Crc.step
  have : Crc.by8 0 = 0#32 := rfl
  rw [this, BitVec.xor_zero]

theorem join_yes (a b : BitVec 32) (n : Nat) (w : World) (hh : Half w) (hn : n ≤ 65536) :
    Calls Tryd.prog 17 #[.int .u32 (U a), .int .u32 (U b), .int .i64 n] w fun e w' => e = .returned (.tuple #[.int .u32 (U (Crc.zs n a ^^^ b)), .bool true]) ∧ w = w' := by
  go_enter Tryd.func17, Tryd.ntmps17
  go_wp2
  go_loop [0, 15] (fun r i => ∃ k : Nat, k ≤ n ∧ i = .int .i64 k ∧ r = .int .u32 (U (Crc.zs k a))) (fun _ i => n - (intOf i).toNat)
  case atStart => exact ⟨0, Nat.zero_le _, rfl, rfl⟩
  case round =>
    obtain ⟨k, hk, rfl, rfl⟩ := hrel
    by_cases hlt : k < n
    · go_wp2_with (go_at_call 32; refine (shift_any _ _ hh).mono ?_; rintro e w' ⟨rfl, rfl⟩)
      go_round
      case rel => exact ⟨k + 1, by omega, by go_num, by rw [zs_succ]⟩
      case measure => simp [intOf]; omega
    · obtain rfl : k = n := by omega
      have hx := U_xor (Crc.zs k a) b
      go_wp2
      go_ret2
      exact ⟨rfl, rfl⟩

theorem join_no (a b n : Int) (w : World) (hn : n < 0 ∨ 65536 < n) :
    Calls Tryd.prog 17 #[.int .u32 a, .int .u32 b, .int .i64 n] w fun e w' => e = .returned (.tuple #[.int .u32 0, .bool false]) ∧ w = w' := by
  by_cases h0 : n < 0
  · clear hn
    go_enter Tryd.func17, Tryd.ntmps17
    go_wp2
    go_ret2
    exact ⟨rfl, rfl⟩
  · have h1 : 65536 < n := by omega
    clear hn
    go_enter Tryd.func17, Tryd.ntmps17
    go_wp2
    go_ret2
    exact ⟨rfl, rfl⟩

def ones : BitVec 32 := BitVec.allOnes 32
theorem rjoin_yes (a b : BitVec 32) (n : Nat) (w : World) (hn : n ≤ 65536) :
    Calls Tryd.prog 18 #[.int .u32 (U a), .int .u32 (U b), .int .i64 n] w fun e w' => e = .returned (.tuple #[.int .u32 (U (Crc.zs n a ^^^ b)), .bool true]) ∧ w = w' := by
  have hx := U_xor a (ones)
  have e1 : U (ones) = 4294967295 := rfl
  rw [e1] at hx
  clear e1
  go_enter Tryd.func18, Tryd.ntmps18
  go_wp2
  go_loop [8, 9, 10] (fun x y i => ∃ k : Nat, k ≤ n ∧ i = .int .i64 k ∧ x = .int .u32 (U (Crc.zs k (a ^^^ ones))) ∧ y = .int .u32 (U (Crc.zs k (ones)))) (fun _ _ i => n - (intOf i).toNat)
  case atStart => exact ⟨0, Nat.zero_le _, rfl, rfl, rfl⟩
  case round =>
    obtain ⟨k, hk, rfl, rfl, rfl⟩ := hrel
    clear hx
    by_cases hlt : k < n
    · go_wp2_with (go_at_call 33; refine (step_any _ 0 _).mono ?_; rintro e w' ⟨rfl, rfl⟩)
      go_round
      case rel => exact ⟨k + 1, by omega, by go_num, by rw [zs_succ, step_zero], by rw [zs_succ, step_zero]⟩
      case measure => simp [intOf]; omega
    · obtain rfl : k = n := by omega
      obtain ⟨p, hp⟩ : ∃ p, p = Crc.zs k (a ^^^ ones) := ⟨_, rfl⟩
      obtain ⟨q, hq⟩ : ∃ q, q = Crc.zs k (ones) := ⟨_, rfl⟩
      have e1 : U (ones) = 4294967295 := rfl
      have hf : p ^^^ ones ^^^ b ^^^ q ^^^ ones = Crc.zs k a ^^^ b := by rw [hp, hq]; exact Crc.join_ref k a b
      have x1 := U_xor p (ones)
      have x2 := U_xor (p ^^^ ones) b
      have x3 := U_xor (p ^^^ ones ^^^ b) q
      have x4 := U_xor (p ^^^ ones ^^^ b ^^^ q) (ones)
      rw [hf] at x4
      rw [e1] at x1 x4
      rw [← hp, ← hq]
      clear hf hp hq e1
      go_wp2
      go_ret2
      exact ⟨rfl, rfl⟩

theorem rjoin_no (a b n : Int) (w : World) (hn : n < 0 ∨ 65536 < n) :
    Calls Tryd.prog 18 #[.int .u32 a, .int .u32 b, .int .i64 n] w fun e w' => e = .returned (.tuple #[.int .u32 0, .bool false]) ∧ w = w' := by
  by_cases h0 : n < 0
  · clear hn
    go_enter Tryd.func18, Tryd.ntmps18
    go_wp2
    go_ret2
    exact ⟨rfl, rfl⟩
  · have h1 : 65536 < n := by omega
    clear hn
    go_enter Tryd.func18, Tryd.ntmps18
    go_wp2
    go_ret2
    exact ⟨rfl, rfl⟩

def digits : ByteArray := ⟨#[49, 50, 51, 52, 53, 54, 55, 56, 57]⟩
theorem digits_sum : Crc.sum digits.data.toList = 3808858755#32 := by decide +kernel

theorem speaks1_any (w : World) (hh : Half w) :
    Calls Tryd.prog 12 #[] w fun e w' => e = .returned (.bool true) ∧ w = w' := by
  have he : (U (Crc.sum digits.data.toList) == 3808858755) = true := by rw [digits_sum]; rfl
  go_enter Tryd.func12, Tryd.ntmps12
  go_wp2_with (go_at_call 13; refine (sum_any digits _ hh (by decide)).mono ?_; rintro e w' ⟨rfl, rfl⟩)
  go_ret
  exact ⟨rfl, rfl⟩
end Go.Proofs.YtfgmeeoldcfjbaaDoor
