/- The contracts of package crc's and of the reference's plain functions. -/
import Derived.Test.YtcmhmnbffgdblaaDoorRows
import Derived.Test.YtcmhmnbffgdblaaDoorCrcMath
import Derived.WalkKit
import Derived.WalkLawsBesides
import Derived.WalkSpells
import Derived.Lib.Hide
namespace Go.Proofs.YtcmhmnbffgdblaaDoor
open Go.RowKit

/-- the table, as its cells hold it -/
def Half (w : World) : Prop := ∀ x : BitVec 32, w.cell? ⟨0, (x &&& 15#32).toNat, none⟩ = some (.int .u32 (U (Crc.tab x)))

theorem Half.below {w w' : World} {B : Nat} (h : Half w) (hb : Below B w w') (hB : 0 < B) : Half w' := fun x => (hb.cell (p := ⟨0, _, none⟩) hB).trans (h x)
theorem Half.lt {w : World} (h : Half w) : 0 < w.heap.size := by
  have := h 0#32
  rcases Nat.lt_or_ge 0 w.heap.size with hl | hl
  · exact hl
  · simp [World.cell?, Array.getElem?_eq_none hl] at this

theorem and15 (x : BitVec 32) : bits BinOp.and IntKind.u32 (U x) 15 = U (x &&& 15#32) := U_and x 15#32
theorem and15_lt (x : BitVec 32) : 0 ≤ bits BinOp.and IntKind.u32 (U x) 15 ∧ bits BinOp.and IntKind.u32 (U x) 15 < 16 := by
  rw [and15]; unfold U; rw [Crc.low_toNat]; omega
theorem Half.at_ {w : World} (h : Half w) (x : BitVec 32) : w.cell? ⟨0, (bits BinOp.and IntKind.u32 (U x) 15).toNat, none⟩ = some (.int .u32 (U (Crc.tab x))) := by
  rw [and15, U_toNat]; exact h x
theorem h4_U (x : BitVec 32) : bits BinOp.xor IntKind.u32 (U x / 16) (U (Crc.tab x)) = U (Crc.s4 x) := by
  have e := U_shr x 4
  have e2 : (((2 ^ 4 : Nat) : Int)) = 16 := by decide
  rw [e2] at e
  rw [← e, U_xor, ← Crc.h4_eq]
  rfl

theorem shift_any (x : BitVec 32) (w : World) (hh : Half w) :
    Calls Tryd.prog 27 #[.int .u32 (U x)] w fun e w' => e = .returned (.int .u32 (U (Crc.s8 x))) ∧ w = w' := by
  have b1 := and15_lt x
  have b2 := and15_lt (Crc.s4 x)
  have c1 := hh.at_ x
  have c2 := hh.at_ (Crc.s4 x)
  have e1 := h4_U x
  have e2 := h4_U (Crc.s4 x)
  go_enter Tryd.func27, Tryd.ntmps27
  go_wp2
  go_ret
  exact ⟨rfl, rfl⟩

theorem take_snoc (s : ByteArray) (k : Nat) (h : k < s.size) : s.data.toList.take (k + 1) = s.data.toList.take k ++ [s[k]] := by
  rw [List.take_succ_eq_append_getElem (by simpa using h)]; rfl
theorem not_U (x : BitVec 32) : bits BinOp.xor IntKind.u32 IntKind.u32.max (U x) = U (~~~ x) := by
  have := U_xor (BitVec.allOnes 32) x
  rw [Crc.not_eq, BitVec.xor_comm]
  exact this
theorem xnot_U (x : BitVec 32) : bits BinOp.xor IntKind.u32 (U x) 4294967295 = U (~~~ x) := by
  have := U_xor x (BitVec.allOnes 32)
  rw [Crc.not_eq]
  exact this
theorem xby_U (x : BitVec 32) (b : UInt8) : bits BinOp.xor IntKind.u32 (U x) (b.toNat : Int) = U (x ^^^ Crc.by8 b) := by
  rw [← Crc.by8_U, U_xor]
theorem xby_U' (x : BitVec 32) (b : UInt8) : bits BinOp.xor IntKind.u32 (U x) ((b.toNat : Int) % 4294967296) = U (x ^^^ Crc.by8 b) := by
  have := b.toNat_lt
  rw [Int.emod_eq_of_lt (by omega) (by omega)]
  exact xby_U x b

theorem extend_any (c : BitVec 32) (s : ByteArray) (w : World) (hh : Half w) (hs : s.size ≤ maxLen) :
    Calls Tryd.prog 23 #[.int .u32 (U c), .string s] w fun e w' => e = .returned (.int .u32 (U (Crc.ext c s.data.toList))) ∧ w = w' := by
  unfold maxLen at hs
  have hn := not_U c
  go_enter Tryd.func23, Tryd.ntmps23
  go_wp2
  go_loop [5, 11] (fun r i => ∃ k : Nat, k ≤ s.size ∧ i = .int .i64 k ∧ r = .int .u32 (U (Crc.run (~~~ c) (s.data.toList.take k)))) (fun _ i => s.size - (intOf i).toNat)
  case atStart => exact ⟨0, Nat.zero_le _, rfl, rfl⟩
  case round =>
    obtain ⟨k, hk, rfl, rfl⟩ := hrel
    clear hn
    by_cases hlt : k < s.size
    · have hx := xby_U' (Crc.run (~~~ c) (s.data.toList.take k)) s[k]
      go_wp2_with (go_at_call 27; refine (shift_any _ _ hh).mono ?_; rintro e w' ⟨rfl, rfl⟩)
      go_round
      case rel => exact ⟨k + 1, by omega, by go_num, by rw [take_snoc s k hlt, Crc.run_snoc]; rfl⟩
      case measure => simp [intOf]; omega
    · have hn := not_U (Crc.run (~~~ c) (s.data.toList.take k))
      go_wp2
      go_ret
      exact ⟨by rw [List.take_of_length_le (by simp; omega)]; rfl, rfl⟩

theorem sum_any (s : ByteArray) (w : World) (hh : Half w) (hs : s.size ≤ maxLen) :
    Calls Tryd.prog 15 #[.string s] w fun e w' => e = .returned (.int .u32 (U (Crc.sum s.data.toList))) ∧ w = w' := by
  go_enter Tryd.func15, Tryd.ntmps15
  go_wp2_with (go_at_call 23; refine (extend_any 0#32 s _ hh hs).mono ?_; rintro e w' ⟨rfl, rfl⟩)
  go_ret
  exact ⟨rfl, rfl⟩

theorem and1 (x : BitVec 32) : bits BinOp.and IntKind.u32 (U x) 1 = U (x &&& 1#32) := U_and x 1#32
theorem and1_toNat (x : BitVec 32) : (x &&& 1#32).toNat = x.toNat % 2 := by
  rw [BitVec.toNat_and]
  exact Nat.and_two_pow_sub_one_eq_mod x.toNat 1
theorem lsb_nat (x : BitVec 32) : x.getLsbD 0 = decide (x.toNat % 2 = 1) := by rw [BitVec.getLsbD, Nat.testBit_zero]
theorem U_half (x : BitVec 32) : U x / (2 : Int) = U (x >>> 1) := by
  have := U_shr x 1
  rw [this]
  rfl

def s1n (k : Nat) (x : BitVec 32) : BitVec 32 := Nat.repeat Crc.s1 k x
theorem s1n_8 (x : BitVec 32) : s1n 8 x = Crc.s8 x := rfl


end Go.Proofs.YtcmhmnbffgdblaaDoor
