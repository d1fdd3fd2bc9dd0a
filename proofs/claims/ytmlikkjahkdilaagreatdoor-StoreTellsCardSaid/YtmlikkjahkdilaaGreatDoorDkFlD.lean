/- Package disk: a turned bit, as a function on the files. -/
import Derived.Test.YtmlikkjahkdilaaGreatDoorDkList
import Derived.Test.YtmlikkjahkdilaaGreatDoorStkW
import Derived.Deep.DeepCutAuto
import Derived.StillTailTactics
namespace Go.Proofs.YtmlikkjahkdilaaGreatDoor
open Go.RowKit Go.Maps

theorem u8_xor_of (a b : UInt8) : bits BinOp.xor IntKind.u8 (a.toNat : Int) (b.toNat : Int) = ((a ^^^ b).toNat : Int) := by
  rw [u8_xor_nat _ _ a.toNat_lt b.toNat_lt, UInt8.toNat_xor]
/-- the byte of one bit -/
def bitB (bit : Int) : UInt8 := UInt8.ofNat (2 ^ (bit % 8).toNat)
theorem bitB_nat (b : Nat) : bitB (b : Int) = UInt8.ofNat (2 ^ (b % 8)) := by
  unfold bitB
  rw [show ((b : Int) % 8).toNat = b % 8 by omega]
/-- a text with a bit turned -/
def flipD (d : ByteArray) (bit : Int) : ByteArray := ⟨(d.data.toList.set (bit / 8).toNat ((d.data.toList[(bit / 8).toNat]?.getD 0) ^^^ bitB bit)).toArray⟩
def flR (L : Fs) (a : ByteArray) (bit : Int) : Int := match getF L a with
  | none => 41
  | some d => if bit < 0 ∨ (d.size : Int) ≤ bit / 8 then 2 else 0
def flL (L : Fs) (a : ByteArray) (bit : Int) : Fs := match getF L a with
  | none => L
  | some d => if bit < 0 ∨ (d.size : Int) ≤ bit / 8 then L else putF L a (flipD d bit)
end Go.Proofs.YtmlikkjahkdilaaGreatDoor
