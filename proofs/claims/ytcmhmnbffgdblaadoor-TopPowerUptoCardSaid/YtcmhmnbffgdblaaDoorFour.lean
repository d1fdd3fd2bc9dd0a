/- The contracts of wire.fourBytes and wire.fromFour. -/
import Derived.Test.YtcmhmnbffgdblaaDoorCrcFns
import Derived.Test.YtcmhmnbffgdblaaDoorBytes
import Derived.Deep.QuietTactic
import Derived.BigQuiet
namespace Go.Proofs.YtcmhmnbffgdblaaDoor
open Go.RowKit

def four (n : Nat) : List UInt8 := [UInt8.ofNat n, UInt8.ofNat (n / 256), UInt8.ofNat (n / 65536), UInt8.ofNat (n / 16777216)]
def fourS (n : Nat) : ByteArray := ⟨(four n).toArray⟩
theorem four_length (n : Nat) : (four n).length = 4 := rfl
theorem fourS_size (n : Nat) : (fourS n).size = 4 := rfl
def unfour (a b c d : UInt8) : Nat := a.toNat + 256 * b.toNat + 65536 * c.toNat + 16777216 * d.toNat
def fourCells (n : Nat) : Array Value := #[.int .u8 ((n : Int) % 256), .int .u8 ((n : Int) / 256 % 256), .int .u8 ((n : Int) / 65536 % 256), .int .u8 ((n : Int) / 16777216)]
theorem four_row (n : Nat) (hn : n < 4294967296) (w : World) (e : TypeId) : Row8 (w.alloc (.cells (fourCells n) e)) w.heap.size (four n) := by
  intro j hj
  rw [four_length] at hj
  constructor
  · rw [World.cell?_alloc_mark]
    have h4 : j = 0 ∨ j = 1 ∨ j = 2 ∨ j = 3 := by omega
    rcases h4 with rfl | rfl | rfl | rfl <;> simp [fourCells, four] <;> omega
  · rw [World.frozen?_alloc_mark]
    simp [fourCells]
set_option maxHeartbeats 4000000 in
theorem four_any (n : Nat) (w : World) (hn : n < 4294967296) :
    Calls Tryd.prog 14 #[.int .u32 (n : Int)] w fun e w' => e = .returned (.string (fourS n)) ∧ Below w.heap.size w w' := by
  have hbk := (four_row n hn w 5).back (P := Tryd.prog) 53 9 5 4 Tryd.underlying53 Tryd.underlying5 Tryd.underlying9
  rw [four_length] at hbk
  unfold fourCells at hbk
  obtain ⟨q, hq⟩ : ∃ q : ByteArray, q = ⟨(four n).toArray⟩ := ⟨_, rfl⟩
  rw [← hq] at hbk
  have HQ := Lib.hid hq
  clear hq
  go_enter Tryd.func14, Tryd.ntmps14
  go_wp2
  go_ret
  exact ⟨by rw [HQ.out]; rfl, (Below.refl _ _).alloc (Nat.le_refl _) _⟩
theorem or_four (a b c d : Nat) (ha : a < 256) (hb : b < 256) (hc : c < 256) (hd : d < 256) :
    bits BinOp.or IntKind.u32 (bits BinOp.or IntKind.u32 (bits BinOp.or IntKind.u32 ((a : Int) % 4294967296) ((b : Int) % 4294967296 * 256 % 4294967296)) ((c : Int) % 4294967296 * 65536 % 4294967296)) ((d : Int) % 4294967296 * 16777216 % 4294967296)
      = ((a + 256 * b + 65536 * c + 16777216 * d : Nat) : Int) := by
  have e0 : (a : Int) % 4294967296 = (a : Nat) := by omega
  have e1 : (b : Int) % 4294967296 * 256 % 4294967296 = ((2 ^ 8 * b : Nat) : Int) := by omega
  have e2 : (c : Int) % 4294967296 * 65536 % 4294967296 = ((2 ^ 16 * c : Nat) : Int) := by omega
  have e3 : (d : Int) % 4294967296 * 16777216 % 4294967296 = ((2 ^ 24 * d : Nat) : Int) := by omega
  have h1 : a ||| 2 ^ 8 * b = 2 ^ 8 * b + a := by rw [Nat.or_comm]; exact (Nat.two_pow_add_eq_or_of_lt (i := 8) ha b).symm
  have l1 : 2 ^ 8 * b + a < 2 ^ 16 := by omega
  have h2 : (2 ^ 8 * b + a) ||| 2 ^ 16 * c = 2 ^ 16 * c + (2 ^ 8 * b + a) := by rw [Nat.or_comm]; exact (Nat.two_pow_add_eq_or_of_lt (i := 16) l1 c).symm
  have l2 : 2 ^ 16 * c + (2 ^ 8 * b + a) < 2 ^ 24 := by omega
  have h3 : (2 ^ 16 * c + (2 ^ 8 * b + a)) ||| 2 ^ 24 * d = 2 ^ 24 * d + (2 ^ 16 * c + (2 ^ 8 * b + a)) := by rw [Nat.or_comm]; exact (Nat.two_pow_add_eq_or_of_lt (i := 24) l2 d).symm
  rw [e0, e1, e2, e3, u32_or_nat _ _ (by omega) (by omega), h1, u32_or_nat _ _ (by omega) (by omega), h2, u32_or_nat _ _ (by omega) (by omega), h3]
  omega
set_option maxHeartbeats 4000000 in
theorem from_any (s : ByteArray) (h : 4 ≤ s.size) (w : World) :
    Calls Tryd.prog 26 #[.string s] w fun e w' => e = .returned (.int .u32 (unfour s[0] s[1] s[2] s[3] : Nat)) ∧ ∃ n, w' = w.drewN n := by
  have i0 : (0 : Int) < (s.size : Int) := by omega
  have i1 : (1 : Int) < (s.size : Int) := by omega
  have i2 : (2 : Int) < (s.size : Int) := by omega
  have i3 : (3 : Int) < (s.size : Int) := by omega
  have j0 : 0 < s.size := by omega
  have j1 : 1 < s.size := by omega
  have j2 : 2 < s.size := by omega
  have j3 : 3 < s.size := by omega
  go_enter Tryd.func26, Tryd.ntmps26
  go_wp2_with (fail)
  go_quiet (fail)
  go_wp2
  go_ret
  have hv := or_four s[0].toNat s[1].toNat s[2].toNat s[3].toNat s[0].toNat_lt s[1].toNat_lt s[2].toNat_lt s[3].toNat_lt
  refine ⟨?_, _, rfl⟩
  exact congrArg (fun z => Ending.returned (Value.int .u32 z)) hv
end Go.Proofs.YtcmhmnbffgdblaaDoor
