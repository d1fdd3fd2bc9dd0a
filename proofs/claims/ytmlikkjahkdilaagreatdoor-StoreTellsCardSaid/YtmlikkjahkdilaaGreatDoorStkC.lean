/- Plain mathematics of the cyclic sum: the register as 32 bits, its step, that it is additive and loses nothing. No program is read here. The contracts of package crc's and of the reference's plain functions. The contracts of the reference's sums, of Join and of the law's own test. The iterator over the chunks of a text. The contract of crc.Chunks. -/
import Derived.Laws.BitsAllLaws
import Derived.Below
import Derived.Test.YtmlikkjahkdilaaGreatDoorRows
import Derived.WalkKit
import Derived.WalkLawsBesides
import Derived.WalkSpells
import Derived.Lib.Hide
import Derived.RangeFuncBox
import Derived.RangeFuncNested
import Derived.RangeFuncBound
import Derived.RangeFuncCalls
import Derived.RangeFuncLeaves
import Derived.Shelf.Abstract
import Derived.Shelf.RegionOpen
import Derived.OwnWalkIn
import Derived.TacticsInMore
import Derived.LoopNIn
import Derived.LoopIn
import Derived.Maps.AppendAt
namespace Go.Proofs.YtmlikkjahkdilaaGreatDoor
open Go.RowKit

/-- A register as the integer that the model keeps. -/
def U (x : BitVec 32) : Int := (x.toNat : Int)
theorem U_lo (x : BitVec 32) : 0 ≤ U x := by unfold U; omega
theorem U_hi (x : BitVec 32) : U x < 4294967296 := by unfold U; have := x.isLt; omega
theorem U_toNat (x : BitVec 32) : (U x).toNat = x.toNat := by unfold U; omega
theorem U_inj {x y : BitVec 32} (h : U x = U y) : x = y := by
  apply BitVec.eq_of_toNat_eq
  unfold U at h
  omega
theorem U_of {n : Int} (h0 : 0 ≤ n) (h1 : n < 4294967296) : ∃ x : BitVec 32, n = U x :=
  ⟨BitVec.ofNat 32 n.toNat, by unfold U; rw [BitVec.toNat_ofNat]; omega⟩
theorem U_and (x y : BitVec 32) : bits .and .u32 (U x) (U y) = U (x &&& y) := by
  unfold U; rw [u32_and_nat _ _ x.isLt y.isLt, BitVec.toNat_and]
theorem U_xor (x y : BitVec 32) : bits .xor .u32 (U x) (U y) = U (x ^^^ y) := by
  unfold U; rw [u32_xor_nat _ _ x.isLt y.isLt, BitVec.toNat_xor]
theorem U_or (x y : BitVec 32) : bits .or .u32 (U x) (U y) = U (x ||| y) := by
  unfold U; rw [u32_or_nat _ _ x.isLt y.isLt, BitVec.toNat_or]
theorem U_shr (x : BitVec 32) (k : Nat) : U (x >>> k) = U x / ((2 ^ k : Nat) : Int) := by
  unfold U; rw [BitVec.toNat_ushiftRight, Nat.shiftRight_eq_div_pow]; rfl
theorem U_wf (x : BitVec 32) : (Lit.int .u32 (U x)).wf = true := by
  have h0 := U_lo x
  have h1 := U_hi x
  simp [Lit.wf, IntKind.min, IntKind.max, IntKind.signed, IntKind.bits]
  omega

theorem U_of_wf {n : Int} (h : (Lit.int .u32 n).wf = true) : ∃ x : BitVec 32, n = U x := by
  apply U_of
  all_goals
    simp [Lit.wf, IntKind.min, IntKind.max, IntKind.signed, IntKind.bits] at h
    omega

theorem U8_of_wf {n : Int} (h : (Lit.int .u8 n).wf = true) : ∃ b : UInt8, n = (b.toNat : Int) := by
  simp [Lit.wf, IntKind.min, IntKind.max, IntKind.signed, IntKind.bits] at h
  refine ⟨UInt8.ofNat n.toNat, ?_⟩
  rw [UInt8.toNat_ofNat']
  omega
theorem i64_of_wf {n : Int} (h : (Lit.int .i64 n).wf = true) : -9223372036854775808 ≤ n ∧ n ≤ 9223372036854775807 := by
  simp [Lit.wf, IntKind.min, IntKind.max, IntKind.signed, IntKind.bits] at h
  omega

namespace Crc
def poly : BitVec 32 := 0x82F63B78#32
/-- one bit's step -/
def s1 (r : BitVec 32) : BitVec 32 := (r >>> 1) ^^^ (if r.getLsbD 0 then poly else 0#32)
def s4 (r : BitVec 32) : BitVec 32 := s1 (s1 (s1 (s1 r)))
def s8 (r : BitVec 32) : BitVec 32 := s4 (s4 r)
def half : List Int := [0, 274646895, 549293790, 820201905, 1098587580, 1361435347, 1640403810, 1905808397, 2197175160, 2460548119, 2722870694, 2987750089, 3280807620, 3553878443, 3811616794, 4084100981]
def tab (x : BitVec 32) : BitVec 32 := BitVec.ofNat 32 (half.getD (x &&& 15#32).toNat 0).toNat
def h4 (x : BitVec 32) : BitVec 32 := (x >>> 4) ^^^ tab x

theorem xor_swap (a b c d : BitVec 32) : (a ^^^ b) ^^^ (c ^^^ d) = (a ^^^ c) ^^^ (b ^^^ d) := by
  ext i hi; simp only [BitVec.getElem_xor]; cases a[i] <;> cases b[i] <;> cases c[i] <;> cases d[i] <;> rfl
theorem s1_xor (a b : BitVec 32) : s1 (a ^^^ b) = s1 a ^^^ s1 b := by
  unfold s1
  rw [BitVec.ushiftRight_xor_distrib, xor_swap]
  congr 1
  rw [BitVec.getLsbD_xor]
  cases a.getLsbD 0 <;> cases b.getLsbD 0 <;> simp
theorem s4_xor (a b : BitVec 32) : s4 (a ^^^ b) = s4 a ^^^ s4 b := by unfold s4; simp only [s1_xor]
theorem s8_xor (a b : BitVec 32) : s8 (a ^^^ b) = s8 a ^^^ s8 b := by unfold s8; simp only [s4_xor]
theorem s1_even (r : BitVec 32) (h : r.toNat % 2 = 0) : (s1 r).toNat = r.toNat / 2 := by
  have h0 : r.getLsbD 0 = false := by
    rw [BitVec.getLsbD, Nat.testBit_zero]; simp; omega
  unfold s1
  rw [h0]
  simp [BitVec.toNat_ushiftRight, Nat.shiftRight_eq_div_pow]
theorem s4_even (r : BitVec 32) (h : r.toNat % 16 = 0) : s4 r = r >>> 4 := by
  apply BitVec.eq_of_toNat_eq
  unfold s4
  have e1 := s1_even r (by omega)
  have e2 := s1_even (s1 r) (by omega)
  have e3 := s1_even (s1 (s1 r)) (by omega)
  rw [s1_even _ (by omega), e3, e2, e1, BitVec.toNat_ushiftRight, Nat.shiftRight_eq_div_pow]
  omega
theorem s4_small : ∀ n : Fin 16, s4 (BitVec.ofNat 32 n.val) = BitVec.ofNat 32 (half.getD n.val 0).toNat := by decide
theorem low_toNat (x : BitVec 32) : (x &&& 15#32).toNat = x.toNat % 16 := by
  rw [BitVec.toNat_and]
  exact Nat.and_two_pow_sub_one_eq_mod x.toNat 4
theorem h4_eq (x : BitVec 32) : h4 x = s4 x := by
  have hl := low_toNat x
  have hx : x = ((x >>> 4) <<< 4) ^^^ (x &&& 15#32) := by
    have hd : ((x >>> 4) <<< 4).toNat = x.toNat / 16 * 16 := by
      have := x.isLt
      rw [BitVec.toNat_shiftLeft, BitVec.toNat_ushiftRight, Nat.shiftRight_eq_div_pow, Nat.shiftLeft_eq]
      omega
    apply BitVec.eq_of_toNat_eq
    rw [BitVec.toNat_xor, hd, hl]
    have e : x.toNat / 16 * 16 ^^^ x.toNat % 16 = x.toNat / 16 * 16 + x.toNat % 16 := by
      have h2 : x.toNat / 16 * 16 = 2 ^ 4 * (x.toNat / 16) := by omega
      rw [h2, Nat.two_pow_add_eq_or_of_lt (by omega : x.toNat % 16 < 2 ^ 4)]
      apply Nat.eq_of_testBit_eq
      intro i
      rw [Nat.testBit_xor, Nat.testBit_or, Nat.testBit_two_pow_mul]
      by_cases hi : 4 ≤ i
      · have : (x.toNat % 16).testBit i = false := Nat.testBit_lt_two_pow (Nat.lt_of_lt_of_le (by omega : x.toNat % 16 < 2 ^ 4) (Nat.pow_le_pow_right (by decide) hi))
        simp [this]
      · simp [hi]
    rw [e]
    omega
  have hs : s4 (x &&& 15#32) = tab x := by
    have hlt : (x &&& 15#32).toNat < 16 := by omega
    have := s4_small ⟨(x &&& 15#32).toNat, hlt⟩
    simp only [] at this
    unfold tab
    rw [← this]
    congr 1
    apply BitVec.eq_of_toNat_eq
    rw [BitVec.toNat_ofNat]
    omega
  have he : s4 ((x >>> 4) <<< 4) = x >>> 4 := by
    have hlt := x.isLt
    rw [s4_even]
    · apply BitVec.eq_of_toNat_eq
      rw [BitVec.toNat_ushiftRight, BitVec.toNat_shiftLeft, BitVec.toNat_ushiftRight]
      simp only [Nat.shiftRight_eq_div_pow, Nat.shiftLeft_eq]
      omega
    · rw [BitVec.toNat_shiftLeft, Nat.shiftLeft_eq]
      omega
  unfold h4
  conv => rhs; rw [hx]
  rw [s4_xor, he, hs]

/-- a byte as a register -/
def by8 (b : UInt8) : BitVec 32 := BitVec.ofNat 32 b.toNat
theorem by8_U (b : UInt8) : U (by8 b) = (b.toNat : Int) := by
  unfold U by8; have := b.toNat_lt; rw [BitVec.toNat_ofNat]; omega
def step (r : BitVec 32) (b : UInt8) : BitVec 32 := s8 (r ^^^ by8 b)
def run (r : BitVec 32) (l : List UInt8) : BitVec 32 := l.foldl step r
def ext (c : BitVec 32) (l : List UInt8) : BitVec 32 := ~~~ (run (~~~ c) l)
def sum (l : List UInt8) : BitVec 32 := ext 0#32 l
def zs (n : Nat) (r : BitVec 32) : BitVec 32 := Nat.repeat s8 n r
theorem run_append (r : BitVec 32) (a b : List UInt8) : run r (a ++ b) = run (run r a) b := by unfold run; rw [List.foldl_append]
theorem run_snoc (r : BitVec 32) (a : List UInt8) (b : UInt8) : run r (a ++ [b]) = step (run r a) b := by rw [run_append]; rfl
theorem zs_xor (n : Nat) (a b : BitVec 32) : zs n (a ^^^ b) = zs n a ^^^ zs n b := by
  unfold zs
  induction n with
  | zero => rfl
  | succ n ih => simp only [Nat.repeat, ih, s8_xor]
theorem zs_comm (n : Nat) (a : BitVec 32) : zs n (s8 a) = s8 (zs n a) := by
  unfold zs
  induction n with
  | zero => rfl
  | succ n ih => simp only [Nat.repeat, ih]
theorem run_xor (a b : BitVec 32) (l : List UInt8) : run (a ^^^ b) l = zs l.length a ^^^ run b l := by
  unfold run
  induction l generalizing a b with
  | nil => rfl
  | cons x l ih =>
    simp only [List.foldl_cons, List.length_cons]
    have e : step (a ^^^ b) x = s8 a ^^^ step b x := by unfold step; rw [BitVec.xor_assoc, s8_xor]
    rw [e, ih, zs_comm]
    rfl
theorem not_eq (a : BitVec 32) : ~~~ a = a ^^^ BitVec.allOnes 32 := by
  ext i hi; simp only [BitVec.getElem_not, BitVec.getElem_xor, BitVec.getElem_allOnes]; cases a[i] <;> rfl
theorem ext_ext (c : BitVec 32) (a b : List UInt8) : ext (ext c a) b = ext c (a ++ b) := by
  unfold ext; rw [BitVec.not_not, run_append]
theorem join_eq (a b : List UInt8) : zs b.length (sum a) ^^^ sum b = sum (a ++ b) := by
  have e1 : sum (a ++ b) = ext (sum a) b := (ext_ext 0#32 a b).symm
  rw [e1]
  unfold sum ext
  rw [BitVec.not_not]
  have h1 : run (run (~~~ 0#32) a) b = zs b.length (run (~~~ 0#32) a) ^^^ run 0#32 b := by
    have := run_xor (run (~~~ 0#32) a) 0#32 b
    rwa [BitVec.xor_zero] at this
  have h2 : run (~~~ 0#32) b = zs b.length (~~~ 0#32) ^^^ run 0#32 b := by
    have := run_xor (~~~ 0#32) 0#32 b
    rwa [BitVec.xor_zero] at this
  rw [h1, h2, not_eq (run _ a), zs_xor]
  have h3 : (~~~ 0#32 : BitVec 32) = BitVec.allOnes 32 := by decide
  rw [h3, not_eq, not_eq]
  generalize zs b.length (run (BitVec.allOnes 32) a) = p
  generalize zs b.length (BitVec.allOnes 32) = q
  generalize run 0#32 b = r
  ext i hi
  simp only [BitVec.getElem_xor, BitVec.getElem_allOnes]
  cases p[i] <;> cases q[i] <;> cases r[i] <;> rfl
/-- what the reference's Join comes to -/
theorem join_ref (n : Nat) (a b : BitVec 32) : zs n (a ^^^ BitVec.allOnes 32) ^^^ BitVec.allOnes 32 ^^^ b ^^^ zs n (BitVec.allOnes 32) ^^^ BitVec.allOnes 32 = zs n a ^^^ b := by
  rw [zs_xor]
  generalize zs n a = p
  generalize zs n (BitVec.allOnes 32) = q
  ext i hi
  simp only [BitVec.getElem_xor, BitVec.getElem_allOnes]
  cases p[i] <;> cases q[i] <;> cases b[i] <;> rfl
/-- a step loses nothing -/
theorem s1_zero {r : BitVec 32} (h : s1 r = 0#32) : r = 0#32 := by
  have hlt := r.isLt
  unfold s1 at h
  by_cases h0 : r.getLsbD 0 = true
  · rw [h0] at h
    have h31 : ((r >>> 1) ^^^ poly).getLsbD 31 = true := by
      rw [BitVec.getLsbD_xor, BitVec.getLsbD_ushiftRight]
      have : r.getLsbD (1 + 31) = false := BitVec.getLsbD_of_ge _ _ (by omega)
      rw [this]
      decide
    simp only [if_true] at h
    rw [h] at h31
    simp at h31
  · have h0' : r.getLsbD 0 = false := by simpa using h0
    rw [h0'] at h
    have e : r.toNat % 2 = 0 := by
      rw [BitVec.getLsbD, Nat.testBit_zero] at h0'; simp at h0'; omega
    have h' : r >>> 1 = 0#32 := by simpa using h
    have h2 := congrArg BitVec.toNat h'
    rw [BitVec.toNat_ushiftRight, Nat.shiftRight_eq_div_pow] at h2
    apply BitVec.eq_of_toNat_eq
    simp at h2 ⊢
    omega
theorem s8_zero {r : BitVec 32} (h : s8 r = 0#32) : r = 0#32 := by
  unfold s8 s4 at h
  exact s1_zero (s1_zero (s1_zero (s1_zero (s1_zero (s1_zero (s1_zero (s1_zero h)))))))
theorem zs_zero {n : Nat} {r : BitVec 32} (h : zs n r = 0#32) : r = 0#32 := by
  unfold zs at h
  induction n with
  | zero => exact h
  | succ n ih => exact ih (s8_zero h)
end Crc
end Go.Proofs.YtmlikkjahkdilaaGreatDoor

namespace Go.Proofs.YtmlikkjahkdilaaGreatDoor
open Go.RowKit

/-- the table, as its cells hold it -/
def Half (w : World) : Prop := ∀ x : BitVec 32, w.cell? ⟨3, (x &&& 15#32).toNat, none⟩ = some (.int .u32 (U (Crc.tab x)))

theorem Half.below {w w' : World} {B : Nat} (h : Half w) (hb : Below B w w') (hB : 3 < B) : Half w' := fun x => (hb.cell (p := ⟨3, _, none⟩) hB).trans (h x)
theorem Half.lt {w : World} (h : Half w) : 3 < w.heap.size := by
  have := h 0#32
  rcases Nat.lt_or_ge 3 w.heap.size with hl | hl
  · exact hl
  · simp [World.cell?, Array.getElem?_eq_none hl] at this

theorem and15 (x : BitVec 32) : bits BinOp.and IntKind.u32 (U x) 15 = U (x &&& 15#32) := U_and x 15#32
theorem and15_lt (x : BitVec 32) : 0 ≤ bits BinOp.and IntKind.u32 (U x) 15 ∧ bits BinOp.and IntKind.u32 (U x) 15 < 16 := by
  rw [and15]; unfold U; rw [Crc.low_toNat]; omega
theorem Half.at_ {w : World} (h : Half w) (x : BitVec 32) : w.cell? ⟨3, (bits BinOp.and IntKind.u32 (U x) 15).toNat, none⟩ = some (.int .u32 (U (Crc.tab x))) := by
  rw [and15, U_toNat]; exact h x
theorem h4_U (x : BitVec 32) : bits BinOp.xor IntKind.u32 (U x / 16) (U (Crc.tab x)) = U (Crc.s4 x) := by
  have e := U_shr x 4
  have e2 : (((2 ^ 4 : Nat) : Int)) = 16 := by decide
  rw [e2] at e
  rw [← e, U_xor, ← Crc.h4_eq]
  rfl

theorem shift_any (x : BitVec 32) (w : World) (hh : Half w) :
    Calls Tryz.prog 122 #[.int .u32 (U x)] w fun e w' => e = .returned (.int .u32 (U (Crc.s8 x))) ∧ w = w' := by
  have b1 := and15_lt x
  have b2 := and15_lt (Crc.s4 x)
  have c1 := hh.at_ x
  have c2 := hh.at_ (Crc.s4 x)
  have e1 := h4_U x
  have e2 := h4_U (Crc.s4 x)
  go_enter Tryz.func122, Tryz.ntmps122
  go_wp2
  go_ret
  exact ⟨rfl, rfl⟩

theorem take_snoc (s : ByteArray) (k : Nat) (h : k < s.size) : s.data.toList.take (k + 1) = s.data.toList.take k ++ [s[k]] := by
  rw [List.take_succ_eq_append_getElem (by simpa using h)]; rfl
theorem not_U (x : BitVec 32) : bits BinOp.xor IntKind.u32 IntKind.u32.max (U x) = U (~~~ x) := by
  have := U_xor (BitVec.allOnes 32) x
  rw [Crc.not_eq, BitVec.xor_comm]
  exact this
theorem xnot_U (x : BitVec 32) : bits BinOp.xor IntKind.u32 (U x) 4294967295 = U (~~~ x) := by
  have := U_xor x (BitVec.allOnes 32)
  rw [Crc.not_eq]
  exact this
theorem xby_U (x : BitVec 32) (b : UInt8) : bits BinOp.xor IntKind.u32 (U x) (b.toNat : Int) = U (x ^^^ Crc.by8 b) := by
  rw [← Crc.by8_U, U_xor]
theorem xby_U' (x : BitVec 32) (b : UInt8) : bits BinOp.xor IntKind.u32 (U x) ((b.toNat : Int) % 4294967296) = U (x ^^^ Crc.by8 b) := by
  have := b.toNat_lt
  rw [Int.emod_eq_of_lt (by omega) (by omega)]
  exact xby_U x b

theorem extend_any (c : BitVec 32) (s : ByteArray) (w : World) (hh : Half w) (hs : s.size ≤ maxLen) :
    Calls Tryz.prog 101 #[.int .u32 (U c), .string s] w fun e w' => e = .returned (.int .u32 (U (Crc.ext c s.data.toList))) ∧ w = w' := by
  unfold maxLen at hs
  have hn := not_U c
  go_enter Tryz.func101, Tryz.ntmps101
  go_wp2
  go_loop [5, 11] (fun r i => ∃ k : Nat, k ≤ s.size ∧ i = .int .i64 k ∧ r = .int .u32 (U (Crc.run (~~~ c) (s.data.toList.take k)))) (fun _ i => s.size - (intOf i).toNat)
  case atStart => exact ⟨0, Nat.zero_le _, rfl, rfl⟩
  case round =>
    obtain ⟨k, hk, rfl, rfl⟩ := hrel
    clear hn
    by_cases hlt : k < s.size
    · have hx := xby_U' (Crc.run (~~~ c) (s.data.toList.take k)) s[k]
      go_wp2_with (go_at_call 122; refine (shift_any _ _ hh).mono ?_; rintro e w' ⟨rfl, rfl⟩)
      go_round
      case rel => exact ⟨k + 1, by omega, by go_num, by rw [take_snoc s k hlt, Crc.run_snoc]; rfl⟩
      case measure => simp [intOf]; omega
    · have hn := not_U (Crc.run (~~~ c) (s.data.toList.take k))
      go_wp2
      go_ret
      exact ⟨by rw [List.take_of_length_le (by simp; omega)]; rfl, rfl⟩

theorem sum_any (s : ByteArray) (w : World) (hh : Half w) (hs : s.size ≤ maxLen) :
    Calls Tryz.prog 69 #[.string s] w fun e w' => e = .returned (.int .u32 (U (Crc.sum s.data.toList))) ∧ w = w' := by
  go_enter Tryz.func69, Tryz.ntmps69
  go_wp2_with (go_at_call 101; refine (extend_any 0#32 s _ hh hs).mono ?_; rintro e w' ⟨rfl, rfl⟩)
  go_ret
  exact ⟨rfl, rfl⟩

theorem and1 (x : BitVec 32) : bits BinOp.and IntKind.u32 (U x) 1 = U (x &&& 1#32) := U_and x 1#32
theorem and1_toNat (x : BitVec 32) : (x &&& 1#32).toNat = x.toNat % 2 := by
  rw [BitVec.toNat_and]
  exact Nat.and_two_pow_sub_one_eq_mod x.toNat 1
theorem lsb_nat (x : BitVec 32) : x.getLsbD 0 = decide (x.toNat % 2 = 1) := by rw [BitVec.getLsbD, Nat.testBit_zero]
theorem U_half (x : BitVec 32) : U x / (2 : Int) = U (x >>> 1) := by
  have := U_shr x 1
  rw [this]
  rfl

def s1n (k : Nat) (x : BitVec 32) : BitVec 32 := Nat.repeat Crc.s1 k x
theorem s1n_8 (x : BitVec 32) : s1n 8 x = Crc.s8 x := rfl


end Go.Proofs.YtmlikkjahkdilaaGreatDoor

namespace Go.Proofs.YtmlikkjahkdilaaGreatDoor
open Go.RowKit



def digits : ByteArray := ⟨#[49, 50, 51, 52, 53, 54, 55, 56, 57]⟩
theorem digits_sum : Crc.sum digits.data.toList = 3808858755#32 := by decide +kernel

end Go.Proofs.YtmlikkjahkdilaaGreatDoor

namespace Go.Proofs.YtmlikkjahkdilaaGreatDoor
open Go.RowKit Go.Shelf
attribute [local go_sem] Oper.semAt_some

/-- a text that the model's reach bears -/
abbrev Txt := { x : ByteArray // x.size ≤ 140737488351232 }
/-- the chunks of so many bytes -/
def chA (k : Nat) (R : Txt) : List Txt :=
  if h : 0 < k ∧ 0 < R.1.size then
    ⟨R.1.extract 0 (min k R.1.size), by have := R.2; rw [ByteArray.size_extract]; omega⟩ :: chA k ⟨R.1.extract (min k R.1.size) R.1.size, by have := R.2; rw [ByteArray.size_extract]; omega⟩
  else []
termination_by R.1.size
decreasing_by simp only [ByteArray.size_extract]; omega
theorem chA_nil {k : Nat} {R : Txt} (h : ¬ (0 < k ∧ 0 < R.1.size)) : chA k R = [] := by rw [chA, dif_neg h]
theorem chA_cons {k : Nat} {R : Txt} (h : 0 < k ∧ 0 < R.1.size) (n : Nat) (hn : n = min k R.1.size) (p q : Txt) (hp : p.1 = R.1.extract 0 n) (hq : q.1 = R.1.extract n R.1.size) : chA k R = p :: chA k q := by
  rw [chA, dif_pos h]
  subst hn
  have e1 : p = ⟨R.1.extract 0 (min k R.1.size), by have := R.2; rw [ByteArray.size_extract]; omega⟩ := Subtype.ext hp
  have e2 : q = ⟨R.1.extract (min k R.1.size) R.1.size, by have := R.2; rw [ByteArray.size_extract]; omega⟩ := Subtype.ext hq
  rw [e1, e2]
def strLen : Value → Nat
  | .string s => s.size
  | _ => 0
theorem isEmpty_no {R : ByteArray} (h : 0 < R.size) : R.toList.isEmpty = false := by
  rw [ByteArray.toList_eq]
  cases hc : R.data.toList with
  | nil =>
    have e1 : R.data.toList.length = 0 := by rw [hc]; rfl
    have e2 : R.data.toList.length = R.size := by simp
    omega
  | cons x r => rfl
theorem isEmpty_yes {R : ByteArray} (h : R.size = 0) : R.toList.isEmpty = true := by
  rw [ByteArray.toList_eq]
  have e2 : R.data.toList.length = R.size := by simp
  rw [List.eq_nil_of_length_eq_zero (by omega : R.data.toList.length = 0)]; rfl
/-- what a round keeps: what lay below, and the box of the size -/
def KpZ (n₀ Bz : Nat) (W W' : World) : Prop := Below n₀ W W' ∧ W'.cell? ⟨Bz, 0, none⟩ = W.cell? ⟨Bz, 0, none⟩
theorem kpZ_t {n₀ Bz : Nat} {A B C : World} (h : KpZ n₀ Bz A B) (k : KpZ n₀ Bz B C) : KpZ n₀ Bz A C := ⟨h.1.trans k.1, k.2.trans h.2⟩
theorem kpZ_b {n₀ Bz : Nat} {w : World} (hn : n₀ ≤ w.heap.size) (hz : Bz < w.heap.size) (W : World) (l : Nat) (o o' : Obj) (hl : w.heap.size ≤ l) (h : W.heap[l]? = some o) (h1 : o.isCells = false) (h2 : o.isWalk = false) : KpZ n₀ Bz W (W.putObj l o') :=
  ⟨belowK_b hn W l o o' hl h h1 h2, World.cell?_of_block (a := ⟨Bz, 0, none⟩) ((grownBy_putObj' W l o').block Bz (by have := (Array.getElem?_eq_some_iff.1 h).1; omega) (fun e => by cases e; omega))⟩
def ItPost (xs : List Txt) (J Jx : List Txt → World → Prop) (e : Ending) (W' : World) : Prop :=
  (∃ v, e = .returned v) ∧ ((∃ ys, ys = xs ∧ J ys W') ∨ (∃ pre, pre <+: xs ∧ Jx pre W'))
set_option maxRecDepth 100000 in
set_option maxHeartbeats 1000000 in
theorem chunks1_in (F : Fence) (n : Nat) (h50 : F.fn 100) (hro : F.round = none) (hn : 1 ≤ n) (l Bs Bz n₀ : Nat) (s : Txt) (k : Int) (K : Nat) (hK : k.toNat = K) (hk1 : k ≤ 9223372036854775807) (xs : List Txt) (hxs : xs = chA K s) (J Jx : List Txt → World → Prop)
    (hY : ∀ pre x W, J pre W → pre.length < xs.length → YieldAt F (n - 1) Tryz.prog l #[.string x.1] W fun e W' =>
      (e = .returned (.bool true) ∧ J (pre ++ [x]) W' ∧ KpZ n₀ Bz W W') ∨ (e = .returned (.bool false) ∧ Jx (pre ++ [x]) W'))
    (W : World) (hBs : W.cell? ⟨Bs, 0, none⟩ = some (.string s.1)) (hBz : W.cell? ⟨Bz, 0, none⟩ = some (.int .i64 k)) (h0 : J [] W) :
    CallsIn F n Tryz.prog 100 #[.func (.yield l) #[] #[], .pointer (some ⟨Bs, 0, none⟩), .pointer (some ⟨Bz, 0, none⟩)] W (ItPost xs J Jx) := by
  have HX := Lib.hid hxs
  clear hxs
  refine callsIn_of_wp Tryz.func100 rfl h50 ?_ hro
  simp only [Tryz.ntmps100, List.size_toArray, List.length_cons, List.length_nil, Nat.reduceAdd, Nat.reduceSub, Array.replicate_succ, Array.replicate_zero, List.push_toArray, List.append_toArray, List.nil_append, List.cons_append]
  gi_wp2
  gi_loopw [4] (fun rv wr => ∃ (pre : List Txt) (R : Txt), rv = .string R.1 ∧ Hid (xs = pre ++ chA K R) ∧ J pre wr ∧ wr.cell? ⟨Bz, 0, none⟩ = some (.int .i64 k))
    (fun rv _ => strLen rv)
  case atStart => exact ⟨[], s, rfl, Lib.hid (by rw [HX.out]; rfl), h0, hBz⟩
  case round =>
    obtain ⟨pre, R, rfl, hx, hJ, hz⟩ := hrel
    have hR := R.2
    by_cases hk : 0 < k
    · by_cases hr : 0 < R.1.size
      · have t1 := isEmpty_no hr
        rcases (show k ≤ (R.1.size : Int) ∨ (R.1.size : Int) < k by omega) with hle | hle
        · obtain ⟨kn, rfl⟩ : ∃ kn : Nat, k = (kn : Int) := ⟨k.toNat, by omega⟩
          have hn : kn = min K R.1.size := by omega
          obtain ⟨p, hp⟩ : ∃ p : Txt, p.1 = R.1.extract 0 (kn) := ⟨⟨R.1.extract 0 kn, by rw [ByteArray.size_extract]; omega⟩, rfl⟩
          obtain ⟨q, hq⟩ : ∃ q : Txt, q.1 = R.1.extract (kn) R.1.size := ⟨⟨R.1.extract kn R.1.size, by rw [ByteArray.size_extract]; omega⟩, rfl⟩
          have hc := chA_cons (k := K) (R := R) ⟨by omega, hr⟩ (kn) hn p q hp hq
          have hx2 : xs = pre ++ p :: chA K q := by rw [hx.out, hc]
          have hqz : q.1.size < R.1.size := by rw [hq, ByteArray.size_extract]; omega
          obtain ⟨fn, tmps, assign, body, hy, hR'⟩ := hY pre p wr hJ (by rw [hx2]; simp)
          have hp' := hp.symm
          have hq' := hq.symm
          have HX2 := Lib.hid hx2
          have HKK := Lib.hid hK
          clear hn hc hx2 hp hq hx hK

          gi_wp2
          refine hR'.mono ?_
          rintro e W3 (⟨rfl, hJ3, hk3⟩ | ⟨rfl, hJx3⟩)
          · have hz3 : W3.cell? ⟨Bz, 0, none⟩ = some (.int .i64 ((kn : Int))) := hk3.2.trans hz
            gi_wp2
            go_roundw
            case rel => exact ⟨pre ++ [p], q, rfl, Lib.hid (by rw [HX2.out]; simp), hJ3, hz3⟩
            case measure => exact hqz
          · gi_wp2
            refine bodyPost_ret (results_none rfl _ _ _) rfl ?_
            exact ⟨⟨_, rfl⟩, .inr ⟨pre ++ [p], ⟨chA K q, by rw [HX2.out]; simp⟩, hJx3⟩⟩
        · have hn : R.1.size = min K R.1.size := by omega
          have hp : R.1 = R.1.extract 0 R.1.size := by simp
          obtain ⟨q, hq0⟩ : ∃ q : Txt, q.1 = ByteArray.empty := ⟨⟨ByteArray.empty, by decide⟩, rfl⟩
          have hq : q.1 = R.1.extract R.1.size R.1.size := by rw [hq0]; simp
          have hc := chA_cons (k := K) (R := R) ⟨by omega, hr⟩ (R.1.size) hn R q hp hq
          have hx2 : xs = pre ++ R :: chA K q := by rw [hx.out, hc]
          have hqz : q.1.size < R.1.size := by rw [hq, ByteArray.size_extract]; omega
          obtain ⟨fn, tmps, assign, body, hy, hR'⟩ := hY pre R wr hJ (by rw [hx2]; simp)
          have HX2 := Lib.hid hx2
          have HQ0 := Lib.hid hq0
          clear hq0
          have HKK := Lib.hid hK
          clear hn hc hx2 hp hq hx hK

          gi_wp2
          refine hR'.mono ?_
          rintro e W3 (⟨rfl, hJ3, hk3⟩ | ⟨rfl, hJx3⟩)
          · have hz3 : W3.cell? ⟨Bz, 0, none⟩ = some (.int .i64 (k)) := hk3.2.trans hz
            gi_wp2
            go_roundw
            case rel => exact ⟨pre ++ [R], q, by rw [HQ0.out], Lib.hid (by rw [HX2.out]; simp), hJ3, hz3⟩
            case measure => rw [HQ0.out] at hqz; exact hqz
          · gi_wp2
            refine bodyPost_ret (results_none rfl _ _ _) rfl ?_
            exact ⟨⟨_, rfl⟩, .inr ⟨pre ++ [R], ⟨chA K q, by rw [HX2.out]; simp⟩, hJx3⟩⟩
      · have t1 := isEmpty_yes (show R.1.size = 0 by omega)
        have he : chA K R = [] := chA_nil (by omega)
        have HE := Lib.hid he
        clear he
        gi_wp2
        go_end0
        exact ⟨⟨_, rfl⟩, .inl ⟨pre, by rw [hx.out, HE.out]; simp, hJ⟩⟩
    · have hk' : k ≤ 0 := by omega
      have he : chA K R = [] := chA_nil (by omega)
      have HE := Lib.hid he
      clear he
      gi_wp2
      go_end0
      exact ⟨⟨_, rfl⟩, .inl ⟨pre, by rw [hx.out, HE.out]; simp, hJ⟩⟩
end Go.Proofs.YtmlikkjahkdilaaGreatDoor

namespace Go.Proofs.YtmlikkjahkdilaaGreatDoor
open Go.RowKit Go.Shelf
attribute [local go_sem] Oper.semAt_some

set_option maxHeartbeats 1000000 in
theorem chunks_in (F : Fence) (n : Nat) (h35 : F.fn 68) (hro : F.round = none) (s : ByteArray) (k : Int) (w : World) :
    CallsIn F n Tryz.prog 68 #[.string s, .int .i64 k] w fun e w' => e = .returned (.func (.func 100) #[] #[.pointer (some ⟨w.heap.size, 0, none⟩), .pointer (some ⟨w.heap.size + 1, 0, none⟩)]) ∧ w' = (w.alloc (.cells #[.string s] 9)).alloc (.cells #[.int .i64 k] 3) := by
  refine callsIn_of_wp Tryz.func68 rfl h35 ?_ hro
  simp only [Tryz.ntmps68, List.size_toArray, List.length_cons, List.length_nil, Nat.reduceAdd, Nat.reduceSub, Array.replicate_succ, Array.replicate_zero, List.push_toArray, List.append_toArray, List.nil_append, List.cons_append]
  gi_wp2
  go_ret
  exact ⟨rfl, rfl⟩
theorem chunks_stops (F : Fence) (n : Nat) (h50 : F.fn 100) (hro : F.round = none) (hn : 1 ≤ n) (Bs Bz n₀ : Nat) (s : Txt) (k : Int) (K : Nat) (hK : k.toNat = K) (hk1 : k ≤ 9223372036854775807) (w : World)
    (hBs : Bs < w.heap.size) (hBz : Bz < w.heap.size)  (hcs : w.cell? ⟨Bs, 0, none⟩ = some (.string s.1)) (hcz : w.cell? ⟨Bz, 0, none⟩ = some (.int .i64 k)) :
    SeqStopsK F n Tryz.prog 100 #[.pointer (some ⟨Bs, 0, none⟩), .pointer (some ⟨Bz, 0, none⟩)] (fun x : Txt => #[Value.string x.1]) (KpZ n₀ Bz) (fun ys => ys = chA K s) (fun pre => pre <+: chA K s) (chA K s).length w := fun l J Jx W hW _ _ hY h0 =>
  chunks1_in F n h50 hro hn l Bs Bz n₀ s k K hK hk1 (chA K s) rfl J Jx hY W ((hW.cell (p := ⟨Bs, 0, none⟩) hBs).trans hcs) ((hW.cell (p := ⟨Bz, 0, none⟩) hBz).trans hcz) h0
theorem chA_len (k : Nat) : ∀ (n : Nat) (R : Txt), R.1.size ≤ n → (chA k R).length ≤ R.1.size
  | n, R, h => by
    by_cases hc : 0 < k ∧ 0 < R.1.size
    · have hz := R.2
      obtain ⟨m, rfl⟩ : ∃ m, n = m + 1 := ⟨n - 1, by omega⟩
      have e := chA_cons hc _ rfl ⟨R.1.extract 0 (min k R.1.size), by rw [ByteArray.size_extract]; omega⟩ ⟨R.1.extract (min k R.1.size) R.1.size, by rw [ByteArray.size_extract]; omega⟩ rfl rfl
      have ih := chA_len k m ⟨R.1.extract (min k R.1.size) R.1.size, by rw [ByteArray.size_extract]; omega⟩ (by simp only [ByteArray.size_extract]; omega)
      simp only [ByteArray.size_extract] at ih
      rw [e, List.length_cons]
      omega
    · rw [chA_nil hc]; simp
theorem stepIn_append_own {F : Fence} {n : Nat} {P : Program} {w : World} {ops : Array Oper} {o : Oper} {a : Act} {K : Act → World → Prop} {Q : Exit → Act → World → Prop} {E : Prop}
    (hg : o.guard = none) (s x : Operand) (t : TypeId) (hop : o.op = Op.call { callee := Callee.builtin Builtin.append, args := #[s, x], argTypes := #[t, t] })
    (base : Nat) (e : TypeId) (i : TypeInfo) (z : Value) (size bytes : Nat) (h1 : P.underlying t = some (.slice e)) (h2 : P.info? e = some i) (h3 : i.zero = some z) (h4 : i.size = size) (h5 : i.bytes = bytes) (h6 : z.cells.size = size) (h7 : 0 < size)
    (v : Value) (k : Nat) (xs : List Value) (hs : a.eval s = v) (hown : w.ownsRow base e size v k xs) (ad : Addr) (m c : Nat) (news : List Value) (hx : a.eval x = .slice (some ad) m c) (hn : news.length = m * size)
    (hc : ∀ j u, news[j]? = some u → w.cell? (ad.add j) = some u) (h1c : ∀ u ∈ news, u.oneCell' = true) (b1 : k + m ≤ maxLen) (b2 : (k + m) * bytes ≤ 140737488355328) (b3 : base ≤ w.heap.size)
    (hK : ∀ v' w', w'.ownsRow base e size v' (k + m) (xs ++ news) → w.grownBy w' v.ownBlock → (v' = .slice none 0 0 ↔ v = .slice none 0 0 ∧ m = 0) → K (a.put o.dst v') w') :
    if Region.wanted o (yielded ops a.tmps) = true then Oper.wpIn F n P o a w K Q else E := by
  have hw : Region.wanted o (yielded ops a.tmps) = true := by simp [Region.wanted, hg]
  rw [if_pos hw]
  obtain ⟨v', w', hrun, r1, r2, r3⟩ := run_append_own (P := P) w base t o.type e i z size bytes h1 h2 h3 h4 h5 h6 h7 v k xs hown ad m c news hn hc h1c b1 b2 b3
  unfold Oper.wpIn
  refine ⟨?_, ?_⟩
  · simp [Oper.about, hop, resolve, Target.leads, Sem.run_pure]
  · rw [Oper.semAt_plain F _ _ (by rw [hop]; intro c hc'; cases hc')]
    simp [execOp, hop, resolve, invoke, builtin, hs, hx, hrun, Result.andThen]
    exact hK v' w' r1 r2 r3
theorem one_new_drew (W : World) (u : Value) (t : TypeId) : ∀ j x, [u][j]? = some x → ((W.alloc (.cells #[u] t)).drew).cell? ((⟨W.heap.size, 0, none⟩ : Addr).add j) = some x := fun j x hj => cell_one_new W u t j x hj
theorem grown_drew {w w' : World} {r : Option Nat} (h : w.drew.grownBy w' r) : w.grownBy w' r := ⟨h.os, h.tape, h.output, h.size, h.block⟩
theorem half_drew {W : World} (h : Half W) : Half W.drew := fun x => h x
def sumV (x : Txt) : Value := .int .u32 (U (Crc.sum x.1.data.toList))
def ChunksPost (w : World) (xs : List Txt) (e : Ending) (W' : World) : Prop :=
  ∃ v, e = .returned v ∧ W'.ownsRow w.heap.size 93 1 v xs.length (xs.map sumV) ∧ Below w.heap.size w W'
theorem infoU32 : (Tryz.prog.info? 93).map (fun i => (i.zero, i.size, i.bytes)) = some (some (.int .u32 0), 1, 4) := by kernel_rfl
set_option maxRecDepth 100000 in
set_option maxHeartbeats 2000000 in
theorem chunks_any (s : Txt) (k : Int) (K : Nat) (hK : k.toNat = K) (hk1 : k ≤ 9223372036854775807) (hsz : s.1.size ≤ 1099511627776) (w : World) (hh : Half w) :
    Calls Tryz.prog 50 #[.string s.1, .int .i64 k] w (ChunksPost w (chA K s)) := by
  have hlen := chA_len K s.1.size s (Nat.le_refl _)
  obtain ⟨i0, hi, hz0, hz1, hz2⟩ := info_parts infoU32
  have hlt := hh.lt
  have HH := Lib.hid hh
  clear hh
  refine (callsIn_wide (n := 3)).1 ?_
  refine callsIn_of_wp_marks Tryz.func50 rfl trivial ?_ rfl
  simp only [Tryz.ntmps50, List.size_toArray, List.length_cons, List.length_nil, Nat.reduceAdd, Nat.reduceSub, Array.replicate_succ, Array.replicate_zero, List.push_toArray, List.append_toArray, List.nil_append, List.cons_append]
  gi_wp2
  refine ⟨trivial, ?_⟩
  refine (chunks_in Fence.wide (3 - 1) trivial rfl _ _ _).mono ?_
  rintro e w' ⟨rfl, rfl⟩
  gi_wp2
  have bO := Boxed.new w 91 (.slice none 0 0)
  have bS := Boxed.new (w.alloc (.cells #[.slice none 0 0] 91)) 9 (.string s.1)
  rw [World.size_alloc] at bS
  have bZ := Boxed.new ((w.alloc (.cells #[.slice none 0 0] 91)).alloc (.cells #[.string s.1] 9)) 3 (.int .i64 k)
  rw [World.size_alloc, World.size_alloc] at bZ
  have hB0 : Below w.heap.size w (((w.alloc (.cells #[.slice none 0 0] 91)).alloc (.cells #[.string s.1] 9)).alloc (.cells #[.int .i64 k] 3)) := (((Below.refl _ w).alloc (Nat.le_refl _) _).alloc (by simp) _).alloc (by simp; omega) _
  have h1 : 1 ≤ 3 := by omega
  refine wpIn_rangeFunc_ownG rfl h1 (gf := 100) (lb := #[.pointer (some ⟨w.heap.size + 1, 0, none⟩), .pointer (some ⟨w.heap.size + 1 + 1, 0, none⟩)]) rfl trivial (enters_of Tryz.func100 (by kernel_rfl) rfl)
    (chunks_stops Fence.wide (3 - 1) trivial rfl (by omega) (w.heap.size + 1) (w.heap.size + 1 + 1) w.heap.size s k K hK hk1 _ (by simp) (by simp) (bS.alloc _).cell bZ.cell) kpZ_t (kpZ_b (by simp; omega) (by simp)) (Below.refl _ _) (fun _ => rfl)
    (fun pre W => (∃ v, Boxed W w.heap.size 91 v ∧ W.ownsRow w.heap.size 93 1 v pre.length (pre.map sumV) ∧ True) ∧ Boxed W (w.heap.size + 1 + 1) 3 (.int .i64 k) ∧ Below w.heap.size w W)
    (fun _ _ _ => False)
    (OwnFrom.and (Own.from (holdsRow_own w.heap.size w.heap.size 91 93 1 (fun pre : List Txt => pre.length) (fun pre : List Txt => pre.map sumV) (fun (_ : List Txt) _ => True)) _) (OwnFrom.and (Own.from (boxed_own (w.heap.size + 1 + 1) 3 (fun _ : List Txt => Value.int .i64 k)) _) (ownFrom_below (Nat.le_refl _) (by simp; omega))))
    (fun _ _ _ _ _ hs _ _ => hs)
    ⟨⟨_, (bO.alloc _).alloc _, World.ownsRow_nil _ _ _ _, trivial⟩, bZ, hB0⟩
    (fun x => { tmps := #[.string s.1, .int .i64 k, undef, undef, .slice none 0 0, .pointer (some ⟨w.heap.size, 0, none⟩), .string x.1, .string s.1, .int .i64 k, .func (.func 100) #[] #[.pointer (some ⟨w.heap.size + 1, 0, none⟩), .pointer (some ⟨w.heap.size + 1 + 1, 0, none⟩)], .string x.1, undef, undef, undef, undef, undef, undef], defers := [] }) ?assign ?body ?done ?stop
  case assign =>
    intro l x W K hK
    gi_wp2
    exact hK
  case body =>
    rintro l pre x W ⟨⟨v, hv, hrow, _⟩, hbz, hB⟩ hlt2
    have hc := hv.cell
    have hcA := fun o => (hv.alloc o).cell
    have hd : 1 ≤ 3 - 1 - 1 := by omega
    have hHW := HH.out.below hB hlt
    have hx := x.2
    gi_wp2
    refine wpIn_region_any (by kernel_rfl) ?_
    try (change wpAnyIn _ _ _ _ _ _ _ _ _ (World.drew _))
    refine wpAnyIn_ready (rs := [0,1]) (by kernel_rfl) (by simp) ?_
    refine AllReadyIn.cons rfl (fun K hK => ?_) ?_
    · go_simp
      refine hK _ _ ?_
      clear hK K
      refine wpAnyIn_ready (rs := [1]) (by kernel_rfl) (by simp) ?_
      refine AllReadyIn.cons rfl (fun K hK => ?_) ?_
      · go_simp
        refine hK _ _ ?_
        clear hK K
        refine wpAnyIn_ready (rs := [2]) (by kernel_rfl) (by simp) ?_
        refine AllReadyIn.cons rfl (fun K hK => ?_) ?_
        · go_simp
          refine ⟨trivial, ?_⟩
          refine (CallsIn.inRound l (callsIn_wide.2 (sum_any _ _ (half_drew hHW) (by unfold maxLen; omega)))).mono ?_
          rintro e w' ⟨rfl, rfl⟩
          refine hK _ _ ?_
          clear hK K
          refine wpAnyIn_ready (rs := [3]) (by kernel_rfl) (by simp) ?_
          refine AllReadyIn.cons rfl (fun K hK => ?_) ?_
          · go_simp
            refine hK _ _ ?_
            clear hK K
            refine wpAnyIn_ready (rs := [4]) (by kernel_rfl) (by simp) ?_
            refine AllReadyIn.cons rfl (fun K hK => ?_) ?_
            · refine stepIn_append_own rfl (.tmp 11) (.tmp 14) 91 rfl w.heap.size 93 i0 (.int .u32 0) 1 4 Tryz.underlying91 hi hz0 hz1 hz2 rfl (by decide) v pre.length _ rfl (hrow.alloc _).drew ⟨W.heap.size, 0, none⟩ 1 1 [.int .u32 (U (Crc.sum x.1.data.toList))] rfl rfl (one_new_drew _ _ _) (by simp [Value.oneCell']) (by unfold maxLen; omega) (by omega) (by have := hB.size; simp; omega) ?_
              intro v' w1 hown' hgrow _
              obtain ⟨g', cap', rfl⟩ := ownsRow_succ hown'
              obtain ⟨hv1, hv2, hr2, hk2, hb2⟩ := hv.appended (by decide) hrow hB.size (Nat.le_refl _) hown' (grown_drew hgrow)
              have hc1 := hv1.cell
              have hf1 := hv1.frozen
              have hbz2 := ((hbz.alloc _).kept (grown_drew hgrow) (hbz.not_row (by decide) hrow)).other (B' := w.heap.size) (by omega) (.slice (some ⟨g', 0, none⟩) (pre.length + 1) cap')
              refine hK _ _ ?_
              clear hK K
              refine wpAnyIn_ready (rs := [5]) (by kernel_rfl) (by simp) ?_
              refine AllReadyIn.cons rfl (fun K hK => ?_) ?_
              · go_simp
                refine hK _ _ ?_
                clear hK K
                refine wpAnyIn_done (by kernel_rfl) ?_ _
                exact ⟨hk2.from _, ⟨hb2, hbz2.cell.trans hbz.cell.symm⟩, ⟨_, hv2, by rw [List.length_append, List.map_append]; exact hr2, trivial⟩, hbz2, hB.trans hb2⟩
              exact AllReadyIn.nil
            exact AllReadyIn.nil
          exact AllReadyIn.nil
        exact AllReadyIn.nil
      exact AllReadyIn.nil
    refine AllReadyIn.cons rfl (fun K hK => ?_) ?_
    · go_simp
      refine hK _ _ ?_
      clear hK K
      refine wpAnyIn_ready (rs := [0,2]) (by kernel_rfl) (by simp) ?_
      refine AllReadyIn.cons rfl (fun K hK => ?_) ?_
      · go_simp
        refine hK _ _ ?_
        clear hK K
        refine wpAnyIn_ready (rs := [2]) (by kernel_rfl) (by simp) ?_
        refine AllReadyIn.cons rfl (fun K hK => ?_) ?_
        · go_simp
          refine ⟨trivial, ?_⟩
          refine (CallsIn.inRound l (callsIn_wide.2 (sum_any _ _ (half_drew hHW) (by unfold maxLen; omega)))).mono ?_
          rintro e w' ⟨rfl, rfl⟩
          refine hK _ _ ?_
          clear hK K
          refine wpAnyIn_ready (rs := [3]) (by kernel_rfl) (by simp) ?_
          refine AllReadyIn.cons rfl (fun K hK => ?_) ?_
          · go_simp
            refine hK _ _ ?_
            clear hK K
            refine wpAnyIn_ready (rs := [4]) (by kernel_rfl) (by simp) ?_
            refine AllReadyIn.cons rfl (fun K hK => ?_) ?_
            · refine stepIn_append_own rfl (.tmp 11) (.tmp 14) 91 rfl w.heap.size 93 i0 (.int .u32 0) 1 4 Tryz.underlying91 hi hz0 hz1 hz2 rfl (by decide) v pre.length _ rfl (hrow.alloc _).drew ⟨W.heap.size, 0, none⟩ 1 1 [.int .u32 (U (Crc.sum x.1.data.toList))] rfl rfl (one_new_drew _ _ _) (by simp [Value.oneCell']) (by unfold maxLen; omega) (by omega) (by have := hB.size; simp; omega) ?_
              intro v' w1 hown' hgrow _
              obtain ⟨g', cap', rfl⟩ := ownsRow_succ hown'
              obtain ⟨hv1, hv2, hr2, hk2, hb2⟩ := hv.appended (by decide) hrow hB.size (Nat.le_refl _) hown' (grown_drew hgrow)
              have hc1 := hv1.cell
              have hf1 := hv1.frozen
              have hbz2 := ((hbz.alloc _).kept (grown_drew hgrow) (hbz.not_row (by decide) hrow)).other (B' := w.heap.size) (by omega) (.slice (some ⟨g', 0, none⟩) (pre.length + 1) cap')
              refine hK _ _ ?_
              clear hK K
              refine wpAnyIn_ready (rs := [5]) (by kernel_rfl) (by simp) ?_
              refine AllReadyIn.cons rfl (fun K hK => ?_) ?_
              · go_simp
                refine hK _ _ ?_
                clear hK K
                refine wpAnyIn_done (by kernel_rfl) ?_ _
                exact ⟨hk2.from _, ⟨hb2, hbz2.cell.trans hbz.cell.symm⟩, ⟨_, hv2, by rw [List.length_append, List.map_append]; exact hr2, trivial⟩, hbz2, hB.trans hb2⟩
              exact AllReadyIn.nil
            exact AllReadyIn.nil
          exact AllReadyIn.nil
        exact AllReadyIn.nil
      refine AllReadyIn.cons rfl (fun K hK => ?_) ?_
      · go_simp
        refine ⟨trivial, ?_⟩
        refine (CallsIn.inRound l (callsIn_wide.2 (sum_any _ _ (half_drew hHW) (by unfold maxLen; omega)))).mono ?_
        rintro e w' ⟨rfl, rfl⟩
        refine hK _ _ ?_
        clear hK K
        refine wpAnyIn_ready (rs := [0,3]) (by kernel_rfl) (by simp) ?_
        refine AllReadyIn.cons rfl (fun K hK => ?_) ?_
        · go_simp
          refine hK _ _ ?_
          clear hK K
          refine wpAnyIn_ready (rs := [3]) (by kernel_rfl) (by simp) ?_
          refine AllReadyIn.cons rfl (fun K hK => ?_) ?_
          · go_simp
            refine hK _ _ ?_
            clear hK K
            refine wpAnyIn_ready (rs := [4]) (by kernel_rfl) (by simp) ?_
            refine AllReadyIn.cons rfl (fun K hK => ?_) ?_
            · refine stepIn_append_own rfl (.tmp 11) (.tmp 14) 91 rfl w.heap.size 93 i0 (.int .u32 0) 1 4 Tryz.underlying91 hi hz0 hz1 hz2 rfl (by decide) v pre.length _ rfl (hrow.alloc _).drew ⟨W.heap.size, 0, none⟩ 1 1 [.int .u32 (U (Crc.sum x.1.data.toList))] rfl rfl (one_new_drew _ _ _) (by simp [Value.oneCell']) (by unfold maxLen; omega) (by omega) (by have := hB.size; simp; omega) ?_
              intro v' w1 hown' hgrow _
              obtain ⟨g', cap', rfl⟩ := ownsRow_succ hown'
              obtain ⟨hv1, hv2, hr2, hk2, hb2⟩ := hv.appended (by decide) hrow hB.size (Nat.le_refl _) hown' (grown_drew hgrow)
              have hc1 := hv1.cell
              have hf1 := hv1.frozen
              have hbz2 := ((hbz.alloc _).kept (grown_drew hgrow) (hbz.not_row (by decide) hrow)).other (B' := w.heap.size) (by omega) (.slice (some ⟨g', 0, none⟩) (pre.length + 1) cap')
              refine hK _ _ ?_
              clear hK K
              refine wpAnyIn_ready (rs := [5]) (by kernel_rfl) (by simp) ?_
              refine AllReadyIn.cons rfl (fun K hK => ?_) ?_
              · go_simp
                refine hK _ _ ?_
                clear hK K
                refine wpAnyIn_done (by kernel_rfl) ?_ _
                exact ⟨hk2.from _, ⟨hb2, hbz2.cell.trans hbz.cell.symm⟩, ⟨_, hv2, by rw [List.length_append, List.map_append]; exact hr2, trivial⟩, hbz2, hB.trans hb2⟩
              exact AllReadyIn.nil
            exact AllReadyIn.nil
          exact AllReadyIn.nil
        refine AllReadyIn.cons rfl (fun K hK => ?_) ?_
        · go_simp
          refine hK _ _ ?_
          clear hK K
          refine wpAnyIn_ready (rs := [0]) (by kernel_rfl) (by simp) ?_
          refine AllReadyIn.cons rfl (fun K hK => ?_) ?_
          · go_simp
            refine hK _ _ ?_
            clear hK K
            refine wpAnyIn_ready (rs := [4]) (by kernel_rfl) (by simp) ?_
            refine AllReadyIn.cons rfl (fun K hK => ?_) ?_
            · refine stepIn_append_own rfl (.tmp 11) (.tmp 14) 91 rfl w.heap.size 93 i0 (.int .u32 0) 1 4 Tryz.underlying91 hi hz0 hz1 hz2 rfl (by decide) v pre.length _ rfl (hrow.alloc _).drew ⟨W.heap.size, 0, none⟩ 1 1 [.int .u32 (U (Crc.sum x.1.data.toList))] rfl rfl (one_new_drew _ _ _) (by simp [Value.oneCell']) (by unfold maxLen; omega) (by omega) (by have := hB.size; simp; omega) ?_
              intro v' w1 hown' hgrow _
              obtain ⟨g', cap', rfl⟩ := ownsRow_succ hown'
              obtain ⟨hv1, hv2, hr2, hk2, hb2⟩ := hv.appended (by decide) hrow hB.size (Nat.le_refl _) hown' (grown_drew hgrow)
              have hc1 := hv1.cell
              have hf1 := hv1.frozen
              have hbz2 := ((hbz.alloc _).kept (grown_drew hgrow) (hbz.not_row (by decide) hrow)).other (B' := w.heap.size) (by omega) (.slice (some ⟨g', 0, none⟩) (pre.length + 1) cap')
              refine hK _ _ ?_
              clear hK K
              refine wpAnyIn_ready (rs := [5]) (by kernel_rfl) (by simp) ?_
              refine AllReadyIn.cons rfl (fun K hK => ?_) ?_
              · go_simp
                refine hK _ _ ?_
                clear hK K
                refine wpAnyIn_done (by kernel_rfl) ?_ _
                exact ⟨hk2.from _, ⟨hb2, hbz2.cell.trans hbz.cell.symm⟩, ⟨_, hv2, by rw [List.length_append, List.map_append]; exact hr2, trivial⟩, hbz2, hB.trans hb2⟩
              exact AllReadyIn.nil
            exact AllReadyIn.nil
          exact AllReadyIn.nil
        exact AllReadyIn.nil
      exact AllReadyIn.nil
    exact AllReadyIn.nil
  case done =>
    rintro D ys W hD rfl ⟨⟨v, hv, hrow, _⟩, hbz, hB⟩ hK2
    have hc := hv.cell
    gi_wp2
    refine ⟨by simp, .inl ⟨_, _, rfl, run_takeDeferred hK2, ?_⟩⟩
    exact ⟨_, results_tmp rfl _ _ _, v, rfl, ownsRow_putObj hrow _ hK2 rfl, hB.trans (belowK_b (w := w) (Nat.le_refl _) W D _ _ (by simp at hD; omega) hK2 rfl rfl)⟩
  case stop =>
    rintro D c pre W _ _ h _
    exact h.elim
end Go.Proofs.YtmlikkjahkdilaaGreatDoor

