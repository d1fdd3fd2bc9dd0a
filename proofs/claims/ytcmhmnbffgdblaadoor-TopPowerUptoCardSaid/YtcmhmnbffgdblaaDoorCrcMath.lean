/- Plain mathematics of the cyclic sum: the register as 32 bits, its step, that it is additive and loses nothing. No program is read here. -/
import Derived.Laws.BitsAllLaws
import Derived.Below
namespace Go.Proofs.YtcmhmnbffgdblaaDoor
open Go.RowKit

/-- A register as the integer that the model keeps. -/
def U (x : BitVec 32) : Int := (x.toNat : Int)
theorem U_lo (x : BitVec 32) : 0 ≤ U x := by unfold U; omega
theorem U_hi (x : BitVec 32) : U x < 4294967296 := by unfold U; have := x.isLt; omega
theorem U_toNat (x : BitVec 32) : (U x).toNat = x.toNat := by unfold U; omega
theorem U_inj {x y : BitVec 32} (h : U x = U y) : x = y := by
  apply BitVec.eq_of_toNat_eq
  unfold U at h
  omega
theorem U_of {n : Int} (h0 : 0 ≤ n) (h1 : n < 4294967296) : ∃ x : BitVec 32, n = U x :=
  ⟨BitVec.ofNat 32 n.toNat, by unfold U; rw [BitVec.toNat_ofNat]; omega⟩
theorem U_and (x y : BitVec 32) : bits .and .u32 (U x) (U y) = U (x &&& y) := by
  unfold U; rw [u32_and_nat _ _ x.isLt y.isLt, BitVec.toNat_and]
theorem U_xor (x y : BitVec 32) : bits .xor .u32 (U x) (U y) = U (x ^^^ y) := by
  unfold U; rw [u32_xor_nat _ _ x.isLt y.isLt, BitVec.toNat_xor]
theorem U_or (x y : BitVec 32) : bits .or .u32 (U x) (U y) = U (x ||| y) := by
  unfold U; rw [u32_or_nat _ _ x.isLt y.isLt, BitVec.toNat_or]
theorem U_shr (x : BitVec 32) (k : Nat) : U (x >>> k) = U x / ((2 ^ k : Nat) : Int) := by
  unfold U; rw [BitVec.toNat_ushiftRight, Nat.shiftRight_eq_div_pow]; rfl
theorem U_wf (x : BitVec 32) : (Lit.int .u32 (U x)).wf = true := by
  have h0 := U_lo x
  have h1 := U_hi x
  simp [Lit.wf, IntKind.min, IntKind.max, IntKind.signed, IntKind.bits]
  omega

theorem U_of_wf {n : Int} (h : (Lit.int .u32 n).wf = true) : ∃ x : BitVec 32, n = U x := by
  apply U_of
  all_goals
    simp [Lit.wf, IntKind.min, IntKind.max, IntKind.signed, IntKind.bits] at h
    omega

theorem U8_of_wf {n : Int} (h : (Lit.int .u8 n).wf = true) : ∃ b : UInt8, n = (b.toNat : Int) := by
  simp [Lit.wf, IntKind.min, IntKind.max, IntKind.signed, IntKind.bits] at h
  refine ⟨UInt8.ofNat n.toNat, ?_⟩
  rw [UInt8.toNat_ofNat']
  omega
theorem i64_of_wf {n : Int} (h : (Lit.int .i64 n).wf = true) : -9223372036854775808 ≤ n ∧ n ≤ 9223372036854775807 := by
  simp [Lit.wf, IntKind.min, IntKind.max, IntKind.signed, IntKind.bits] at h
  omega

namespace Crc
def poly : BitVec 32 := 0x82F63B78#32
/-- one bit's step -/
def s1 (r : BitVec 32) : BitVec 32 := (r >>> 1) ^^^ (if r.getLsbD 0 then poly else 0#32)
def s4 (r : BitVec 32) : BitVec 32 := s1 (s1 (s1 (s1 r)))
def s8 (r : BitVec 32) : BitVec 32 := s4 (s4 r)
def half : List Int := [0, 274646895, 549293790, 820201905, 1098587580, 1361435347, 1640403810, 1905808397, 2197175160, 2460548119, 2722870694, 2987750089, 3280807620, 3553878443, 3811616794, 4084100981]
def tab (x : BitVec 32) : BitVec 32 := BitVec.ofNat 32 (half.getD (x &&& 15#32).toNat 0).toNat
def h4 (x : BitVec 32) : BitVec 32 := (x >>> 4) ^^^ tab x

theorem xor_swap (a b c d : BitVec 32) : (a ^^^ b) ^^^ (c ^^^ d) = (a ^^^ c) ^^^ (b ^^^ d) := by
  ext i hi; simp only [BitVec.getElem_xor]; cases a[i] <;> cases b[i] <;> cases c[i] <;> cases d[i] <;> rfl
theorem s1_xor (a b : BitVec 32) : s1 (a ^^^ b) = s1 a ^^^ s1 b := by
  unfold s1
  rw [BitVec.ushiftRight_xor_distrib, xor_swap]
  congr 1
  rw [BitVec.getLsbD_xor]
  cases a.getLsbD 0 <;> cases b.getLsbD 0 <;> simp
theorem s4_xor (a b : BitVec 32) : s4 (a ^^^ b) = s4 a ^^^ s4 b := by unfold s4; simp only [s1_xor]
theorem s8_xor (a b : BitVec 32) : s8 (a ^^^ b) = s8 a ^^^ s8 b := by unfold s8; simp only [s4_xor]
theorem s1_even (r : BitVec 32) (h : r.toNat % 2 = 0) : (s1 r).toNat = r.toNat / 2 := by
  have h0 : r.getLsbD 0 = false := by
    rw [BitVec.getLsbD, Nat.testBit_zero]; simp; omega
  unfold s1
  rw [h0]
  simp [BitVec.toNat_ushiftRight, Nat.shiftRight_eq_div_pow]
theorem s4_even (r : BitVec 32) (h : r.toNat % 16 = 0) : s4 r = r >>> 4 := by
  apply BitVec.eq_of_toNat_eq
  unfold s4
  have e1 := s1_even r (by omega)
  have e2 := s1_even (s1 r) (by omega)
  have e3 := s1_even (s1 (s1 r)) (by omega)
  rw [s1_even _ (by omega), e3, e2, e1, BitVec.toNat_ushiftRight, Nat.shiftRight_eq_div_pow]
  omega
theorem s4_small : ∀ n : Fin 16, s4 (BitVec.ofNat 32 n.val) = BitVec.ofNat 32 (half.getD n.val 0).toNat := by decide
theorem low_toNat (x : BitVec 32) : (x &&& 15#32).toNat = x.toNat % 16 := by
  rw [BitVec.toNat_and]
  exact Nat.and_two_pow_sub_one_eq_mod x.toNat 4
theorem h4_eq (x : BitVec 32) : h4 x = s4 x := by
  have hl := low_toNat x
  have hx : x = ((x >>> 4) <<< 4) ^^^ (x &&& 15#32) := by
    have hd : ((x >>> 4) <<< 4).toNat = x.toNat / 16 * 16 := by
      have := x.isLt
      rw [BitVec.toNat_shiftLeft, BitVec.toNat_ushiftRight, Nat.shiftRight_eq_div_pow, Nat.shiftLeft_eq]
      omega
    apply BitVec.eq_of_toNat_eq
    rw [BitVec.toNat_xor, hd, hl]
    have e : x.toNat / 16 * 16 ^^^ x.toNat % 16 = x.toNat / 16 * 16 + x.toNat % 16 := by
      have h2 : x.toNat / 16 * 16 = 2 ^ 4 * (x.toNat / 16) := by omega
      rw [h2, Nat.two_pow_add_eq_or_of_lt (by omega : x.toNat % 16 < 2 ^ 4)]
      apply Nat.eq_of_testBit_eq
      intro i
      rw [Nat.testBit_xor, Nat.testBit_or, Nat.testBit_two_pow_mul]
      by_cases hi : 4 ≤ i
      · have : (x.toNat % 16).testBit i = false := Nat.testBit_lt_two_pow (Nat.lt_of_lt_of_le (by omega : x.toNat % 16 < 2 ^ 4) (Nat.pow_le_pow_right (by decide) hi))
        simp [this]
      · simp [hi]
    rw [e]
    omega
  have hs : s4 (x &&& 15#32) = tab x := by
    have hlt : (x &&& 15#32).toNat < 16 := by omega
    have := s4_small ⟨(x &&& 15#32).toNat, hlt⟩
    simp only [] at this
    unfold tab
    rw [← this]
    congr 1
    apply BitVec.eq_of_toNat_eq
    rw [BitVec.toNat_ofNat]
    omega
  have he : s4 ((x >>> 4) <<< 4) = x >>> 4 := by
    have hlt := x.isLt
    rw [s4_even]
    · apply BitVec.eq_of_toNat_eq
      rw [BitVec.toNat_ushiftRight, BitVec.toNat_shiftLeft, BitVec.toNat_ushiftRight]
      simp only [Nat.shiftRight_eq_div_pow, Nat.shiftLeft_eq]
      omega
    · rw [BitVec.toNat_shiftLeft, Nat.shiftLeft_eq]
      omega
  unfold h4
  conv => rhs; rw [hx]
  rw [s4_xor, he, hs]

/-- a byte as a register -/
def by8 (b : UInt8) : BitVec 32 := BitVec.ofNat 32 b.toNat
theorem by8_U (b : UInt8) : U (by8 b) = (b.toNat : Int) := by
  unfold U by8; have := b.toNat_lt; rw [BitVec.toNat_ofNat]; omega
def step (r : BitVec 32) (b : UInt8) : BitVec 32 := s8 (r ^^^ by8 b)
def run (r : BitVec 32) (l : List UInt8) : BitVec 32 := l.foldl step r
def ext (c : BitVec 32) (l : List UInt8) : BitVec 32 := ~~~ (run (~~~ c) l)
def sum (l : List UInt8) : BitVec 32 := ext 0#32 l
def zs (n : Nat) (r : BitVec 32) : BitVec 32 := Nat.repeat s8 n r
theorem run_append (r : BitVec 32) (a b : List UInt8) : run r (a ++ b) = run (run r a) b := by unfold run; rw [List.foldl_append]
theorem run_snoc (r : BitVec 32) (a : List UInt8) (b : UInt8) : run r (a ++ [b]) = step (run r a) b := by rw [run_append]; rfl
theorem zs_xor (n : Nat) (a b : BitVec 32) : zs n (a ^^^ b) = zs n a ^^^ zs n b := by
  unfold zs
  induction n with
  | zero => rfl
  | succ n ih => simp only [Nat.repeat, ih, s8_xor]
theorem zs_comm (n : Nat) (a : BitVec 32) : zs n (s8 a) = s8 (zs n a) := by
  unfold zs
  induction n with
  | zero => rfl
  | succ n ih => simp only [Nat.repeat, ih]
theorem run_xor (a b : BitVec 32) (l : List UInt8) : run (a ^^^ b) l = zs l.length a ^^^ run b l := by
  unfold run
  induction l generalizing a b with
  | nil => rfl
  | cons x l ih =>
    simp only [List.foldl_cons, List.length_cons]
    have e : step (a ^^^ b) x = s8 a ^^^ step b x := by unfold step; rw [BitVec.xor_assoc, s8_xor]
    rw [e, ih, zs_comm]
    rfl
theorem not_eq (a : BitVec 32) : ~~~ a = a ^^^ BitVec.allOnes 32 := by
  ext i hi; simp only [BitVec.getElem_not, BitVec.getElem_xor, BitVec.getElem_allOnes]; cases a[i] <;> rfl
theorem ext_ext (c : BitVec 32) (a b : List UInt8) : ext (ext c a) b = ext c (a ++ b) := by
  unfold ext; rw [BitVec.not_not, run_append]
theorem join_eq (a b : List UInt8) : zs b.length (sum a) ^^^ sum b = sum (a ++ b) := by
  have e1 : sum (a ++ b) = ext (sum a) b := (ext_ext 0#32 a b).symm
  rw [e1]
  unfold sum ext
  rw [BitVec.not_not]
  have h1 : run (run (~~~ 0#32) a) b = zs b.length (run (~~~ 0#32) a) ^^^ run 0#32 b := by
    have := run_xor (run (~~~ 0#32) a) 0#32 b
    rwa [BitVec.xor_zero] at this
  have h2 : run (~~~ 0#32) b = zs b.length (~~~ 0#32) ^^^ run 0#32 b := by
    have := run_xor (~~~ 0#32) 0#32 b
    rwa [BitVec.xor_zero] at this
  rw [h1, h2, not_eq (run _ a), zs_xor]
  have h3 : (~~~ 0#32 : BitVec 32) = BitVec.allOnes 32 := by decide
  rw [h3, not_eq, not_eq]
  generalize zs b.length (run (BitVec.allOnes 32) a) = p
  generalize zs b.length (BitVec.allOnes 32) = q
  generalize run 0#32 b = r
  ext i hi
  simp only [BitVec.getElem_xor, BitVec.getElem_allOnes]
  cases p[i] <;> cases q[i] <;> cases r[i] <;> rfl
/-- what the reference's Join comes to -/
theorem join_ref (n : Nat) (a b : BitVec 32) : zs n (a ^^^ BitVec.allOnes 32) ^^^ BitVec.allOnes 32 ^^^ b ^^^ zs n (BitVec.allOnes 32) ^^^ BitVec.allOnes 32 = zs n a ^^^ b := by
  rw [zs_xor]
  generalize zs n a = p
  generalize zs n (BitVec.allOnes 32) = q
  ext i hi
  simp only [BitVec.getElem_xor, BitVec.getElem_allOnes]
  cases p[i] <;> cases q[i] <;> cases b[i] <;> rfl
/-- a step loses nothing -/
theorem s1_zero {r : BitVec 32} (h : s1 r = 0#32) : r = 0#32 := by
  have hlt := r.isLt
  unfold s1 at h
  by_cases h0 : r.getLsbD 0 = true
  · rw [h0] at h
    have h31 : ((r >>> 1) ^^^ poly).getLsbD 31 = true := by
      rw [BitVec.getLsbD_xor, BitVec.getLsbD_ushiftRight]
      have : r.getLsbD (1 + 31) = false := BitVec.getLsbD_of_ge _ _ (by omega)
      rw [this]
      decide
    simp only [if_true] at h
    rw [h] at h31
    simp at h31
  · have h0' : r.getLsbD 0 = false := by simpa using h0
    rw [h0'] at h
    have e : r.toNat % 2 = 0 := by
      rw [BitVec.getLsbD, Nat.testBit_zero] at h0'; simp at h0'; omega
    have h' : r >>> 1 = 0#32 := by simpa using h
    have h2 := congrArg BitVec.toNat h'
    rw [BitVec.toNat_ushiftRight, Nat.shiftRight_eq_div_pow] at h2
    apply BitVec.eq_of_toNat_eq
    simp at h2 ⊢
    omega
theorem s8_zero {r : BitVec 32} (h : s8 r = 0#32) : r = 0#32 := by
  unfold s8 s4 at h
  exact s1_zero (s1_zero (s1_zero (s1_zero (s1_zero (s1_zero (s1_zero (s1_zero h)))))))
theorem zs_zero {n : Nat} {r : BitVec 32} (h : zs n r = 0#32) : r = 0#32 := by
  unfold zs at h
  induction n with
  | zero => exact h
  | succ n ih => exact ih (s8_zero h)
end Crc
end Go.Proofs.YtcmhmnbffgdblaaDoor
