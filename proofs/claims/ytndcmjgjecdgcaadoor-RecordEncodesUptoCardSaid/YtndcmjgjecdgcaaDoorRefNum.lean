/- The contracts of the reference's forms of a number, a text and a bool. -/
import Derived.Test.YtndcmjgjecdgcaaDoorWireNum
import Derived.Test.YtndcmjgjecdgcaaDoorWirePackB
namespace Go.Proofs.YtndcmjgjecdgcaaDoor
open Go.RowKit

theorem zig_neg2 (n : Int) (h1 : -9223372036854775808 ≤ n) (h2 : n < 0) : IntKind.u64.wrap (IntKind.u64.wrap (bits BinOp.xor IntKind.u64 IntKind.u64.max (IntKind.u64.wrap n) * 2) + 1) = ((Wire.zig n : Nat) : Int) := by
  have e1 : IntKind.u64.wrap n = (((n + 18446744073709551616).toNat : Nat) : Int) := by rw [IntKind.wrap_u64]; omega
  have e2 : IntKind.u64.max = ((18446744073709551615 : Nat) : Int) := rfl
  rw [e1, e2, bits_xor_u64_nat _ _ (by omega) (by omega)]
  have e3 : (18446744073709551615 : Nat) ^^^ (n + 18446744073709551616).toNat = 18446744073709551615 - (n + 18446744073709551616).toNat := by
    have hlt : (n + 18446744073709551616).toNat < 2 ^ 64 := by omega
    have := BitVec.toNat_not (x := BitVec.ofNat 64 (n + 18446744073709551616).toNat)
    rw [BitVec.toNat_ofNat, Nat.mod_eq_of_lt hlt] at this
    have h3 : ~~~ (BitVec.ofNat 64 (n + 18446744073709551616).toNat) = BitVec.allOnes 64 ^^^ BitVec.ofNat 64 (n + 18446744073709551616).toNat := by
      rw [BitVec.allOnes_xor]
    rw [h3, BitVec.toNat_xor, BitVec.toNat_ofNat, Nat.mod_eq_of_lt hlt, BitVec.toNat_allOnes] at this
    simpa using this
  rw [e3, IntKind.wrap_u64, IntKind.wrap_u64]
  unfold Wire.zig
  rw [if_pos h2]
  omega

def In64 (u : Nat) : Prop := u < 2 ^ 64
theorem wrap_div (u : Nat) (h : In64 u) : IntKind.u64.wrap ((u : Int) / 128) = (u : Int) / 128 := by
  unfold In64 at h; rw [IntKind.wrap_u64]; omega
set_option maxHeartbeats 1000000 in
theorem rint_any (n : Int) (w : World) (hn : -9223372036854775808 ≤ n ∧ n ≤ 9223372036854775807) :
    Calls Tryd.prog 24 #[.int .i64 n] w fun e w' => e = .returned (.string (numS n)) ∧ Below w.heap.size w w' := by
  have HZ := Wire.zig_lt hn
  obtain ⟨hn1, hn2⟩ := hn
  have HF : Fits 10 (Wire.zig n) := Nat.lt_of_lt_of_le HZ (by decide)
  have H64 : In64 (Wire.zig n) := HZ
  clear HZ
  go_enter Tryd.func24, Tryd.ntmps24
  go_upto_if 10 with (fail)
  go_cut [3] (fun s3 wx => s3 = .int .u64 ((Wire.zig n : Nat) : Int) ∧ w = wx)
  case first =>
    by_cases hneg : n < 0
    · have hz := zig_neg2 n hn1 hneg
      go_wp2
      go_meet
      exact ⟨rfl, rfl⟩
    · have hz := zig_pos n (by omega) hn2
      go_wp2
      go_meet
      exact ⟨rfl, rfl⟩
  case rest =>
    obtain ⟨rfl, rfl⟩ := hcut
    have O0 : Hid (Own8 w w.heap.size (.slice none 0 0) []) := World.ownsRow_nil _ _ _ _
    have B0 : Hid (Below w.heap.size w w) := Below.refl _ _
    go_wp2
    go_loopw [3, 4] (fun sv v wr => ∃ (k u : Nat) (xs : List UInt8), sv = .int .u64 (u : Int) ∧ Hid (Fits (k + 1) u) ∧ In64 u ∧ k ≤ 9 ∧ xs.length + k ≤ 9 ∧ Hid (xs ++ Wire.vi (k + 1) u = Wire.num n) ∧ Hid (Own8 wr w.heap.size v xs) ∧ Hid (Below w.heap.size w wr)) (fun sv _ _ => (intOf sv).toNat)
    case atStart => exact ⟨9, Wire.zig n, [], rfl, HF, H64, by omega, by simp, rfl, O0, B0⟩
    case round =>
      obtain ⟨k, u, xs, rfl, HFk, h64, hk, hxk, HX, HO, HB⟩ := hrel
      clear O0 B0 HF H64
      have hwd := wrap_div u h64
      by_cases hlt : u < 128
      · have t0 : ((u : Int) / 128 == 0) = true := by
          have : (u : Int) / 128 = 0 := by omega
          rw [this]; rfl
        have hlo : (u : Int) % 128 = ((UInt8.ofNat u).toNat : Int) := by rw [UInt8.toNat_ofNat']; omega
        have HLO := Lib.hid hlo
        clear hlo
        have hend : xs ++ [UInt8.ofNat u] = Wire.num n := by have := HX.out; rw [Wire.vi_small k u hlt] at this; exact this
        have HE := Lib.hid hend
        clear hend
        go_wp2_with ((at_builtin; go_must (refine wpList_push8 rfl _ _ rfl _ rfl _ rfl _ _ HLO.out HO.out HB.out (Nat.le_refl _) (by omega) ?_); go_must (intro v' w1 hO1 hB1; rw [HE.out] at hO1; obtain ⟨g, cap, rfl, _, _, HR⟩ := hO1.row (by have := Wire.num_length n; omega); have hbk := HR.back (P := Tryd.prog) 89 9 5 cap Tryd.underlying89 Tryd.underlying5 Tryd.underlying9; have HB1' := Lib.hid hB1; clear hO1 hB1 HR)))
        go_ret
        exact ⟨rfl, HB1'.out⟩
      · have t0 : ((u : Int) / 128 == 0) = false := by
          have : ¬ (u : Int) / 128 = 0 := by omega
          simpa using this
        obtain ⟨x, hx⟩ : ∃ x, x = UInt8.ofNat (u % 128 + 128) := ⟨_, rfl⟩
        have hlo : (u : Int) % 128 + 128 = (x.toNat : Int) := by rw [hx, UInt8.toNat_ofNat']; omega
        have HLO := Lib.hid hlo
        have hk0 : 1 ≤ k := by
          rcases Nat.eq_zero_or_pos k with h | h
          · subst h; have := HFk.out; unfold Fits at this; omega
          · exact h
        have hnext : (xs ++ [x]) ++ Wire.vi k (u / 128) = Wire.num n := by
          rw [hx]
          have := HX.out
          rw [Wire.vi_big k u hlt] at this
          rw [← this]; simp
        have hfit : Fits k (u / 128) := by
          have := HFk.out
          unfold Fits at this ⊢
          rw [Nat.pow_succ] at this
          omega
        have HN := Lib.hid hnext
        clear hnext hx hlo
        go_wp2_with ((at_builtin; go_must (refine wpList_push8 rfl _ _ rfl _ rfl _ rfl _ _ HLO.out HO.out HB.out (Nat.le_refl _) (by omega) ?_); go_must (intro v' w1 hO1 hB1; have HO1' := Lib.hid hO1; have HB1' := Lib.hid hB1; clear hO1 hB1)))
        go_roundw
        case rel =>
          obtain ⟨j, rfl⟩ : ∃ j, k = j + 1 := ⟨k - 1, by omega⟩
          exact ⟨j, u / 128, xs ++ [x], by go_num, hfit, Nat.lt_of_le_of_lt (Nat.div_le_self _ _) h64, by omega, by simp; omega, HN.out, HO1'.out, HB1'.out⟩
        case measure => simp [intOf]; omega

theorem rtext_any (s : ByteArray) (w : World) (hs : s.size ≤ 140737488351232) :
    Calls Tryd.prog 25 #[.string s] w fun e w' => e = .returned (.string (numS s.size ++ s)) ∧ Below w.heap.size w w' := by
  have HN := Lib.hid (show -9223372036854775808 ≤ (s.size : Int) ∧ (s.size : Int) ≤ 9223372036854775807 by omega)
  have hb := numS_size s.size
  go_enter Tryd.func25, Tryd.ntmps25
  go_wp2_with (go_at_call 24; refine (rint_any s.size _ HN.out).mono ?_; rintro e w1 ⟨rfl, hb1⟩; have HB := Lib.hid hb1; clear hb1)
  go_ret
  exact ⟨rfl, HB.out⟩
end Go.Proofs.YtndcmjgjecdgcaaDoor
