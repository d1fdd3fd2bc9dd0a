/- The contracts of the reference's four and Frame. -/
import Derived.Test.YteengjmjbfgkeaaDoorFrame
import Derived.Test.YteengjmjbfgkeaaDoorWireNum
import Derived.Test.YteengjmjbfgkeaaDoorCrcFnsB
namespace Go.Proofs.YteengjmjbfgkeaaDoor
open Go.RowKit

def FourAt (n k m : Nat) (xs : List UInt8) : Prop := m = n / 256 ^ k ∧ xs = (four n).take k
theorem four_step {n k m : Nat} {xs : List UInt8} (h : FourAt n k m xs) (hk : k < 4) : FourAt n (k + 1) (m / 256) (xs ++ [UInt8.ofNat m]) := by
  obtain ⟨rfl, rfl⟩ := h
  refine ⟨by rw [Nat.div_div_eq_div_mul, Nat.pow_succ], ?_⟩
  have h4 : k = 0 ∨ k = 1 ∨ k = 2 ∨ k = 3 := by omega
  rcases h4 with rfl | rfl | rfl | rfl
  · simp [four]
  · simp [four]
  · simp [four]
  · simp [four]
set_option maxHeartbeats 1000000 in
theorem rfour_any (n : Nat) (w : World) (hn : n < 4294967296) :
    Calls Tryd.prog 40 #[.int .u32 (n : Int)] w fun e w' => e = .returned (.string (fourS n)) ∧ Below w.heap.size w w' := by
  have O0 : Hid (Own8 w w.heap.size (.slice none 0 0) []) := World.ownsRow_nil _ _ _ _
  have B0 : Hid (Below w.heap.size w w) := Below.refl _ _
  have F0 : Hid (FourAt n 0 n []) := ⟨by simp, by simp⟩
  go_enter Tryd.func40, Tryd.ntmps40
  go_wp2
  go_loopw [0, 3, 4] (fun nv v i wr => ∃ (k m : Nat) (xs : List UInt8), k ≤ 4 ∧ i = .int .i64 k ∧ nv = .int .u32 (m : Int) ∧ m < 4294967296 ∧ xs.length ≤ 4 ∧ Hid (FourAt n k m xs) ∧ Hid (Own8 wr w.heap.size v xs) ∧ Hid (Below w.heap.size w wr)) (fun _ _ i _ => 4 - (intOf i).toNat)
  case atStart => exact ⟨0, n, [], by omega, rfl, rfl, hn, by simp, F0, O0, B0⟩
  case round =>
    obtain ⟨k, m, xs, hk, rfl, rfl, hm, hxl, HF, HO, HB⟩ := hrel
    clear O0 B0 F0
    by_cases hlt : k < 4
    · have hlo : (m : Int) % 256 = ((UInt8.ofNat m).toNat : Int) := by rw [UInt8.toNat_ofNat']; omega
      have HLO := Lib.hid hlo
      have HN := Lib.hid (four_step HF.out hlt)
      clear hlo
      go_wp2_with ((at_builtin; go_must (refine wpList_push8 rfl _ _ rfl _ rfl _ rfl _ _ HLO.out HO.out HB.out (Nat.le_refl _) (by omega) ?_); go_must (intro v' w1 hO1 hB1; have HO1' := Lib.hid hO1; have HB1' := Lib.hid hB1; clear hO1 hB1)))
      go_roundw
      case rel => exact ⟨k + 1, m / 256, xs ++ [UInt8.ofNat m], by omega, by go_num, by go_num, by omega, by have := HN.out.2; rw [this, List.length_take, four_length]; omega, HN, HO1', HB1'⟩
      case measure => simp [intOf]; omega
    · obtain rfl : k = 4 := by omega
      obtain rfl : xs = four n := by have := HF.out.2; rw [this]; rfl
      obtain ⟨g, cap, rfl, _, _, HR⟩ := HO.out.row (by rw [four_length]; omega)
      have hbk := HR.back (P := Tryd.prog) 33 9 5 cap Tryd.underlying33 Tryd.underlying5 Tryd.underlying9
      obtain ⟨q, hq⟩ : ∃ q : ByteArray, q = ⟨(four n).toArray⟩ := ⟨_, rfl⟩
      rw [← hq] at hbk
      have HQ := Lib.hid hq
      clear hq HR
      go_wp2
      go_ret
      exact ⟨by rw [HQ.out]; rfl, HB.out⟩
theorem rfour_U (x : BitVec 32) (w : World) : Calls Tryd.prog 40 #[.int .u32 (U x)] w fun e w' => e = .returned (.string (fourS x.toNat)) ∧ Below w.heap.size w w' := rfour_any x.toNat w x.isLt
set_option maxHeartbeats 4000000 in
theorem rframe_big (s : ByteArray) (w : World) (h : 1048576 < s.size) : Calls Tryd.prog 22 #[.string s] w fun e w' => e = .returned (.string ⟨#[]⟩) ∧ w = w' := by
  have t0 : (1048576 : Int) < (s.size : Int) := by omega
  go_enter Tryd.func22, Tryd.ntmps22
  go_wp2
  go_ret
  exact ⟨rfl, rfl⟩
set_option maxHeartbeats 4000000 in
theorem rframe_any (s : ByteArray) (w : World) (hs : s.size ≤ 1048576) :
    Calls Tryd.prog 22 #[.string s] w fun e w' => e = .returned (.string ⟨(frameL s.data.toList).toArray⟩) ∧ Below w.heap.size w w' := by
  have t0 : ¬ (1048576 : Int) < (s.size : Int) := by omega
  go_enter Tryd.func22, Tryd.ntmps22
  go_wp2_with (fail)
  refine (rfour_any s.size _ (by omega)).mono ?_
  rintro e w1 ⟨rfl, hb1⟩
  have B1 := Lib.hid hb1
  obtain ⟨q, hq⟩ : ∃ q, q = fourS s.size := ⟨_, rfl⟩
  have hql : q.data.toList = four s.size := by rw [hq]; rfl
  have hqs : q.size = 4 := by rw [hq]; rfl
  rw [← hq]
  have HQ := Lib.hid hql
  clear hb1 hq hql
  go_wp2_with (fail)
  refine (rsum_any q _ (by unfold maxLen; omega)).mono ?_
  rw [HQ.out]
  rintro e w2 ⟨rfl, rfl⟩
  go_wp2_with (fail)
  refine (rfour_U _ _).mono ?_
  rintro e w3 ⟨rfl, hb3⟩
  have B3 := Lib.hid (B1.out.trans (hb3.mono B1.out.size))
  obtain ⟨r, hr⟩ : ∃ r, r = fourS (Crc.sum (four s.size)).toNat := ⟨_, rfl⟩
  have hrs : r.size = 4 := by rw [hr]; rfl
  rw [← hr]
  have HR := Lib.hid hr
  clear hb3 hr B1
  have z1 : (q ++ r).size ≤ 140737488351232 := by rw [ByteArray.size_append]; omega
  have z2 : (q ++ r ++ s).size ≤ 140737488351232 := by rw [ByteArray.size_append, ByteArray.size_append]; omega
  go_wp2_with (fail)
  refine (rsum_any s _ (by unfold maxLen; omega)).mono ?_
  rintro e w4 ⟨rfl, rfl⟩
  go_wp2_with (fail)
  refine (rfour_U _ _).mono ?_
  rintro e w5 ⟨rfl, hb5⟩
  have B5 := Lib.hid (B3.out.trans (hb5.mono B3.out.size))
  obtain ⟨t, ht⟩ : ∃ t, t = fourS (Crc.sum s.data.toList).toNat := ⟨_, rfl⟩
  have hts : t.size = 4 := by rw [ht]; rfl
  rw [← ht]
  have HT := Lib.hid ht
  clear hb5 ht B3
  have z3 : (q ++ r ++ s ++ t).size ≤ 140737488351232 := by rw [ByteArray.size_append, ByteArray.size_append, ByteArray.size_append]; omega
  go_wp2
  go_ret
  refine ⟨?_, B5.out⟩
  refine congrArg (fun z => Ending.returned (Value.string z)) (?_ : q ++ r ++ s ++ t = _)
  apply ByteArray.ext
  apply Array.ext'
  simp only [ByteArray.data_append, Array.toList_append]
  rw [HQ.out, HR.out, HT.out]
  show four s.size ++ four (Crc.sum (four s.size)).toNat ++ s.data.toList ++ four (Crc.sum s.data.toList).toNat = _
  unfold frameL headL
  rw [show s.data.toList.length = s.size by simp]
end Go.Proofs.YteengjmjbfgkeaaDoor
