/- The contract of wire.Frame. -/
import Derived.Test.YtcmhmnbffgdblaaDoorFour
namespace Go.Proofs.YtcmhmnbffgdblaaDoor
open Go.RowKit

/-- a body with its length and its checksums -/
def headL (n : Nat) : List UInt8 := four n ++ four (Crc.sum (four n)).toNat
def frameL (l : List UInt8) : List UInt8 := headL l.length ++ l ++ four (Crc.sum l).toNat
theorem frameL_length (l : List UInt8) : (frameL l).length = l.length + 12 := by
  unfold frameL headL
  simp only [List.length_append, four_length]
  omega
theorem four_U (x : BitVec 32) (w : World) : Calls Tryd.prog 14 #[.int .u32 (U x)] w fun e w' => e = .returned (.string (fourS x.toNat)) ∧ Below w.heap.size w w' := four_any x.toNat w x.isLt
theorem fourS_data (n : Nat) : (fourS n).data.toList = four n := rfl
set_option maxHeartbeats 4000000 in
theorem frame_big (s : ByteArray) (w : World) (h : 1048576 < s.size) : Calls Tryd.prog 6 #[.string s] w fun e w' => e = .returned (.string ⟨#[]⟩) ∧ w = w' := by
  have t0 : (1048576 : Int) < (s.size : Int) := by omega
  go_enter Tryd.func6, Tryd.ntmps6
  go_wp2
  go_ret
  exact ⟨rfl, rfl⟩
set_option maxHeartbeats 4000000 in
theorem frame_any (s : ByteArray) (w : World) (hh : Half w) (hs : s.size ≤ 1048576) :
    Calls Tryd.prog 6 #[.string s] w fun e w' => e = .returned (.string ⟨(frameL s.data.toList).toArray⟩) ∧ Below w.heap.size w w' := by
  have t0 : ¬ (1048576 : Int) < (s.size : Int) := by omega
  have hlt := hh.lt
  have HH := Lib.hid hh
  clear hh
  go_enter Tryd.func6, Tryd.ntmps6
  go_wp2_with (fail)
  refine (four_any s.size _ (by omega)).mono ?_
  rintro e w1 ⟨rfl, hb1⟩
  have B1 := Lib.hid hb1
  have H1 := Lib.hid (HH.out.below hb1 hlt)
  have s1 := hb1.size
  obtain ⟨q, hq⟩ : ∃ q, q = fourS s.size := ⟨_, rfl⟩
  have hql : q.data.toList = four s.size := by rw [hq]; rfl
  have hqs : q.size = 4 := by rw [hq]; rfl
  rw [← hq]
  have HQ := Lib.hid hql
  clear hb1 hq hql
  go_wp2_with (fail)
  refine (sum_any q _ H1.out (by unfold maxLen; omega)).mono ?_
  rw [HQ.out]
  rintro e w2 ⟨rfl, rfl⟩
  go_wp2_with (fail)
  refine (four_U _ _).mono ?_
  rintro e w3 ⟨rfl, hb3⟩
  have B3 := Lib.hid (B1.out.trans (hb3.mono B1.out.size))
  have H3 := Lib.hid (H1.out.below hb3 (by omega))
  have s3 := B3.out.size
  obtain ⟨r, hr⟩ : ∃ r, r = fourS (Crc.sum (four s.size)).toNat := ⟨_, rfl⟩
  have hrs : r.size = 4 := by rw [hr]; rfl
  rw [← hr]
  have HR := Lib.hid hr
  clear hb3 hr H1 B1
  go_wp2_with (fail)
  refine (sum_any s _ H3.out (by unfold maxLen; omega)).mono ?_
  rintro e w4 ⟨rfl, rfl⟩
  go_wp2_with (fail)
  refine (four_U _ _).mono ?_
  rintro e w5 ⟨rfl, hb5⟩
  have B5 := Lib.hid (B3.out.trans (hb5.mono B3.out.size))
  obtain ⟨t, ht⟩ : ∃ t, t = fourS (Crc.sum s.data.toList).toNat := ⟨_, rfl⟩
  have hts : t.size = 4 := by rw [ht]; rfl
  rw [← ht]
  have HT := Lib.hid ht
  clear hb5 ht H3 B3
  have z1 : (q ++ r).size ≤ 140737488351232 := by rw [ByteArray.size_append]; omega
  have z2 : (q ++ r ++ s).size ≤ 140737488351232 := by rw [ByteArray.size_append, ByteArray.size_append]; omega
  have z3 : (q ++ r ++ s ++ t).size ≤ 140737488351232 := by rw [ByteArray.size_append, ByteArray.size_append, ByteArray.size_append]; omega
  go_wp2
  go_ret
  refine ⟨?_, B5.out⟩
  refine congrArg (fun z => Ending.returned (Value.string z)) (?_ : q ++ r ++ s ++ t = _)
  apply ByteArray.ext
  apply Array.ext'
  simp only [ByteArray.data_append, Array.toList_append]
  rw [HQ.out, HR.out, HT.out]
  show four s.size ++ four (Crc.sum (four s.size)).toNat ++ s.data.toList ++ four (Crc.sum s.data.toList).toNat = _
  unfold frameL headL
  rw [show s.data.toList.length = s.size by simp]
end Go.Proofs.YtcmhmnbffgdblaaDoor
