/- The contract of wire.Next, whole. -/
import Derived.Test.YtcmhmnbffgdblaaDoorNextL
namespace Go.Proofs.YtcmhmnbffgdblaaDoor
open Go.RowKit

theorem from_add (s : ByteArray) (h : 4 ≤ s.size) (M : Nat) (hM : M = un4 s.data.toList) (w : World) (a n : Nat) :
    Calls Tryd.prog 26 #[.string s] (w.drewN (a + n)) fun e w' => e = .returned (.int .u32 (M : Nat)) ∧ ∃ m, w' = w.drewN (a + m) := by
  rw [hM]
  refine (from_un4 s h (w.drewN (a + n))).mono ?_
  rintro e w' ⟨rfl, m, rfl⟩
  exact ⟨rfl, n + m, by rw [World.drewN_drewN, Nat.add_assoc]⟩
theorem below_from {w v w5 : World} (hb : Below v.heap.size v w5) (h : ∃ n, v = w.drewN n) : Below w.heap.size w w5 :=
  (drew_below h).trans (hb.mono (drew_below h).size)
structure NxBody (q : ByteArray) (N : Nat) (bd r : ByteArray) (L : Nat) (Y : BitVec 32) : Prop where
  e6 : q.extract 8 (8 + N) = bd
  e7 : q.extract (8 + N) q.size = r
  zb : bd.size = N
  zr : 4 ≤ r.size
  bl : bd.data.toList = (q.data.toList.drop 8).take N
  hL : L = un4 r.data.toList
  hL2 : L = un4 (q.data.toList.drop (8 + N))
  hY : Y = Crc.sum bd.data.toList
theorem nx_body (q : ByteArray) (N : Nat) (h : N + 12 ≤ q.size) : ∃ bd r L Y, NxBody q N bd r L Y := by
  have hb : (q.extract 8 (8 + N)).data.toList = (q.data.toList.drop 8).take N := by
    rw [Lib.extract_data, show 8 + N - 8 = N by omega]
  exact ⟨_, _, _, _, rfl, rfl, by rw [ByteArray.size_extract]; omega, by rw [ByteArray.size_extract]; omega, hb, rfl, by rw [rest_data'], rfl⟩
set_option maxHeartbeats 4000000 in
theorem next_d (s : ByteArray) (a : Nat) (q q4 q5 : ByteArray) (N M : Nat) (X : BitVec 32) (w : World) (ha : a ≤ s.size) (hs : s.size ≤ 140737488351232) (k : NxSet s a q q4 q5 N M X) (hh : Half w)
    (c1 : X.toNat = M) (c2 : ¬ 1048576 < N) (c3 : N + 12 ≤ q.size) (bd r : ByteArray) (L : Nat) (Y : BitVec 32) (b : NxBody q N bd r L Y) (c4 : Y.toNat ≠ L) :
    Calls Tryd.prog 21 #[.string s, .int .i64 (a : Int)] w fun e w' => e = .returned (nxEnd a (nxAt (s.data.toList.drop a))) ∧ Below w.heap.size w w' := by
  have HE : Hid (nxAt (s.data.toList.drop a) = ([], 24)) := by
    show _ = _
    rw [k.nx, if_neg (by omega), if_neg (by omega), ← b.bl, ← b.hL2, ← b.hY, if_pos c4]
  have t1 := nonempty_of k.z8
  have t2 : ¬ (q.size : Int) < 8 := by have := k.z8; omega
  have b4 : (4 : Int) ≤ (q.size : Int) := by omega
  have z8 := k.z8
  have FN := fun (v : World) (n : Nat) => Lib.hid (from_at q (by have := k.z8; omega) N k.hN v n)
  have FM := fun (v : World) (n : Nat) => Lib.hid (from_at q5 (by have := k.z5; have := k.z8; omega) M k.hM v n)
  have FX := fun (v : World) (hv : Half v) (n : Nat) => Lib.hid (sum_at q4 (by have := k.z4; omega) X k.hX v hv n)
  have FL := fun (v : World) (n : Nat) => Lib.hid (from_at r b.zr L b.hL v n)
  have FLA := fun (v : World) (a n : Nat) => Lib.hid (from_add r b.zr L b.hL v a n)
  have FY := fun (v : World) (hv : Half v) (n : Nat) => Lib.hid (sum_at bd (by have := b.zb; have := k.zs; omega) Y b.hY v hv n)
  have e := k.e
  have e4 := k.e4
  have e5 := k.e5
  have e6 := b.e6
  have e7 := b.e7
  have zs := k.zs
  have zb := Lib.hid b.zb
  have HH := Lib.hid hh
  have t3 : (U X != (M : Int)) = false := by unfold U; simp [c1]
  have t4 : ¬ (q.size : Int) < 8 + (N : Int) + 4 := by omega
  have t5 : (8 : Int) + (N : Int) ≤ (q.size : Int) := by omega
  have t6 : (U Y != (L : Int)) = true := by unfold U; simp; omega
  clear hh k c1 c3 c4 b
  go_enter Tryd.func21, Tryd.ntmps21
  go_wp2_with (fail)
  refine (FN _ 0).out.mono ?_
  rintro e w1 ⟨rfl, hw1⟩
  have HW := Lib.hid hw1
  have H1 := Lib.hid (drew_half HH.out hw1)
  clear hw1
  go_wp2_with (fail)
  go_quiet (first | (go_at_call 15; exact quiet_left (FX _ H1.out _).out) | (go_at_call 26; exact (FM _ _).out))
  go_wp2
  go_quiet (first | (go_at_call 15; first | exact quiet_add_left (FY _ H1.out _).out | exact quiet_left (FY _ H1.out _).out) | (go_at_call 26; first | exact (FLA _ _ _).out | exact (FL _ _).out))
  go_wp2
  go_ret3
  exact ⟨by rw [HE.out]; rfl, drew_below (drew_drew (drew_drew HW.out))⟩
set_option maxHeartbeats 4000000 in
theorem next_e (s : ByteArray) (a : Nat) (q q4 q5 : ByteArray) (N M : Nat) (X : BitVec 32) (w : World) (ha : a ≤ s.size) (hs : s.size ≤ 140737488351232) (k : NxSet s a q q4 q5 N M X) (hh : Half w)
    (c1 : X.toNat = M) (c2 : ¬ 1048576 < N) (c3 : N + 12 ≤ q.size) (bd r : ByteArray) (L : Nat) (Y : BitVec 32) (b : NxBody q N bd r L Y) (c4 : Y.toNat = L) :
    Calls Tryd.prog 21 #[.string s, .int .i64 (a : Int)] w fun e w' => e = .returned (nxEnd a (nxAt (s.data.toList.drop a))) ∧ Below w.heap.size w w' := by
  have HE : Hid (nxAt (s.data.toList.drop a) = (bd.data.toList, 0)) := by
    show _ = _
    rw [k.nx, if_neg (by omega), if_neg (by omega), ← b.bl, ← b.hL2, ← b.hY, if_neg (by omega)]
  have t1 := nonempty_of k.z8
  have t2 : ¬ (q.size : Int) < 8 := by have := k.z8; omega
  have b4 : (4 : Int) ≤ (q.size : Int) := by omega
  have z8 := k.z8
  have FN := fun (v : World) (n : Nat) => Lib.hid (from_at q (by have := k.z8; omega) N k.hN v n)
  have FM := fun (v : World) (n : Nat) => Lib.hid (from_at q5 (by have := k.z5; have := k.z8; omega) M k.hM v n)
  have FX := fun (v : World) (hv : Half v) (n : Nat) => Lib.hid (sum_at q4 (by have := k.z4; omega) X k.hX v hv n)
  have FL := fun (v : World) (n : Nat) => Lib.hid (from_at r b.zr L b.hL v n)
  have FLA := fun (v : World) (a n : Nat) => Lib.hid (from_add r b.zr L b.hL v a n)
  have FY := fun (v : World) (hv : Half v) (n : Nat) => Lib.hid (sum_at bd (by have := b.zb; have := k.zs; omega) Y b.hY v hv n)
  have e := k.e
  have e4 := k.e4
  have e5 := k.e5
  have e6 := b.e6
  have e7 := b.e7
  have zs := k.zs
  have zb := Lib.hid b.zb
  have HH := Lib.hid hh
  have t3 : (U X != (M : Int)) = false := by unfold U; simp [c1]
  have t4 : ¬ (q.size : Int) < 8 + (N : Int) + 4 := by omega
  have t5 : (8 : Int) + (N : Int) ≤ (q.size : Int) := by omega
  have t6 : (U Y != (L : Int)) = false := by unfold U; simp [c4]
  clear hh k c1 c3 c4 b
  go_enter Tryd.func21, Tryd.ntmps21
  go_wp2_with (fail)
  refine (FN _ 0).out.mono ?_
  rintro e w1 ⟨rfl, hw1⟩
  have HW := Lib.hid hw1
  have H1 := Lib.hid (drew_half HH.out hw1)
  clear hw1
  go_wp2_with (fail)
  go_quiet (first | (go_at_call 15; exact quiet_left (FX _ H1.out _).out) | (go_at_call 26; exact (FM _ _).out))
  go_wp2
  go_quiet (first | (go_at_call 15; first | exact quiet_add_left (FY _ H1.out _).out | exact quiet_left (FY _ H1.out _).out) | (go_at_call 26; first | exact (FLA _ _ _).out | exact (FL _ _).out))
  go_wp2_with (fail)
  refine (clone_any bd _ (by have := zb.out; omega)).mono ?_
  rintro e w5 ⟨rfl, hb5⟩
  have B5 := Lib.hid hb5
  clear hb5
  go_wp2
  go_ret3
  refine ⟨?_, ?_⟩
  · rw [HE.out]
    unfold nxEnd nxVal
    simp only [if_true]
    have hz : bd.data.toList.length = N := by rw [← zb.out]; simp
    rw [hz]
    have hbd : (⟨bd.data.toList.toArray⟩ : ByteArray) = bd := by simp
    rw [hbd, show (a : Int) + N + 12 = a + (8 + N) + 4 by omega]
    rfl
  · first | exact below_from B5.out (drew_drew HW.out) | exact below_from B5.out (drew_drew (drew_drew HW.out))
theorem next_any (s : ByteArray) (a : Nat) (w : World) (ha : a ≤ s.size) (hs : s.size ≤ 140737488351232) (hh : Half w) :
    Calls Tryd.prog 21 #[.string s, .int .i64 (a : Int)] w fun e w' => e = .returned (nxEnd a (nxAt (s.data.toList.drop a))) ∧ Below w.heap.size w w' := by
  by_cases h8 : s.size - a < 8
  · refine (next_short s a w ha hs h8).mono ?_
    rintro e w' ⟨rfl, rfl⟩
    refine ⟨?_, Below.refl _ _⟩
    have hl : (s.data.toList.drop a).length = s.size - a := by simp
    unfold nxAt
    by_cases h0 : a = s.size
    · have hnil : s.data.toList.drop a = [] := List.eq_nil_of_length_eq_zero (by omega)
      rw [if_pos h0, if_pos hnil]
      rfl
    · rw [if_neg h0, if_neg (by intro e; rw [e] at hl; simp at hl; omega), if_pos (by omega)]
      rfl
  · obtain ⟨q, q4, q5, N, M, X, k⟩ := nx_set s a ha hs (by omega)
    by_cases c1 : X.toNat ≠ M ∨ 1048576 < N
    · exact next_a s a q q4 q5 N M X w ha hs k hh c1
    · have c2 : X.toNat = M := by omega
      have c3 : ¬ 1048576 < N := by omega
      by_cases c4 : q.size < N + 12
      · exact next_b s a q q4 q5 N M X w ha hs k hh c2 c3 c4
      · obtain ⟨bd, r, L, Y, b⟩ := nx_body q N (by omega)
        by_cases c5 : Y.toNat = L
        · exact next_e s a q q4 q5 N M X w ha hs k hh c2 c3 (by omega) bd r L Y b c5
        · exact next_d s a q q4 q5 N M X w ha hs k hh c2 c3 (by omega) bd r L Y b c5
end Go.Proofs.YtcmhmnbffgdblaaDoor
