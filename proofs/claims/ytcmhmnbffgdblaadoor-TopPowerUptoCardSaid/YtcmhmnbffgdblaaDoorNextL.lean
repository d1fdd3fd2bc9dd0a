/- The contract of wire.Next, where there are eight bytes at least. -/
import Derived.Test.YtcmhmnbffgdblaaDoorNext
import Derived.Test.YtcmhmnbffgdblaaDoorLawEnd
namespace Go.Proofs.YtcmhmnbffgdblaaDoor
open Go.RowKit

theorem from_at (s : ByteArray) (h : 4 ≤ s.size) (M : Nat) (hM : M = un4 s.data.toList) (w : World) (n : Nat) :
    Calls Tryd.prog 26 #[.string s] (w.drewN n) fun e w' => e = .returned (.int .u32 (M : Nat)) ∧ ∃ m, w' = w.drewN m := by
  rw [hM]; exact from_quiet s h w n
theorem sum_at (s : ByteArray) (h : s.size ≤ 140737488351232) (X : BitVec 32) (hX : X = Crc.sum s.data.toList) (w : World) (hh : Half w) (n : Nat) :
    Calls Tryd.prog 15 #[.string s] (w.drewN n) fun e w' => e = .returned (.int .u32 (U X)) ∧ w.drewN n = w' := by
  rw [hX]; exact sum_any s (w.drewN n) (hh.below (below_drewN0 w n) hh.lt) (by unfold maxLen; omega)
structure NxSet (s : ByteArray) (a : Nat) (q q4 q5 : ByteArray) (N M : Nat) (X : BitVec 32) : Prop where
  e : s.extract a s.size = q
  e4 : q.extract 0 4 = q4
  e5 : q.extract 4 q.size = q5
  ql : q.data.toList = s.data.toList.drop a
  z8 : 8 ≤ q.size
  zs : q.size ≤ 140737488351232
  z4 : q4.size = 4
  z5 : q5.size = q.size - 4
  qs : q.size = s.size - a
  hN : N = un4 q.data.toList
  hM : M = un4 q5.data.toList
  hX : X = Crc.sum q4.data.toList
  nx : nxAt (s.data.toList.drop a) = if X.toNat ≠ M ∨ 1048576 < N then ([], 24) else
      if q.size < N + 12 then ([], 23) else
      if (Crc.sum ((q.data.toList.drop 8).take N)).toNat ≠ un4 (q.data.toList.drop (8 + N)) then ([], 24) else ((q.data.toList.drop 8).take N, 0)
theorem nx_set (s : ByteArray) (a : Nat) (ha : a ≤ s.size) (hs : s.size ≤ 140737488351232) (h8 : 8 ≤ s.size - a) : ∃ q q4 q5 N M X, NxSet s a q q4 q5 N M X := by
  have hql : (s.extract a s.size).data.toList = s.data.toList.drop a := rest_data' s a
  have hqs : (s.extract a s.size).size = s.size - a := by rw [ByteArray.size_extract]; omega
  refine ⟨_, _, _, _, _, _, rfl, rfl, rfl, hql, by omega, by omega, by rw [ByteArray.size_extract]; omega, by rw [ByteArray.size_extract]; omega, hqs, rfl, rfl, rfl, ?_⟩
  have e2 : (s.extract a s.size).data.toList.length = (s.extract a s.size).size := by simp
  have h4 : ((s.extract a s.size).extract 0 4).data.toList = (s.extract a s.size).data.toList.take 4 := by rw [Lib.extract_data]; simp
  have h5 : ((s.extract a s.size).extract 4 (s.extract a s.size).size).data.toList = (s.extract a s.size).data.toList.drop 4 := by rw [rest_data']
  rw [h4, h5, ← hql]
  obtain ⟨l, hl⟩ : ∃ l, l = (s.extract a s.size).data.toList := ⟨_, rfl⟩
  rw [← hl] at e2 ⊢
  unfold nxAt
  rw [if_neg (by intro e; rw [e] at e2; simp at e2; omega), if_neg (by omega), ← e2]
theorem nonempty_of {q : ByteArray} (h : 8 ≤ q.size) : q.toList.isEmpty = false := by
  rw [ByteArray.toList_eq]
  cases hc : q.data.toList with
  | nil =>
    have e1 : q.data.toList.length = 0 := by rw [hc]; rfl
    have e2 : q.data.toList.length = q.size := by simp
    omega
  | cons x r => rfl
theorem drew_below {w w1 : World} (h : ∃ n, w1 = w.drewN n) : Below w.heap.size w w1 := by
  obtain ⟨n, rfl⟩ := h
  exact below_drewN0 w n
theorem drew_half {w w1 : World} (hh : Half w) (h : ∃ n, w1 = w.drewN n) : Half w1 := hh.below (drew_below h) hh.lt
theorem drew_drew {w w1 : World} {n : Nat} (h : ∃ n, w1 = w.drewN n) : ∃ m, w1.drewN n = w.drewN m := by
  obtain ⟨k, rfl⟩ := h
  exact ⟨k + n, World.drewN_drewN w k n⟩
set_option maxHeartbeats 4000000 in
theorem next_a (s : ByteArray) (a : Nat) (q q4 q5 : ByteArray) (N M : Nat) (X : BitVec 32) (w : World) (ha : a ≤ s.size) (hs : s.size ≤ 140737488351232) (k : NxSet s a q q4 q5 N M X) (hh : Half w)
    (c : X.toNat ≠ M ∨ 1048576 < N) :
    Calls Tryd.prog 21 #[.string s, .int .i64 (a : Int)] w fun e w' => e = .returned (nxEnd a (nxAt (s.data.toList.drop a))) ∧ Below w.heap.size w w' := by
  have HE : Hid (nxAt (s.data.toList.drop a) = ([], 24)) := by
    show _ = _
    rw [k.nx, if_pos c]
  have t1 := nonempty_of k.z8
  have t2 : ¬ (q.size : Int) < 8 := by have := k.z8; omega
  have b4 : (4 : Int) ≤ (q.size : Int) := by omega
  have z8 := k.z8
  have FN := fun (v : World) (n : Nat) => Lib.hid (from_at q (by have := k.z8; omega) N k.hN v n)
  have FM := fun (v : World) (n : Nat) => Lib.hid (from_at q5 (by have := k.z5; have := k.z8; omega) M k.hM v n)
  have FX := fun (v : World) (hv : Half v) (n : Nat) => Lib.hid (sum_at q4 (by have := k.z4; omega) X k.hX v hv n)
  have e := k.e
  have e4 := k.e4
  have e5 := k.e5
  have zs := k.zs
  have HH := Lib.hid hh
  clear hh k
  by_cases c1 : X.toNat = M
  · have c2 : 1048576 < N := by rcases c with h | h; exact absurd c1 h; exact h
    have t3 : (U X != (M : Int)) = false := by unfold U; simp [c1]
    clear c c1
    go_enter Tryd.func21, Tryd.ntmps21
    go_wp2_with (fail)
    refine (FN _ 0).out.mono ?_
    rintro e w1 ⟨rfl, hw1⟩
    have HW := Lib.hid hw1
    have H1 := Lib.hid (drew_half HH.out hw1)
    clear hw1
    go_wp2_with (fail)
    go_quiet (first | (go_at_call 15; exact quiet_left (FX _ H1.out _).out) | (go_at_call 26; exact (FM _ _).out))
    go_wp2
    go_ret3
    exact ⟨by rw [HE.out]; rfl, drew_below (drew_drew HW.out)⟩
  · have t3 : (U X != (M : Int)) = true := by unfold U; simp; omega
    clear c c1
    go_enter Tryd.func21, Tryd.ntmps21
    go_wp2_with (fail)
    refine (FN _ 0).out.mono ?_
    rintro e w1 ⟨rfl, hw1⟩
    have HW := Lib.hid hw1
    have H1 := Lib.hid (drew_half HH.out hw1)
    clear hw1
    go_wp2_with (fail)
    go_quiet (first | (go_at_call 15; exact quiet_left (FX _ H1.out _).out) | (go_at_call 26; exact (FM _ _).out))
    go_wp2
    go_ret3
    exact ⟨by rw [HE.out]; rfl, drew_below (drew_drew HW.out)⟩
set_option maxHeartbeats 4000000 in
theorem next_b (s : ByteArray) (a : Nat) (q q4 q5 : ByteArray) (N M : Nat) (X : BitVec 32) (w : World) (ha : a ≤ s.size) (hs : s.size ≤ 140737488351232) (k : NxSet s a q q4 q5 N M X) (hh : Half w)
    (c1 : X.toNat = M) (c2 : ¬ 1048576 < N) (c3 : q.size < N + 12) :
    Calls Tryd.prog 21 #[.string s, .int .i64 (a : Int)] w fun e w' => e = .returned (nxEnd a (nxAt (s.data.toList.drop a))) ∧ Below w.heap.size w w' := by
  have HE : Hid (nxAt (s.data.toList.drop a) = ([], 23)) := by
    show _ = _
    rw [k.nx, if_neg (by omega), if_pos c3]
  have t1 := nonempty_of k.z8
  have t2 : ¬ (q.size : Int) < 8 := by have := k.z8; omega
  have b4 : (4 : Int) ≤ (q.size : Int) := by omega
  have z8 := k.z8
  have FN := fun (v : World) (n : Nat) => Lib.hid (from_at q (by have := k.z8; omega) N k.hN v n)
  have FM := fun (v : World) (n : Nat) => Lib.hid (from_at q5 (by have := k.z5; have := k.z8; omega) M k.hM v n)
  have FX := fun (v : World) (hv : Half v) (n : Nat) => Lib.hid (sum_at q4 (by have := k.z4; omega) X k.hX v hv n)
  have e := k.e
  have e4 := k.e4
  have e5 := k.e5
  have zs := k.zs
  have HH := Lib.hid hh
  have t3 : (U X != (M : Int)) = false := by unfold U; simp [c1]
  have t4 : (q.size : Int) < 8 + (N : Int) + 4 := by omega
  clear hh k c1 c3
  go_enter Tryd.func21, Tryd.ntmps21
  go_wp2_with (fail)
  refine (FN _ 0).out.mono ?_
  rintro e w1 ⟨rfl, hw1⟩
  have HW := Lib.hid hw1
  have H1 := Lib.hid (drew_half HH.out hw1)
  clear hw1
  go_wp2_with (fail)
  go_quiet (first | (go_at_call 15; exact quiet_left (FX _ H1.out _).out) | (go_at_call 26; exact (FM _ _).out))
  go_wp2
  go_ret3
  exact ⟨by rw [HE.out]; rfl, drew_below (drew_drew HW.out)⟩
end Go.Proofs.YtcmhmnbffgdblaaDoor
