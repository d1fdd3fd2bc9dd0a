/- The contract of the reference's Next. -/
import Derived.Test.YteengjmjbfgkeaaDoorRefFrame
import Derived.Test.YteengjmjbfgkeaaDoorNextM
import Derived.Test.YteengjmjbfgkeaaDoorStream
import Derived.Deep.RegionHeld3
import Derived.IntWalk
namespace Go.Proofs.YteengjmjbfgkeaaDoor
open Go.RowKit

theorem four_keep {w0 w : World} (k : Hid (Below w0.heap.size w0 w)) (X : BitVec 32) (P : ByteArray) (hP : Hid (P = fourS X.toNat)) :
    Calls Tryd.prog 40 #[.int .u32 (U X)] w fun e w' => e = .returned (.string P) ∧ Hid (Below w0.heap.size w0 w') := by
  rw [hP.out]
  exact (rfour_U X w).mono fun _ _ ⟨he, hb⟩ => ⟨he, Lib.hid (k.out.trans (hb.mono k.out.size))⟩
theorem keep_drew {w0 w : World} (k : Hid (Below w0.heap.size w0 w)) : Hid (Below w0.heap.size w0 w.drew) := Lib.hid (below_drewN k.out 1)
/-- a sum's four bytes against those that stand there -/
theorem four_test {X : BitVec 32} {r : List UInt8} {q P : ByteArray} (hr : 4 ≤ r.length) (hq : q.data.toList = r.take 4) (hP : P = fourS X.toNat) : (P.toList == q.toList) = decide (X.toNat = un4 r) := by
  have e1 : P.toList = four X.toNat := by rw [ByteArray.toList_eq, hP]; rfl
  have e2 : q.toList = r.take 4 := by rw [ByteArray.toList_eq, hq]
  have e3 : un4 r = un4 (r.take 4) := by
    conv => lhs; rw [← List.take_append_drop 4 r]
    exact un4_app (by rw [List.length_take]; omega) _
  have e4 : (r.take 4).length = 4 := by rw [List.length_take]; omega
  rw [e1, e2, e3]
  by_cases h : X.toNat = un4 (r.take 4)
  · have : four X.toNat = r.take 4 := un4_inj (four_length _) e4 (by rw [un4_four' _ X.isLt, h])
    rw [← this, un4_four' _ X.isLt]
    simp
  · have : ¬ four X.toNat = r.take 4 := fun e => h (by rw [← e, un4_four' _ X.isLt])
    simp [h, this]
theorem un4_horner (q : ByteArray) (h : 4 ≤ q.size) : un4 q.data.toList = ((q[3].toNat * 256 + q[2].toNat) * 256 + q[1].toNat) * 256 + q[0].toNat := by
  unfold un4 unfour
  rw [getD_at q 0 (by omega), getD_at q 1 (by omega), getD_at q 2 (by omega), getD_at q 3 (by omega)]
  omega
set_option maxHeartbeats 4000000 in
theorem rnext_short (s : ByteArray) (a : Nat) (w : World) (ha : a ≤ s.size) (h : s.size - a < 8) :
    Calls Tryd.prog 24 #[.string s, .int .i64 (a : Int)] w fun e w' => e = .returned (nxVal [] 0 (if a = s.size then 3 else 23)) ∧ w = w' := by
  have hsz : (s.extract a s.size).size = s.size - a := by rw [ByteArray.size_extract]; omega
  obtain ⟨q, hq⟩ : ∃ q, q = s.extract a s.size := ⟨_, rfl⟩
  have hqe := hq.symm
  rw [← hq] at hsz
  by_cases h0 : a = s.size
  · have hE : Hid (a = s.size) := h0
    have t1 : ((q.size : Int) == 0) = true := by rw [show q.size = 0 by omega]; rfl
    clear h0 hq hsz
    go_enter Tryd.func24, Tryd.ntmps24
    go_wp2
    go_ret3
    exact ⟨rfl, rfl⟩
  · have hE : Hid (¬ a = s.size) := h0
    have t1 : ((q.size : Int) == 0) = false := by rw [beq_eq_false_iff_ne]; omega
    have t2 : (q.size : Int) < 8 := by omega
    clear h0 hq hsz
    go_enter Tryd.func24, Tryd.ntmps24
    go_wp2
    go_ret3
    exact ⟨rfl, rfl⟩
theorem rnext_arg (s : ByteArray) (at_ : Int) (w : World) (h : at_ < 0 ∨ (s.size : Int) < at_) :
    Calls Tryd.prog 24 #[.string s, .int .i64 at_] w fun e w' => e = .returned (nxVal [] 0 2) ∧ w = w' := by
  by_cases h0 : at_ < 0
  · go_enter Tryd.func24, Tryd.ntmps24
    go_wp2
    go_ret3
    exact ⟨rfl, rfl⟩
  · have t1 : (s.size : Int) < at_ := by omega
    go_enter Tryd.func24, Tryd.ntmps24
    go_wp2
    go_ret3
    exact ⟨rfl, rfl⟩
set_option maxHeartbeats 4000000 in
theorem rnext_a (s : ByteArray) (a : Nat) (q q4 q5 : ByteArray) (N M : Nat) (X : BitVec 32) (w : World) (ha : a ≤ s.size) (hs : s.size ≤ 140737488351232) (k : NxSet s a q q4 q5 N M X)
    (c1 : X.toNat ≠ M) :
    Calls Tryd.prog 24 #[.string s, .int .i64 (a : Int)] w fun e w' => e = .returned (nxEnd a (nxAt (s.data.toList.drop a))) ∧ Below w.heap.size w w' := by
  have HE : Hid (nxAt (s.data.toList.drop a) = ([], 24)) := by
    show _ = _
    rw [k.nx, if_pos (.inl c1)]
  have z8 := k.z8
  have zs := k.zs
  have t1 : ((q.size : Int) == 0) = false := by rw [beq_eq_false_iff_ne]; omega
  have t2 : ¬ (q.size : Int) < 8 := by omega
  have b4 : (4 : Int) ≤ (q.size : Int) := by omega
  have b8 : (8 : Int) ≤ (q.size : Int) := by omega
  have e := k.e
  have e4 := k.e4
  obtain ⟨q8, e8⟩ : ∃ q8, q.extract 4 8 = q8 := ⟨_, rfl⟩
  obtain ⟨P, hP⟩ : ∃ P, P = fourS X.toNat := ⟨_, rfl⟩
  have h5l : q5.data.toList = q.data.toList.drop 4 := by rw [← k.e5, rest_data']
  have hcmp : (P.toList == q8.toList) = false := by
    rw [four_test (X := X) (r := q5.data.toList) (by have := k.z5; simp; omega) (by rw [← e8, Lib.extract_data, h5l]) hP, ← k.hM]
    exact decide_eq_false c1
  have HP := Lib.hid hP
  have HX := fun (v : World) => Lib.hid (rsum_any q4 v (by have := k.z4; unfold maxLen; omega))
  rw [← k.hX] at HX
  have HN := Lib.hid k.hN

  clear hP h5l k c1
  have B0 : Hid (Below w.heap.size w w) := Lib.hid (Below.refl _ _)
  go_enter Tryd.func24, Tryd.ntmps24
  go_wp2_with (fail)
  go_region_held3 (fun w' => Hid (Below w.heap.size w w')) (first | assumption | exact keep_drew (by assumption))
    (first | (go_at_call 12; refine (HX _).out.mono ?_; rintro e w' ⟨rfl, rfl⟩) | (go_at_call 40; refine (four_keep (by assumption) X P HP).mono ?_; rintro e w' ⟨rfl, hB⟩))
  go_wp2
  go_ret3
  exact ⟨by rw [HE.out]; rfl, Hid.out (by assumption)⟩
set_option maxHeartbeats 4000000 in
theorem rnext_c (s : ByteArray) (a : Nat) (q q4 q5 : ByteArray) (N M : Nat) (X : BitVec 32) (w : World) (ha : a ≤ s.size) (hs : s.size ≤ 140737488351232) (k : NxSet s a q q4 q5 N M X)
    (c1 : X.toNat = M) (c2 : 1048576 < N) :
    Calls Tryd.prog 24 #[.string s, .int .i64 (a : Int)] w fun e w' => e = .returned (nxEnd a (nxAt (s.data.toList.drop a))) ∧ Below w.heap.size w w' := by
  have HE : Hid (nxAt (s.data.toList.drop a) = ([], 24)) := by
    show _ = _
    rw [k.nx, if_pos (.inr c2)]
  have z8 := k.z8
  have zs := k.zs
  have t1 : ((q.size : Int) == 0) = false := by rw [beq_eq_false_iff_ne]; omega
  have t2 : ¬ (q.size : Int) < 8 := by omega
  have b4 : (4 : Int) ≤ (q.size : Int) := by omega
  have b8 : (8 : Int) ≤ (q.size : Int) := by omega
  have e := k.e
  have e4 := k.e4
  obtain ⟨q8, e8⟩ : ∃ q8, q.extract 4 8 = q8 := ⟨_, rfl⟩
  obtain ⟨P, hP⟩ : ∃ P, P = fourS X.toNat := ⟨_, rfl⟩
  have h5l : q5.data.toList = q.data.toList.drop 4 := by rw [← k.e5, rest_data']
  have hcmp : (P.toList == q8.toList) = true := by
    rw [four_test (X := X) (r := q5.data.toList) (by have := k.z5; simp; omega) (by rw [← e8, Lib.extract_data, h5l]) hP, ← k.hM]
    exact decide_eq_true c1
  have HP := Lib.hid hP
  have HX := fun (v : World) => Lib.hid (rsum_any q4 v (by have := k.z4; unfold maxLen; omega))
  rw [← k.hX] at HX
  have HN := Lib.hid k.hN
  have t3 : (1048576 : Int) < (N : Int) := by omega
  clear hP h5l k c1
  have B0 : Hid (Below w.heap.size w w) := Lib.hid (Below.refl _ _)
  go_enter Tryd.func24, Tryd.ntmps24
  go_wp2_with (fail)
  go_region_held3 (fun w' => Hid (Below w.heap.size w w')) (first | assumption | exact keep_drew (by assumption))
    (first | (go_at_call 12; refine (HX _).out.mono ?_; rintro e w' ⟨rfl, rfl⟩) | (go_at_call 40; refine (four_keep (by assumption) X P HP).mono ?_; rintro e w' ⟨rfl, hB⟩))
  have n3 := q[3].toNat_lt
  have n2 := q[2].toNat_lt
  have n1 := q[1].toNat_lt
  have n0 := q[0].toNat_lt
  have HNN : Hid (((((q[3].toNat : Int) * (256 : Int) + (q[2].toNat : Int)) * (256 : Int) + (q[1].toNat : Int)) * (256 : Int) + (q[0].toNat : Int)) = (N : Int)) := by
    have h := un4_horner q (by omega)
    rw [← HN.out] at h
    show _ = _
    omega
  go_wp2
  go_loop [8, 9] (fun nv i => (i = .int .i64 3 ∧ nv = .int .i64 0) ∨ (i = .int .i64 2 ∧ nv = .int .i64 (q[3].toNat : Int)) ∨ (i = .int .i64 1 ∧ nv = .int .i64 ((q[3].toNat : Int) * (256 : Int) + (q[2].toNat : Int))) ∨ (i = .int .i64 0 ∧ nv = .int .i64 (((q[3].toNat : Int) * (256 : Int) + (q[2].toNat : Int)) * (256 : Int) + (q[1].toNat : Int))) ∨ (i = .int .i64 (-1) ∧ nv = .int .i64 (N : Int))) (fun _ i => (intOf i + 1).toNat)
  case atStart => exact .inl ⟨rfl, rfl⟩
  case round =>
    rcases hrel with ⟨rfl, rfl⟩ | ⟨rfl, rfl⟩ | ⟨rfl, rfl⟩ | ⟨rfl, rfl⟩ | ⟨rfl, rfl⟩
    · go_wp2
      go_round
      case rel => exact .inr (.inl ⟨rfl, rfl⟩)
      case measure => simp [intOf]
    · go_wp2
      go_round
      case rel => exact .inr (.inr (.inl ⟨rfl, rfl⟩))
      case measure => simp [intOf]
    · go_wp2
      go_round
      case rel => exact .inr (.inr (.inr (.inl ⟨rfl, rfl⟩)))
      case measure => simp [intOf]
    · go_wp2
      go_round
      case rel => exact .inr (.inr (.inr (.inr ⟨rfl, by rw [← HNN.out]⟩)))
      case measure => simp [intOf]
    · clear n0 n1 n2 n3
      go_wp2
      go_ret3
      exact ⟨by rw [HE.out]; rfl, Hid.out (by assumption)⟩
set_option maxHeartbeats 4000000 in
theorem rnext_b (s : ByteArray) (a : Nat) (q q4 q5 : ByteArray) (N M : Nat) (X : BitVec 32) (w : World) (ha : a ≤ s.size) (hs : s.size ≤ 140737488351232) (k : NxSet s a q q4 q5 N M X)
    (c1 : X.toNat = M) (c2 : ¬ 1048576 < N) (c3 : q.size < N + 12) :
    Calls Tryd.prog 24 #[.string s, .int .i64 (a : Int)] w fun e w' => e = .returned (nxEnd a (nxAt (s.data.toList.drop a))) ∧ Below w.heap.size w w' := by
  have HE : Hid (nxAt (s.data.toList.drop a) = ([], 23)) := by
    show _ = _
    rw [k.nx, if_neg (by omega), if_pos c3]
  have z8 := k.z8
  have zs := k.zs
  have t1 : ((q.size : Int) == 0) = false := by rw [beq_eq_false_iff_ne]; omega
  have t2 : ¬ (q.size : Int) < 8 := by omega
  have b4 : (4 : Int) ≤ (q.size : Int) := by omega
  have b8 : (8 : Int) ≤ (q.size : Int) := by omega
  have e := k.e
  have e4 := k.e4
  obtain ⟨q8, e8⟩ : ∃ q8, q.extract 4 8 = q8 := ⟨_, rfl⟩
  obtain ⟨P, hP⟩ : ∃ P, P = fourS X.toNat := ⟨_, rfl⟩
  have h5l : q5.data.toList = q.data.toList.drop 4 := by rw [← k.e5, rest_data']
  have hcmp : (P.toList == q8.toList) = true := by
    rw [four_test (X := X) (r := q5.data.toList) (by have := k.z5; simp; omega) (by rw [← e8, Lib.extract_data, h5l]) hP, ← k.hM]
    exact decide_eq_true c1
  have HP := Lib.hid hP
  have HX := fun (v : World) => Lib.hid (rsum_any q4 v (by have := k.z4; unfold maxLen; omega))
  rw [← k.hX] at HX
  have HN := Lib.hid k.hN
  have t3 : ¬ (1048576 : Int) < (N : Int) := by omega
  have t4 : (q.size : Int) - 8 < (N : Int) + 4 := by omega
  clear hP h5l k c1 c3
  have B0 : Hid (Below w.heap.size w w) := Lib.hid (Below.refl _ _)
  go_enter Tryd.func24, Tryd.ntmps24
  go_wp2_with (fail)
  go_region_held3 (fun w' => Hid (Below w.heap.size w w')) (first | assumption | exact keep_drew (by assumption))
    (first | (go_at_call 12; refine (HX _).out.mono ?_; rintro e w' ⟨rfl, rfl⟩) | (go_at_call 40; refine (four_keep (by assumption) X P HP).mono ?_; rintro e w' ⟨rfl, hB⟩))
  have n3 := q[3].toNat_lt
  have n2 := q[2].toNat_lt
  have n1 := q[1].toNat_lt
  have n0 := q[0].toNat_lt
  have HNN : Hid (((((q[3].toNat : Int) * (256 : Int) + (q[2].toNat : Int)) * (256 : Int) + (q[1].toNat : Int)) * (256 : Int) + (q[0].toNat : Int)) = (N : Int)) := by
    have h := un4_horner q (by omega)
    rw [← HN.out] at h
    show _ = _
    omega
  go_wp2
  go_loop [8, 9] (fun nv i => (i = .int .i64 3 ∧ nv = .int .i64 0) ∨ (i = .int .i64 2 ∧ nv = .int .i64 (q[3].toNat : Int)) ∨ (i = .int .i64 1 ∧ nv = .int .i64 ((q[3].toNat : Int) * (256 : Int) + (q[2].toNat : Int))) ∨ (i = .int .i64 0 ∧ nv = .int .i64 (((q[3].toNat : Int) * (256 : Int) + (q[2].toNat : Int)) * (256 : Int) + (q[1].toNat : Int))) ∨ (i = .int .i64 (-1) ∧ nv = .int .i64 (N : Int))) (fun _ i => (intOf i + 1).toNat)
  case atStart => exact .inl ⟨rfl, rfl⟩
  case round =>
    rcases hrel with ⟨rfl, rfl⟩ | ⟨rfl, rfl⟩ | ⟨rfl, rfl⟩ | ⟨rfl, rfl⟩ | ⟨rfl, rfl⟩
    · go_wp2
      go_round
      case rel => exact .inr (.inl ⟨rfl, rfl⟩)
      case measure => simp [intOf]
    · go_wp2
      go_round
      case rel => exact .inr (.inr (.inl ⟨rfl, rfl⟩))
      case measure => simp [intOf]
    · go_wp2
      go_round
      case rel => exact .inr (.inr (.inr (.inl ⟨rfl, rfl⟩)))
      case measure => simp [intOf]
    · go_wp2
      go_round
      case rel => exact .inr (.inr (.inr (.inr ⟨rfl, by rw [← HNN.out]⟩)))
      case measure => simp [intOf]
    · clear n0 n1 n2 n3
      go_wp2
      go_ret3
      exact ⟨by rw [HE.out]; rfl, Hid.out (by assumption)⟩
set_option maxHeartbeats 4000000 in
theorem rnext_d (s : ByteArray) (a : Nat) (q q4 q5 : ByteArray) (N M : Nat) (X : BitVec 32) (w : World) (ha : a ≤ s.size) (hs : s.size ≤ 140737488351232) (k : NxSet s a q q4 q5 N M X)
    (c1 : X.toNat = M) (c2 : ¬ 1048576 < N) (c3 : N + 12 ≤ q.size) (bd r : ByteArray) (L : Nat) (Y : BitVec 32) (b : NxBody q N bd r L Y) (c4 : Y.toNat ≠ L) :
    Calls Tryd.prog 24 #[.string s, .int .i64 (a : Int)] w fun e w' => e = .returned (nxEnd a (nxAt (s.data.toList.drop a))) ∧ Below w.heap.size w w' := by
  have HE : Hid (nxAt (s.data.toList.drop a) = ([], 24)) := by
    show _ = _
    rw [k.nx, if_neg (by omega), if_neg (by omega), ← b.bl, ← b.hL2, ← b.hY, if_pos c4]
  have z8 := k.z8
  have zs := k.zs
  have t1 : ((q.size : Int) == 0) = false := by rw [beq_eq_false_iff_ne]; omega
  have t2 : ¬ (q.size : Int) < 8 := by omega
  have b4 : (4 : Int) ≤ (q.size : Int) := by omega
  have b8 : (8 : Int) ≤ (q.size : Int) := by omega
  have e := k.e
  have e4 := k.e4
  obtain ⟨q8, e8⟩ : ∃ q8, q.extract 4 8 = q8 := ⟨_, rfl⟩
  obtain ⟨P, hP⟩ : ∃ P, P = fourS X.toNat := ⟨_, rfl⟩
  have h5l : q5.data.toList = q.data.toList.drop 4 := by rw [← k.e5, rest_data']
  have hcmp : (P.toList == q8.toList) = true := by
    rw [four_test (X := X) (r := q5.data.toList) (by have := k.z5; simp; omega) (by rw [← e8, Lib.extract_data, h5l]) hP, ← k.hM]
    exact decide_eq_true c1
  have HP := Lib.hid hP
  have HX := fun (v : World) => Lib.hid (rsum_any q4 v (by have := k.z4; unfold maxLen; omega))
  rw [← k.hX] at HX
  have HN := Lib.hid k.hN
  have t3 : ¬ (1048576 : Int) < (N : Int) := by omega
  have t4 : ¬ (q.size : Int) - 8 < (N : Int) + 4 := by omega
  have t5 : (8 : Int) + (N : Int) ≤ (q.size : Int) := by omega
  have t6 : (12 : Int) + (N : Int) ≤ (q.size : Int) := by omega
  have t7 : (8 : Int) + (N : Int) ≤ 12 + (N : Int) := by omega
  have e6 := b.e6
  obtain ⟨r4, e9⟩ : ∃ r4, q.extract (8 + N) (12 + N) = r4 := ⟨_, rfl⟩
  obtain ⟨P2, hP2⟩ : ∃ P2, P2 = fourS Y.toNat := ⟨_, rfl⟩
  have hcmp2 : (P2.toList == r4.toList) = false := by
    rw [four_test (X := Y) (r := q.data.toList.drop (8 + N)) (by simp; omega) (by rw [← e9, Lib.extract_data, show 12 + N - (8 + N) = 4 by omega]) hP2, ← b.hL2]
    exact decide_eq_false c4
  have HP2 := Lib.hid hP2
  have HY := fun (v : World) => Lib.hid (rsum_any bd v (by have := b.zb; unfold maxLen; omega))
  rw [← b.hY] at HY
  have HZB := Lib.hid b.zb
  clear hP h5l k c1 c3 c4 b hP2
  have B0 : Hid (Below w.heap.size w w) := Lib.hid (Below.refl _ _)
  go_enter Tryd.func24, Tryd.ntmps24
  go_wp2_with (fail)
  go_region_held3 (fun w' => Hid (Below w.heap.size w w')) (first | assumption | exact keep_drew (by assumption))
    (first | (go_at_call 12; refine (HX _).out.mono ?_; rintro e w' ⟨rfl, rfl⟩) | (go_at_call 40; refine (four_keep (by assumption) X P HP).mono ?_; rintro e w' ⟨rfl, hB⟩))
  have n3 := q[3].toNat_lt
  have n2 := q[2].toNat_lt
  have n1 := q[1].toNat_lt
  have n0 := q[0].toNat_lt
  have HNN : Hid (((((q[3].toNat : Int) * (256 : Int) + (q[2].toNat : Int)) * (256 : Int) + (q[1].toNat : Int)) * (256 : Int) + (q[0].toNat : Int)) = (N : Int)) := by
    have h := un4_horner q (by omega)
    rw [← HN.out] at h
    show _ = _
    omega
  go_wp2
  go_loop [8, 9] (fun nv i => (i = .int .i64 3 ∧ nv = .int .i64 0) ∨ (i = .int .i64 2 ∧ nv = .int .i64 (q[3].toNat : Int)) ∨ (i = .int .i64 1 ∧ nv = .int .i64 ((q[3].toNat : Int) * (256 : Int) + (q[2].toNat : Int))) ∨ (i = .int .i64 0 ∧ nv = .int .i64 (((q[3].toNat : Int) * (256 : Int) + (q[2].toNat : Int)) * (256 : Int) + (q[1].toNat : Int))) ∨ (i = .int .i64 (-1) ∧ nv = .int .i64 (N : Int))) (fun _ i => (intOf i + 1).toNat)
  case atStart => exact .inl ⟨rfl, rfl⟩
  case round =>
    rcases hrel with ⟨rfl, rfl⟩ | ⟨rfl, rfl⟩ | ⟨rfl, rfl⟩ | ⟨rfl, rfl⟩ | ⟨rfl, rfl⟩
    · go_wp2
      go_round
      case rel => exact .inr (.inl ⟨rfl, rfl⟩)
      case measure => simp [intOf]
    · go_wp2
      go_round
      case rel => exact .inr (.inr (.inl ⟨rfl, rfl⟩))
      case measure => simp [intOf]
    · go_wp2
      go_round
      case rel => exact .inr (.inr (.inr (.inl ⟨rfl, rfl⟩)))
      case measure => simp [intOf]
    · go_wp2
      go_round
      case rel => exact .inr (.inr (.inr (.inr ⟨rfl, by rw [← HNN.out]⟩)))
      case measure => simp [intOf]
    · clear n0 n1 n2 n3
      go_wp2_with (fail)
      have s0 : (0 : Int) ≤ 8 + (N : Int) := by omega
      have s1 : (0 : Int) ≤ 12 + (N : Int) := by omega
      have s2 : ((8 : Int) + (N : Int)).toNat = 8 + N := by omega
      have s3 : ((12 : Int) + (N : Int)).toNat = 12 + N := by omega
      have s4 : IntKind.i64.wrap ((8 : Int) + (N : Int)) = 8 + (N : Int) := IntWalk.i64_in _ (by omega)
      have s5 : IntKind.i64.wrap ((12 : Int) + (N : Int)) = 12 + (N : Int) := IntWalk.i64_in _ (by omega)
      go_region_held3 (fun w' => Hid (Below w.heap.size w w')) (first | assumption | exact keep_drew (by assumption))
        (first | (go_at_call 12; refine (HY _).out.mono ?_; rintro e w' ⟨rfl, rfl⟩) | (go_at_call 40; refine (four_keep (by assumption) Y P2 HP2).mono ?_; rintro e w' ⟨rfl, hB⟩))
      go_wp2
      go_ret3
      exact ⟨by rw [HE.out]; rfl, Hid.out (by assumption)⟩
set_option maxHeartbeats 4000000 in
theorem rnext_e (s : ByteArray) (a : Nat) (q q4 q5 : ByteArray) (N M : Nat) (X : BitVec 32) (w : World) (ha : a ≤ s.size) (hs : s.size ≤ 140737488351232) (k : NxSet s a q q4 q5 N M X)
    (c1 : X.toNat = M) (c2 : ¬ 1048576 < N) (c3 : N + 12 ≤ q.size) (bd r : ByteArray) (L : Nat) (Y : BitVec 32) (b : NxBody q N bd r L Y) (c4 : Y.toNat = L) :
    Calls Tryd.prog 24 #[.string s, .int .i64 (a : Int)] w fun e w' => e = .returned (nxEnd a (nxAt (s.data.toList.drop a))) ∧ Below w.heap.size w w' := by
  have HE : Hid (nxAt (s.data.toList.drop a) = (bd.data.toList, 0)) := by
    show _ = _
    rw [k.nx, if_neg (by omega), if_neg (by omega), ← b.bl, ← b.hL2, ← b.hY, if_neg (by omega)]
  have z8 := k.z8
  have zs := k.zs
  have t1 : ((q.size : Int) == 0) = false := by rw [beq_eq_false_iff_ne]; omega
  have t2 : ¬ (q.size : Int) < 8 := by omega
  have b4 : (4 : Int) ≤ (q.size : Int) := by omega
  have b8 : (8 : Int) ≤ (q.size : Int) := by omega
  have e := k.e
  have e4 := k.e4
  obtain ⟨q8, e8⟩ : ∃ q8, q.extract 4 8 = q8 := ⟨_, rfl⟩
  obtain ⟨P, hP⟩ : ∃ P, P = fourS X.toNat := ⟨_, rfl⟩
  have h5l : q5.data.toList = q.data.toList.drop 4 := by rw [← k.e5, rest_data']
  have hcmp : (P.toList == q8.toList) = true := by
    rw [four_test (X := X) (r := q5.data.toList) (by have := k.z5; simp; omega) (by rw [← e8, Lib.extract_data, h5l]) hP, ← k.hM]
    exact decide_eq_true c1
  have HP := Lib.hid hP
  have HX := fun (v : World) => Lib.hid (rsum_any q4 v (by have := k.z4; unfold maxLen; omega))
  rw [← k.hX] at HX
  have HN := Lib.hid k.hN
  have t3 : ¬ (1048576 : Int) < (N : Int) := by omega
  have t4 : ¬ (q.size : Int) - 8 < (N : Int) + 4 := by omega
  have t5 : (8 : Int) + (N : Int) ≤ (q.size : Int) := by omega
  have t6 : (12 : Int) + (N : Int) ≤ (q.size : Int) := by omega
  have t7 : (8 : Int) + (N : Int) ≤ 12 + (N : Int) := by omega
  have e6 := b.e6
  obtain ⟨r4, e9⟩ : ∃ r4, q.extract (8 + N) (12 + N) = r4 := ⟨_, rfl⟩
  obtain ⟨P2, hP2⟩ : ∃ P2, P2 = fourS Y.toNat := ⟨_, rfl⟩
  have hcmp2 : (P2.toList == r4.toList) = true := by
    rw [four_test (X := Y) (r := q.data.toList.drop (8 + N)) (by simp; omega) (by rw [← e9, Lib.extract_data, show 12 + N - (8 + N) = 4 by omega]) hP2, ← b.hL2]
    exact decide_eq_true c4
  have HP2 := Lib.hid hP2
  have HY := fun (v : World) => Lib.hid (rsum_any bd v (by have := b.zb; unfold maxLen; omega))
  rw [← b.hY] at HY
  have HZB := Lib.hid b.zb
  clear hP h5l k c1 c3 c4 b hP2
  have B0 : Hid (Below w.heap.size w w) := Lib.hid (Below.refl _ _)
  go_enter Tryd.func24, Tryd.ntmps24
  go_wp2_with (fail)
  go_region_held3 (fun w' => Hid (Below w.heap.size w w')) (first | assumption | exact keep_drew (by assumption))
    (first | (go_at_call 12; refine (HX _).out.mono ?_; rintro e w' ⟨rfl, rfl⟩) | (go_at_call 40; refine (four_keep (by assumption) X P HP).mono ?_; rintro e w' ⟨rfl, hB⟩))
  have n3 := q[3].toNat_lt
  have n2 := q[2].toNat_lt
  have n1 := q[1].toNat_lt
  have n0 := q[0].toNat_lt
  have HNN : Hid (((((q[3].toNat : Int) * (256 : Int) + (q[2].toNat : Int)) * (256 : Int) + (q[1].toNat : Int)) * (256 : Int) + (q[0].toNat : Int)) = (N : Int)) := by
    have h := un4_horner q (by omega)
    rw [← HN.out] at h
    show _ = _
    omega
  go_wp2
  go_loop [8, 9] (fun nv i => (i = .int .i64 3 ∧ nv = .int .i64 0) ∨ (i = .int .i64 2 ∧ nv = .int .i64 (q[3].toNat : Int)) ∨ (i = .int .i64 1 ∧ nv = .int .i64 ((q[3].toNat : Int) * (256 : Int) + (q[2].toNat : Int))) ∨ (i = .int .i64 0 ∧ nv = .int .i64 (((q[3].toNat : Int) * (256 : Int) + (q[2].toNat : Int)) * (256 : Int) + (q[1].toNat : Int))) ∨ (i = .int .i64 (-1) ∧ nv = .int .i64 (N : Int))) (fun _ i => (intOf i + 1).toNat)
  case atStart => exact .inl ⟨rfl, rfl⟩
  case round =>
    rcases hrel with ⟨rfl, rfl⟩ | ⟨rfl, rfl⟩ | ⟨rfl, rfl⟩ | ⟨rfl, rfl⟩ | ⟨rfl, rfl⟩
    · go_wp2
      go_round
      case rel => exact .inr (.inl ⟨rfl, rfl⟩)
      case measure => simp [intOf]
    · go_wp2
      go_round
      case rel => exact .inr (.inr (.inl ⟨rfl, rfl⟩))
      case measure => simp [intOf]
    · go_wp2
      go_round
      case rel => exact .inr (.inr (.inr (.inl ⟨rfl, rfl⟩)))
      case measure => simp [intOf]
    · go_wp2
      go_round
      case rel => exact .inr (.inr (.inr (.inr ⟨rfl, by rw [← HNN.out]⟩)))
      case measure => simp [intOf]
    · clear n0 n1 n2 n3
      go_wp2_with (fail)
      have s0 : (0 : Int) ≤ 8 + (N : Int) := by omega
      have s1 : (0 : Int) ≤ 12 + (N : Int) := by omega
      have s2 : ((8 : Int) + (N : Int)).toNat = 8 + N := by omega
      have s3 : ((12 : Int) + (N : Int)).toNat = 12 + N := by omega
      have s4 : IntKind.i64.wrap ((8 : Int) + (N : Int)) = 8 + (N : Int) := IntWalk.i64_in _ (by omega)
      have s5 : IntKind.i64.wrap ((12 : Int) + (N : Int)) = 12 + (N : Int) := IntWalk.i64_in _ (by omega)
      go_region_held3 (fun w' => Hid (Below w.heap.size w w')) (first | assumption | exact keep_drew (by assumption))
        (first | (go_at_call 12; refine (HY _).out.mono ?_; rintro e w' ⟨rfl, rfl⟩) | (go_at_call 40; refine (four_keep (by assumption) Y P2 HP2).mono ?_; rintro e w' ⟨rfl, hB⟩))
      go_wp2
      go_ret3
      refine ⟨?_, Hid.out (by assumption)⟩
      rw [HE.out]
      unfold nxEnd nxVal
      simp only [if_true]
      have hz : bd.data.toList.length = N := by rw [← HZB.out]; simp
      rw [hz]
      have hbd : (⟨bd.data.toList.toArray⟩ : ByteArray) = bd := by simp
      rw [hbd]
      rfl
theorem rnext_any (s : ByteArray) (a : Nat) (w : World) (ha : a ≤ s.size) (hs : s.size ≤ 140737488351232) :
    Calls Tryd.prog 24 #[.string s, .int .i64 (a : Int)] w fun e w' => e = .returned (nxEnd a (nxAt (s.data.toList.drop a))) ∧ Below w.heap.size w w' := by
  by_cases h8 : s.size - a < 8
  · refine (rnext_short s a w ha h8).mono ?_
    rintro e w' ⟨rfl, rfl⟩
    refine ⟨?_, Below.refl _ _⟩
    have hl : (s.data.toList.drop a).length = s.size - a := by simp
    unfold nxAt
    by_cases h0 : a = s.size
    · have hnil : s.data.toList.drop a = [] := List.eq_nil_of_length_eq_zero (by omega)
      rw [if_pos h0, if_pos hnil]
      rfl
    · rw [if_neg h0, if_neg (by intro e; rw [e] at hl; simp at hl; omega), if_pos (by omega)]
      rfl
  · obtain ⟨q, q4, q5, N, M, X, k⟩ := nx_set s a ha hs (by omega)
    by_cases c1 : X.toNat = M
    · by_cases c2 : 1048576 < N
      · exact rnext_c s a q q4 q5 N M X w ha hs k c1 c2
      · by_cases c4 : q.size < N + 12
        · exact rnext_b s a q q4 q5 N M X w ha hs k c1 c2 c4
        · obtain ⟨bd, r, L, Y, b⟩ := nx_body q N (by omega)
          by_cases c5 : Y.toNat = L
          · exact rnext_e s a q q4 q5 N M X w ha hs k c1 c2 (by omega) bd r L Y b c5
          · exact rnext_d s a q q4 q5 N M X w ha hs k c1 c2 (by omega) bd r L Y b c5
    · exact rnext_a s a q q4 q5 N M X w ha hs k c1
end Go.Proofs.YteengjmjbfgkeaaDoor
