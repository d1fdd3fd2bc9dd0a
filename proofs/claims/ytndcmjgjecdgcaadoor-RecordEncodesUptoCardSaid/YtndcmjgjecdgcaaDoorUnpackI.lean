/- The contract of wire.Unpack's Int. -/
import Derived.Test.YtndcmjgjecdgcaaDoorUnpack
import Derived.Test.YtndcmjgjecdgcaaDoorQuiet
import Derived.Test.YtndcmjgjecdgcaaDoorLawEnd
namespace Go.Proofs.YtndcmjgjecdgcaaDoor
open Go.RowKit

theorem rest_data (s : ByteArray) (a : Nat) : (s.extract a s.size).data.toList = s.data.toList.drop a := by
  rw [Lib.extract_data, List.take_of_length_le]
  simp
theorem read_ok {s : ByteArray} {v n : Nat} (w : World) (hs : s.size ≤ 140737488351232) (h : Wire.rd s.data.toList = .ok v n) :
    Calls Tryd.prog 39 #[.string s] w fun e w' => e = .returned (.tuple #[.int .u64 (v : Int), .int .i64 (n : Int), .int .i64 0]) ∧ w = w' := by
  have := read_any s w hs
  rwa [h] at this
theorem read_short {s : ByteArray} (w : World) (hs : s.size ≤ 140737488351232) (h : Wire.rd s.data.toList = .short) :
    Calls Tryd.prog 39 #[.string s] w fun e w' => e = .returned (.tuple #[.int .u64 0, .int .i64 0, .int .i64 20]) ∧ w = w' := by
  have := read_any s w hs
  rwa [h] at this
theorem read_wrong {s : ByteArray} (w : World) (hs : s.size ≤ 140737488351232) (h : Wire.rd s.data.toList = .wrong) :
    Calls Tryd.prog 39 #[.string s] w fun e w' => e = .returned (.tuple #[.int .u64 0, .int .i64 0, .int .i64 21]) ∧ w = w' := by
  have := read_any s w hs
  rwa [h] at this

theorem grown_drew_set (w : World) (n u j : Nat) (v : Value) : w.grownBy ((w.drewN n).setCell ⟨u, j, none⟩ v) (some u) := grown_after ((below_drewN (Below.refl _ _) n)) (grown_set _ _ _ _)
theorem half_wrap {v : Nat} (hv : v < 2 ^ 64) : wrap64 ((v : Int) / 2) = (v : Int) / 2 := by
  rw [IntWalk.wrap64_in _ ⟨by omega, by omega⟩]
theorem half_not {v : Nat} (hv : v < 2 ^ 64) : bits BinOp.xor IntKind.i64 (-1) ((v : Int) / 2) = -1 - (v : Int) / 2 := by
  have h := i64_not (v / 2) (by omega)
  have e : ((v / 2 : Nat) : Int) = (v : Int) / 2 := by omega
  rw [e] at h
  exact h
theorem low_bit {v : Nat} (hv : v < 2 ^ 64) : (bits BinOp.and IntKind.u64 (v : Int) 1 == 1) = decide (v % 2 = 1) := by
  have e1 : (1 : Int) = ((1 : Nat) : Int) := rfl
  have h := u64_and_nat v 1 (by omega) (by decide)
  rw [e1, h, Nat.and_one_is_mod]
  by_cases h1 : v % 2 = 1
  · rw [h1]; rfl
  · have : v % 2 = 0 := by omega
    rw [this]; rfl
theorem zag_odd {v : Nat} (h : v % 2 = 1) : Ending.returned (.int .i64 (-1 - (v : Int) / 2)) = .returned (.int .i64 (Wire.zag v)) := by
  unfold Wire.zag; rw [if_pos h]; congr 2; omega
theorem zag_even {v : Nat} (h : ¬ v % 2 = 1) : Ending.returned (.int .i64 ((v : Int) / 2)) = .returned (.int .i64 (Wire.zag v)) := by
  unfold Wire.zag; rw [if_neg h]; congr 2
theorem zag_even' {v : Nat} (hv : v < 2 ^ 64) (h : ¬ v % 2 = 1) : Ending.returned (.int .i64 (wrap64 ((v : Int) / 2))) = .returned (.int .i64 (Wire.zag v)) := by
  rw [half_wrap hv]; exact zag_even h
set_option maxHeartbeats 4000000 in
theorem uint_any (u : Nat) (s : ByteArray) (l : List UInt8) (er : Int) (w : World) (hs : s.size ≤ 140737488351232) (hU : UnIs w u s l er) :
    Calls Tryd.prog 27 #[.pointer (some ⟨u, 0, none⟩)] w fun e w' => e = .returned (.int .i64 (Wire.tInt l er).1) ∧ UnIs w' u s (Wire.tInt l er).2.1 (Wire.tInt l er).2.2 ∧ w.grownBy w' (some u) := by
  have HU := Lib.hid hU
  obtain ⟨hu, a, ha, hl, c0, c1, c2, f1, f2⟩ := hU
  by_cases he : er = 0
  · subst he
    have hd := rest_data s a
    have hes : (s.extract a s.size).size ≤ 140737488351232 := by rw [ByteArray.size_extract]; omega
    rw [← hl] at hd
    have HES := Lib.hid hes
    cases hr : Wire.rd l with
    | short =>
      have ht : Wire.tInt l 0 = (0, l, 20) := by unfold Wire.tInt; rw [if_neg (by simp), hr]
      have HR := Lib.hid (show Wire.rd (s.extract a s.size).data.toList = .short by rw [hd]; exact hr)
      have HT := Lib.hid ht
      clear hd hr ht hl hes
      go_enter Tryd.func27, Tryd.ntmps27
      go_wp2_with (go_at_call 38; refine (stopped_raw _ _ _ c2).mono ?_; rintro e w' ⟨rfl, rfl⟩)
      go_quiet ((go_at_call 39; exact quiet_left (read_short _ HES.out HR.out)))
      go_wp2
      go_ret
      exact ⟨by rw [HT.out]; rfl, by rw [HT.out]; exact (HU.out.drewN nq).err 20, grown_drew_set _ _ _ _ _⟩
    | wrong =>
      have ht : Wire.tInt l 0 = (0, l, 21) := by unfold Wire.tInt; rw [if_neg (by simp), hr]
      have HR := Lib.hid (show Wire.rd (s.extract a s.size).data.toList = .wrong by rw [hd]; exact hr)
      have HT := Lib.hid ht
      clear hd hr ht hl hes
      go_enter Tryd.func27, Tryd.ntmps27
      go_wp2_with (go_at_call 38; refine (stopped_raw _ _ _ c2).mono ?_; rintro e w' ⟨rfl, rfl⟩)
      go_quiet ((go_at_call 39; exact quiet_left (read_wrong _ HES.out HR.out)))
      go_wp2
      go_ret
      exact ⟨by rw [HT.out]; rfl, by rw [HT.out]; exact (HU.out.drewN nq).err 21, grown_drew_set _ _ _ _ _⟩
    | ok v n =>
      obtain ⟨hv, hn0, hn10, hnl⟩ := Wire.rd_ok hr
      have ht : Wire.tInt l 0 = (Wire.zag v, l.drop n, 0) := by unfold Wire.tInt; rw [if_neg (by simp), hr]
      have HR := Lib.hid (show Wire.rd (s.extract a s.size).data.toList = .ok v n by rw [hd]; exact hr)
      have HT := Lib.hid ht
      have hlen : l.length = s.size - a := by rw [hl, List.length_drop]; simp
      have han : a + n ≤ s.size := by omega
      have hdd : s.data.toList.drop (a + n) = l.drop n := by rw [hl, List.drop_drop]
      have HD := Lib.hid hdd
      have HV := Lib.hid hv
      have hw := half_wrap hv
      have hx := half_not hv
      have hb := low_bit hv
      clear hd hr ht hl hes hv hlen hdd
      by_cases ho : v % 2 = 1
      · have hb1 : (bits BinOp.and IntKind.u64 (v : Int) 1 == 1) = true := by rw [hb]; simpa using ho
        have HO := Lib.hid ho
        clear hb ho
        go_enter Tryd.func27, Tryd.ntmps27
        go_wp2_with (go_at_call 38; refine (stopped_raw _ _ _ c2).mono ?_; rintro e w' ⟨rfl, rfl⟩)
        go_quiet ((go_at_call 39; exact quiet_left (read_ok _ HES.out HR.out)))
        go_wp2
        go_ret
        exact ⟨by rw [HT.out]; exact zag_odd HO.out, by rw [HT.out]; have := (HU.out.drewN nq).move han; rw [HD.out] at this; exact this, grown_drew_set _ _ _ _ _⟩
      · have hb1 : (bits BinOp.and IntKind.u64 (v : Int) 1 == 1) = false := by rw [hb]; simpa using ho
        have HO := Lib.hid ho
        clear hb ho
        go_enter Tryd.func27, Tryd.ntmps27
        go_wp2_with (go_at_call 38; refine (stopped_raw _ _ _ c2).mono ?_; rintro e w' ⟨rfl, rfl⟩)
        go_quiet ((go_at_call 39; exact quiet_left (read_ok _ HES.out HR.out)))
        go_wp2
        go_ret
        exact ⟨by rw [HT.out]; first | exact zag_even HO.out | exact zag_even' HV.out HO.out, by rw [HT.out]; have := (HU.out.drewN nq).move han; rw [HD.out] at this; exact this, grown_drew_set _ _ _ _ _⟩
  · have ht : Wire.tInt l er = (0, l, er) := by unfold Wire.tInt; rw [if_pos he]
    have t0 : (er != 0) = true := by simpa using he
    have HT := Lib.hid ht
    clear ht he hl
    go_enter Tryd.func27, Tryd.ntmps27
    go_wp2_with (go_at_call 38; refine (stopped_raw _ _ _ c2).mono ?_; rintro e w' ⟨rfl, rfl⟩)
    go_ret
    exact ⟨by rw [HT.out]; rfl, by rw [HT.out]; exact HU.out, grown_refl _ _⟩
end Go.Proofs.YtndcmjgjecdgcaaDoor
