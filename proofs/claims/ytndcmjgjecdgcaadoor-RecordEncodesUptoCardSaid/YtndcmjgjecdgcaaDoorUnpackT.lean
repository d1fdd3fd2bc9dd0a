/- The contracts of wire.Unpack's Text, Bool and End. -/
import Derived.Test.YtndcmjgjecdgcaaDoorUnpackI
import Derived.WalkLawsBesides
namespace Go.Proofs.YtndcmjgjecdgcaaDoor
open Go.RowKit

def S (l : List UInt8) : ByteArray := ⟨l.toArray⟩
theorem S_data (l : List UInt8) : (S l).data.toList = l := rfl
theorem S_of {s : ByteArray} {l : List UInt8} (h : s.data.toList = l) : s = S l := by
  subst h; rfl
theorem toList_data (s : ByteArray) : s.toList = s.data.toList := ByteArray.toList_eq s
theorem S_size (l : List UInt8) : (S l).size = l.length := by show l.toArray.size = _; simp

/-- the state behind Int, as the walks of Text want it -/
theorem UnIs.cells {w : World} {u : Nat} {s : ByteArray} {l : List UInt8} {er : Int} (h : UnIs w u s l er) :
    ∃ a : Nat, a ≤ s.size ∧ Hid (l = s.data.toList.drop a) ∧ w.cell? ⟨u, 0, none⟩ = some (.string s) ∧ w.cell? ⟨u, 1, none⟩ = some (.int .i64 (a : Int)) ∧ w.cell? ⟨u, 2, none⟩ = some (.int .i64 er) ∧
    w.frozen? ⟨u, 1, none⟩ = false ∧ w.frozen? ⟨u, 2, none⟩ = false := h.2

theorem grown_of_below {w w' : World} {p : Option Nat} (h : Below w.heap.size w w') : w.grownBy w' p := ⟨h.os, h.tape, h.output, h.size, fun k hk _ => h.block k hk⟩
set_option maxHeartbeats 4000000 in
theorem utext_any (u : Nat) (s : ByteArray) (l : List UInt8) (er : Int) (w : World) (hs : s.size ≤ 140737488351232) (hU : UnIs w u s l er) :
    Calls Tryd.prog 30 #[.pointer (some ⟨u, 0, none⟩)] w fun e w' => e = .returned (.string (S (Wire.tText l er).1)) ∧ UnIs w' u s (Wire.tText l er).2.1 (Wire.tText l er).2.2 ∧ w.grownBy w' (some u) := by
  have HU := Lib.hid hU
  clear hU
  obtain ⟨n, l1, e1, hti⟩ : ∃ n l1 e1, Wire.tInt l er = (n, l1, e1) := ⟨_, _, _, rfl⟩
  have htt : Wire.tText l er = (if e1 ≠ 0 then ([], l1, e1) else if n < 0 then ([], l1, 21) else if 1048576 < n then ([], l1, 1) else if (l1.length : Int) < n then ([], l1, 20) else (l1.take n.toNat, l1.drop n.toNat, 0)) := by
    unfold Wire.tText; rw [hti]
  have HTI := Lib.hid hti
  have HTT := Lib.hid htt
  clear hti htt
  go_enter Tryd.func30, Tryd.ntmps30
  go_wp2_with (fail)
  refine (uint_any u s l er _ hs HU.out).mono ?_
  rw [HTI.out]
  rintro e w1 ⟨rfl, hU1', hg1⟩
  have hU1 : UnIs w1 u s l1 e1 := hU1'
  clear hU1'
  have HU1 := Lib.hid hU1
  have HG := Lib.hid hg1
  obtain ⟨a, ha, hl, c0, c1, c2, f1, f2⟩ := hU1.cells
  clear hU1 hg1 HU
  by_cases he : e1 = 0
  · subst he
    rw [if_neg (by simp)] at HTT
    have hlen : l1.length = s.size - a := by rw [hl.out, List.length_drop]; simp
    by_cases hn : n < 0
    · rw [if_pos hn] at HTT
      clear hlen
      go_wp2_with (go_at_call 38; refine (stopped_raw _ _ _ c2).mono ?_; rintro e w' ⟨rfl, rfl⟩)
      go_quiet (fail)
      go_wp2
      go_ret
      exact ⟨by rw [HTT.out]; rfl, by rw [HTT.out]; exact (HU1.out.drewN _).err 21, grown_trans' HG.out (grown_drew_set _ _ _ _ _)⟩
    · rw [if_neg hn] at HTT
      by_cases hb : 1048576 < n
      · rw [if_pos hb] at HTT
        clear hlen
        go_wp2_with (go_at_call 38; refine (stopped_raw _ _ _ c2).mono ?_; rintro e w' ⟨rfl, rfl⟩)
        go_quiet (fail)
        go_wp2
        go_ret
        exact ⟨by rw [HTT.out]; rfl, by rw [HTT.out]; exact (HU1.out.drewN _).err 1, grown_trans' HG.out (grown_drew_set _ _ _ _ _)⟩
      · rw [if_neg hb] at HTT
        by_cases hc : (l1.length : Int) < n
        · rw [if_pos hc] at HTT
          have hc' : ((s.size - a : Nat) : Int) < n := by omega
          clear hlen hc
          go_wp2_with (go_at_call 38; refine (stopped_raw _ _ _ c2).mono ?_; rintro e w' ⟨rfl, rfl⟩)
          go_quiet (fail)
          go_wp2
          go_ret
          exact ⟨by rw [HTT.out]; rfl, by rw [HTT.out]; exact (HU1.out.drewN _).err 20, grown_trans' HG.out (grown_drew_set _ _ _ _ _)⟩
        · rw [if_neg hc] at HTT
          obtain ⟨m, rfl⟩ : ∃ m : Nat, n = m := ⟨n.toNat, by omega⟩
          rw [Int.toNat_natCast] at HTT
          have hma : a + m ≤ s.size := by omega
          have hmr : m ≤ s.size - a := by omega
          have hpart : (s.extract a s.size).extract 0 m = S (l1.take m) := S_of (by
            rw [Lib.extract_data, rest_data, ← hl.out]; simp)
          have hps : (S (l1.take m)).size ≤ 281474976710656 := by rw [S_size, List.length_take]; omega
          have hdd : s.data.toList.drop (a + m) = l1.drop m := by rw [hl.out, List.drop_drop]
          have HD := Lib.hid hdd
          have HPS := Lib.hid hps
          have HPART := Lib.hid hpart
          clear hlen hc hn hdd hps hpart
          go_wp2_with (go_at_call 38; refine (stopped_raw _ _ _ c2).mono ?_; rintro e w' ⟨rfl, rfl⟩)
          go_quiet (fail)
          go_wp2_with (fail)
          have HU2 := Lib.hid ((HU1.out.drewN nq).move hma)
          have HG2 := Lib.hid (grown_trans' HG.out (grown_drew_set w1 nq u 1 (.int .i64 ((a + m : Nat) : Int))))
          rw [HPART.out]
          refine (clone_any _ _ HPS.out).mono ?_
          rintro e w2 ⟨rfl, hb2⟩
          have HU3 := Lib.hid (HU2.out.below hb2 (Nat.le_refl _))
          have HG3 := Lib.hid (grown_trans' HG2.out (grown_of_below hb2))
          clear hb2 HU2 HG2
          go_wp2
          go_ret
          exact ⟨by rw [HTT.out]; rfl, by rw [HTT.out]; have := HU3.out; rw [HD.out] at this; exact this, HG3.out⟩
  · rw [if_pos he] at HTT
    have t0 : (e1 != 0) = true := by simpa using he
    clear he
    go_wp2_with (go_at_call 38; refine (stopped_raw _ _ _ c2).mono ?_; rintro e w' ⟨rfl, rfl⟩)
    go_ret
    exact ⟨by rw [HTT.out]; rfl, by rw [HTT.out]; exact HU1.out, HG.out⟩

theorem cast_one (n : Nat) : ((n : Int) == 1) = (n == 1) := by rw [Bool.eq_iff_iff]; simp; omega
set_option maxHeartbeats 4000000 in
theorem uend_any (u : Nat) (s : ByteArray) (l : List UInt8) (er : Int) (w : World) (hs : s.size ≤ 140737488351232) (hU : UnIs w u s l er) :
    Calls Tryd.prog 31 #[.pointer (some ⟨u, 0, none⟩)] w fun e w' => e = .returned (.int .i64 (Wire.tEnd l er)) ∧ ∃ n, w' = w.drewN n := by
  obtain ⟨a, ha, hl, c0, c1, c2, f1, f2⟩ := hU.cells
  have hlen : l.length = s.size - a := by rw [hl.out, List.length_drop]; simp
  clear hU
  by_cases he : er = 0
  · subst he
    by_cases hn : a < s.size
    · have ht : Wire.tEnd l 0 = 22 := by
        unfold Wire.tEnd; rw [if_neg (by simp), if_neg]; intro e; rw [e] at hlen; simp at hlen; omega
      have HT := Lib.hid ht
      clear ht hlen
      go_enter Tryd.func31, Tryd.ntmps31
      go_wp2
      go_quiet (fail)
      go_wp2
      go_ret
      exact ⟨by rw [HT.out]; rfl, _, rfl⟩
    · have ht : Wire.tEnd l 0 = 0 := by
        unfold Wire.tEnd; rw [if_neg (by simp), if_pos]; exact List.eq_nil_of_length_eq_zero (by omega)
      have HT := Lib.hid ht
      clear ht hlen
      go_enter Tryd.func31, Tryd.ntmps31
      go_wp2
      go_quiet (fail)
      go_wp2
      go_ret
      exact ⟨by rw [HT.out]; rfl, _, rfl⟩
  · have ht : Wire.tEnd l er = er := by unfold Wire.tEnd; rw [if_pos he]
    have HT := Lib.hid ht
    have t0 : (er != 0) = true := by simpa using he
    clear ht he hlen
    go_enter Tryd.func31, Tryd.ntmps31
    go_wp2
    go_ret
    exact ⟨by rw [HT.out]; rfl, 0, rfl⟩

theorem uint_nil (w : World) : Calls Tryd.prog 27 #[.pointer none] w fun e w' => e = .returned (.int .i64 0) ∧ w = w' := by
  go_enter Tryd.func27, Tryd.ntmps27
  go_wp2_with (go_at_call 38; refine (stopped_nil _).mono ?_; rintro e w' ⟨rfl, rfl⟩)
  go_ret
  exact ⟨rfl, rfl⟩
theorem utext_nil (w : World) : Calls Tryd.prog 30 #[.pointer none] w fun e w' => e = .returned (.string ⟨#[]⟩) ∧ w = w' := by
  go_enter Tryd.func30, Tryd.ntmps30
  go_wp2_with (first | (go_at_call 27; refine (uint_nil _).mono ?_; rintro e w' ⟨rfl, rfl⟩) | (go_at_call 38; refine (stopped_nil _).mono ?_; rintro e w' ⟨rfl, rfl⟩))
  go_ret
  exact ⟨rfl, rfl⟩
theorem uend_nil (w : World) : Calls Tryd.prog 31 #[.pointer none] w fun e w' => e = .returned (.int .i64 2) ∧ w = w' := by
  go_enter Tryd.func31, Tryd.ntmps31
  go_wp2
  go_ret
  exact ⟨rfl, rfl⟩
end Go.Proofs.YtndcmjgjecdgcaaDoor
