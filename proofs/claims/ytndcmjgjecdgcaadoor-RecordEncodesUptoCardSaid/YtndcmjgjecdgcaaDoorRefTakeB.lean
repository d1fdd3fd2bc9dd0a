/- The contracts of the reference's TakeText, TakeBool and End. -/
import Derived.Test.YtndcmjgjecdgcaaDoorRefTake
namespace Go.Proofs.YtndcmjgjecdgcaaDoor
open Go.RowKit

theorem RefIs.raw {w : World} {d : Nat} {l : List UInt8} {er : Int} (h : RefIs w d l er) :
    l.length ≤ 140737488351232 ∧ w.cell? ⟨d, 0, none⟩ = some (.string (S l)) ∧ w.cell? ⟨d, 1, none⟩ = some (.int .i64 er) ∧ w.frozen? ⟨d, 0, none⟩ = false ∧ w.frozen? ⟨d, 1, none⟩ = false := h.2

set_option maxHeartbeats 4000000 in
theorem rtake_text (d : Nat) (l : List UInt8) (er : Int) (w : World) (hR : RefIs w d l er) :
    Calls Tryd.prog 33 #[.pointer (some ⟨d, 0, none⟩)] w fun e w' => e = .returned (.string (S (Wire.tText l er).1)) ∧ RefIs w' d (Wire.tText l er).2.1 (Wire.tText l er).2.2 ∧ w.grownBy w' (some d) := by
  have HR := Lib.hid hR
  clear hR
  obtain ⟨n, l1, e1, hti⟩ : ∃ n l1 e1, Wire.tInt l er = (n, l1, e1) := ⟨_, _, _, rfl⟩
  have htt : Wire.tText l er = (if e1 ≠ 0 then ([], l1, e1) else if n < 0 then ([], l1, 21) else if 1048576 < n then ([], l1, 1) else if (l1.length : Int) < n then ([], l1, 20) else (l1.take n.toNat, l1.drop n.toNat, 0)) := by
    unfold Wire.tText; rw [hti]
  have HTI := Lib.hid hti
  have HTT := Lib.hid htt
  clear hti htt
  go_enter Tryd.func33, Tryd.ntmps33
  go_wp2_with (fail)
  refine (rtake_int d l er _ HR.out).mono ?_
  rw [HTI.out]
  rintro e w1 ⟨rfl, hR1', hg1⟩
  have hR1 : RefIs w1 d l1 e1 := hR1'
  clear hR1'
  have HR1 := Lib.hid hR1
  have HG := Lib.hid hg1
  obtain ⟨hlm, c0, c1, f0, f1⟩ := hR1.raw
  obtain ⟨q, hq⟩ : ∃ q, q = S l1 := ⟨_, rfl⟩
  have hqs : q.size = l1.length := by rw [hq, S_size]
  rw [← hq] at c0
  clear hR1 hg1 HR
  by_cases he : e1 = 0
  · subst he
    rw [if_neg (by simp)] at HTT
    by_cases hn : n < 0
    · rw [if_pos hn] at HTT
      clear hqs hlm hq
      go_wp2
      go_ret
      exact ⟨by rw [HTT.out]; rfl, by rw [HTT.out]; exact HR1.out.err 21, grown_trans' HG.out (grown_set _ _ _ _)⟩
    · rw [if_neg hn] at HTT
      by_cases hb : 1048576 < n
      · rw [if_pos hb] at HTT
        clear hqs hlm hq
        go_wp2
        go_ret
        exact ⟨by rw [HTT.out]; rfl, by rw [HTT.out]; exact HR1.out.err 1, grown_trans' HG.out (grown_set _ _ _ _)⟩
      · rw [if_neg hb] at HTT
        by_cases hc : (l1.length : Int) < n
        · rw [if_pos hc] at HTT
          have hc' : (q.size : Int) < n := by omega
          clear hc hqs hlm hq
          go_wp2
          go_ret
          exact ⟨by rw [HTT.out]; rfl, by rw [HTT.out]; exact HR1.out.err 20, grown_trans' HG.out (grown_set _ _ _ _)⟩
        · rw [if_neg hc] at HTT
          obtain ⟨m, rfl⟩ : ∃ m : Nat, n = m := ⟨n.toNat, by omega⟩
          rw [Int.toNat_natCast] at HTT
          have hmq : m ≤ q.size := by omega
          have hpart : Hid (q.extract 0 m = S (l1.take m)) := by show _ = _; rw [hq]; exact S_take l1 m
          have hrest : Hid (q.extract m q.size = S (l1.drop m)) := by show _ = _; rw [hq]; exact S_drop l1 m
          have hdm : (l1.drop m).length ≤ 140737488351232 := by rw [List.length_drop]; omega
          have HDM := Lib.hid hdm
          clear hc hn hqs hlm hq hdm
          go_wp2
          go_ret
          exact ⟨by rw [HTT.out, hpart.out]; rfl, by rw [HTT.out, hrest.out]; exact HR1.out.rest HDM.out, grown_trans' HG.out (grown_set _ _ _ _)⟩
  · rw [if_pos he] at HTT
    have t0 : (e1 != 0) = true := by simpa using he
    clear he hqs hlm hq
    go_wp2
    go_ret
    exact ⟨by rw [HTT.out]; rfl, by rw [HTT.out]; exact HR1.out, HG.out⟩


theorem rend_any (l : List UInt8) (er : Int) (w : World) :
    Calls Tryd.prog 34 #[.agg #[.string (S l), .int .i64 er]] w fun e w' => e = .returned (.int .i64 (Wire.tEnd l er)) ∧ Below w.heap.size w w' := by
  obtain ⟨q, hq⟩ : ∃ q, q = S l := ⟨_, rfl⟩
  rw [← hq]
  by_cases he : er = 0
  · subst he
    by_cases hn : l = []
    · have ht : Wire.tEnd l 0 = 0 := by unfold Wire.tEnd; rw [if_neg (by simp), if_pos hn]
      have t1 : (q.toList.isEmpty) = true := by rw [hq, toList_data, hn]; rfl
      have HT := Lib.hid ht
      clear ht hn hq
      go_enter Tryd.func34, Tryd.ntmps34
      go_wp2
      go_ret
      exact ⟨by rw [HT.out]; rfl, (Below.refl _ _).alloc (Nat.le_refl _) _⟩
    · have ht : Wire.tEnd l 0 = 22 := by unfold Wire.tEnd; rw [if_neg (by simp), if_neg hn]
      have t1 : (q.toList.isEmpty) = false := by
        rw [hq, toList_data, S_data]; cases l with
        | nil => exact absurd rfl hn
        | cons a r => rfl
      have HT := Lib.hid ht
      clear ht hn hq
      go_enter Tryd.func34, Tryd.ntmps34
      go_wp2
      go_ret
      exact ⟨by rw [HT.out]; rfl, (Below.refl _ _).alloc (Nat.le_refl _) _⟩
  · have ht : Wire.tEnd l er = er := by unfold Wire.tEnd; rw [if_pos he]
    have HT := Lib.hid ht
    have t0 : (er == 0) = false := by simpa using he
    clear ht he hq
    go_enter Tryd.func34, Tryd.ntmps34
    go_wp2
    go_ret
    exact ⟨by rw [HT.out]; rfl, (Below.refl _ _).alloc (Nat.le_refl _) _⟩
end Go.Proofs.YtndcmjgjecdgcaaDoor
