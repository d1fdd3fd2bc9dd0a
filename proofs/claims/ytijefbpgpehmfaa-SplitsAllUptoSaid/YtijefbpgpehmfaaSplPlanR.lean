/- The reference's Plan: the same row of places. -/
import Derived.Test.YtijefbpgpehmfaaSplPlan
namespace Go.Proofs.Ytijefbpgpehmfaa
open Go.RowKit

theorem infoIntP : (Try.prog.info? 3).map (fun i => (i.zero, i.size, i.bytes)) = some (some (.int .i64 0), 1, 8) := by kernel_rfl
set_option maxHeartbeats 1000000 in
theorem rplan_no (n want : Int) (w : World) (hn : n < 1) :
    Calls Try.prog 9 #[.int .i64 n, .int .i64 want] w fun e w' => e = .returned (.slice none 0 0) ∧ w' = w := by
  go_enter Try.func9, Try.ntmps9
  go_wp2
  go_ret
  exact ⟨rfl, rfl⟩
/-- behind one more round of the reference's -/
theorem rpl_next {w wr w2 : World} {B n W k a : Nat} {o : Obj} {v v' : Value} {e : TypeId} {x : Int} (hB : B = w.heap.size) (h : k + 1 ≤ plK n W ∧ wr.ownsRow B e 1 v (2 * k) (plRow n W k) ∧ Below B w wr) (ha : a = k * W) (hW : 1 ≤ W) (hn : 1 ≤ n) (hlt : a + W < n)
    (hx : x = ((a + W : Nat) : Int)) (hown : w2.ownsRow B e 1 v' (2 * k + 2) (plRow n W k ++ [.int .i64 (a : Int), .int .i64 x])) (hg : (wr.alloc o).grownBy w2 v.ownBlock) :
    k + 1 + 1 ≤ plK n W ∧ w2.ownsRow B e 1 v' (2 * (k + 1)) (plRow n W (k + 1)) ∧ Below B w w2 := by
  have e1 : (k + 1) * W = a + W := by rw [ha, Nat.add_mul]; omega
  refine ⟨(pl_lt n W (k + 1) hW hn).2 (by omega), ?_, pl_step h.2.2 (by omega) h.2.1 hg⟩
  rw [plRow_succ, e1, show min (a + W) n = a + W by omega, ← hx, ← ha]
  exact hown
/-- the last of the reference's -/
theorem rpl_last {w wr w2 : World} {B n W k a : Nat} {o : Obj} {v v' : Value} {e : TypeId} (hB : B = w.heap.size) (h : k + 1 ≤ plK n W ∧ wr.ownsRow B e 1 v (2 * k) (plRow n W k) ∧ Below B w wr) (ha : a = k * W) (hW : 1 ≤ W) (hn : 1 ≤ n) (hlt : ¬ a + W < n)
    (hown : w2.ownsRow B e 1 v' (2 * k + 2) (plRow n W k ++ [.int .i64 (a : Int), .int .i64 (n : Int)])) (hg : (wr.alloc o).grownBy w2 v.ownBlock) :
    w2.ownsRow B e 1 v' (2 * plK n W) (plRow n W (plK n W)) ∧ Below B w w2 := by
  have e1 : (k + 1) * W = a + W := by rw [ha, Nat.add_mul]; omega
  have hK : plK n W = k + 1 := by
    have h1 := h.1
    rcases Nat.lt_or_ge (k + 1) (plK n W) with h2 | h2
    · have := (pl_lt n W (k + 1) hW hn).1 h2
      omega
    · omega
  refine ⟨?_, pl_step h.2.2 (by omega) h.2.1 hg⟩
  rw [hK, plRow_succ, e1, show min (a + W) n = n by omega, ← ha]
  exact hown
set_option maxRecDepth 100000 in
set_option maxHeartbeats 8000000 in
theorem rplan_any (n : Nat) (want : Int) (hn : 1 ≤ n) (hn1 : n ≤ 140737488351232) (hw : want ≤ 9223372036854775807) (w : World) :
    Calls Try.prog 9 #[.int .i64 (n : Int), .int .i64 want] w (PlanPost w w.heap.size 3 1 n (2 * plK n (plW n want)) (plRow n (plW n want) (plK n (plW n want)))) := by
  obtain ⟨i0, hi, hz0, hz1, hz2⟩ := info_parts infoIntP
  obtain ⟨B, hB⟩ : ∃ B, B = w.heap.size := ⟨_, rfl⟩
  obtain ⟨W, hW⟩ : ∃ W, plW n want = W := ⟨_, rfl⟩
  rw [hW, ← hB]
  have HB := Lib.hid hB
  have hWp : 1 ≤ W := by rw [← hW]; exact plW_pos n want
  have hWb : W ≤ 9223372036854775807 := by rw [← hW]; unfold plW; omega
  have hWv : (n : Int) % 256 = 0 ∧ max (max want 1) ((n : Int) / 256) = (W : Int) ∨ (n : Int) % 256 ≠ 0 ∧ max (max want 1) ((n : Int) / 256 + 1) = (W : Int) := by rw [← hW]; unfold plW; omega
  have HKM : Hid (plK n W ≤ 256) := Lib.hid (by rw [← hW]; exact plK_le n want hn)
  clear hW hB
  rcases hWv with ⟨m0, hWv⟩ | ⟨m0, hWv⟩
  all_goals
    have HWV := Lib.hid hWv
    clear hWv
    go_enter Try.func9, Try.ntmps9
    go_wp2
    all_goals
      first
        | (have e : Value.int .i64 1 = Value.int .i64 (W : Int) := by (have h9 := HWV.out; congr 1; omega)
           simp only [e])
        | (have e : Value.int .i64 ((n : Int) / 256) = Value.int .i64 (W : Int) := by (have h9 := HWV.out; congr 1; omega)
           simp only [e])
        | (have e : Value.int .i64 ((n : Int) / 256 + 1) = Value.int .i64 (W : Int) := by (have h9 := HWV.out; congr 1; omega)
           simp only [e])
        | (have e : Value.int .i64 want = Value.int .i64 (W : Int) := by (have h9 := HWV.out; congr 1; omega)
           simp only [e])
      clear e
      try generalize (n : Int) % 256 = r1
      try generalize (r1 != 0) = r3
      try generalize decide (want < 1) = r2
      try generalize decide (1 < (n : Int) / 256) = r4
      try generalize decide (want < (n : Int) / 256) = r5
      try generalize decide (1 < (n : Int) / 256 + 1) = r6
      try generalize decide (want < (n : Int) / 256 + 1) = r7
      go_loopw [5, 7] (fun v i wr => ∃ k : Nat, i = .int .i64 ((k * W : Nat) : Int) ∧ Hid (k + 1 ≤ plK n W ∧ wr.ownsRow B 3 1 v (2 * k) (plRow n W k) ∧ Below B w wr)) (fun _ i _ => n - (intOf i).toNat)
      case atStart => exact ⟨0, by simp, Lib.hid ⟨by unfold plK; exact Nat.le_add_left 1 _, World.ownsRow_nil _ _ _ _, Below.refl _ _⟩⟩
      case round =>
        obtain ⟨k, rfl, HI⟩ := hrel
        obtain ⟨a, ha⟩ : ∃ a, a = k * W := ⟨_, rfl⟩
        have HAA := Lib.hid ha
        have hlt : a < n := by rw [ha]; exact (pl_lt n W k hWp hn).1 (by have := HI.out.1; omega)
        rw [← ha]
        have HKK : Hid (k < 256) := Lib.hid (by have h1 := HI.out.1; have := HKM.out; omega)
        have HAB : Hid ((k + 1) * W = a + W) := Lib.hid (by rw [ha, Nat.add_mul]; omega)
        clear ha
        by_cases hle : (W : Int) < (n : Int) - (a : Int)
        · skip
          have hown := HI.out.2.1
          have hBz : B ≤ (wr.alloc (.cells #[.int .i64 (a : Int), .int .i64 ((a : Int) + (W : Int))] 3)).heap.size := by have := HI.out.2.2.size; simp; rw [HB.out]; omega
          have k3 : 2 * k + 2 ≤ maxLen := by unfold maxLen; have := HKK.out; omega
          have k4 : (2 * k + 2) * 8 ≤ 140737488355328 := by have := HKK.out; omega
          go_wp2_with (at_builtin; refine wpList_append_own _ rfl _ _ 25 rfl B 3 i0 _ 1 8 Try.underlying25 hi hz0 hz1 hz2 rfl (by decide) _ _ _ rfl (hown.alloc _) ⟨wr.heap.size, 0, none⟩ 2 2 [.int .i64 (a : Int), .int .i64 ((a : Int) + (W : Int))] rfl rfl (sp_cells _ _ _ _) (sp_one _ _) k3 k4 hBz ?_)
          intro v' w2 hown' hgrow' _
          have HN := rpl_next (W := W) (n := n) HB.out HI.out HAA.out hWp hn (by omega) (x := (a : Int) + (W : Int)) (by omega) hown' hgrow'
          have HST := Lib.hid HN
          clear hown hown' hgrow' HN
          go_wp2
          go_roundw
          case rel => exact ⟨k + 1, by congr 1; rw [HAB.out]; omega, HST⟩
          case measure => simp [intOf]; omega
        · skip
          have hown := HI.out.2.1
          have hBz : B ≤ (wr.alloc (.cells #[.int .i64 (a : Int), .int .i64 ((n : Int))] 3)).heap.size := by have := HI.out.2.2.size; simp; rw [HB.out]; omega
          have k3 : 2 * k + 2 ≤ maxLen := by unfold maxLen; have := HKK.out; omega
          have k4 : (2 * k + 2) * 8 ≤ 140737488355328 := by have := HKK.out; omega
          go_wp2_with (at_builtin; refine wpList_append_own _ rfl _ _ 25 rfl B 3 i0 _ 1 8 Try.underlying25 hi hz0 hz1 hz2 rfl (by decide) _ _ _ rfl (hown.alloc _) ⟨wr.heap.size, 0, none⟩ 2 2 [.int .i64 (a : Int), .int .i64 ((n : Int))] rfl rfl (sp_cells _ _ _ _) (sp_one _ _) k3 k4 hBz ?_)
          intro v' w2 hown' hgrow' _
          have HN := rpl_last (W := W) (n := n) HB.out HI.out HAA.out hWp hn (by omega) hown' hgrow'
          have HST := Lib.hid HN
          clear hown hown' hgrow' HN
          go_wp2
          go_ret
          exact ⟨_, rfl, HST.out.1, by rw [HB.out] at HST ⊢; exact HST.out.2⟩
end Go.Proofs.Ytijefbpgpehmfaa
