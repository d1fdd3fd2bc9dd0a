/- splits.Plan: the row of places 0, W, 2W, .., each split beside the next. -/
import Derived.Test.YtijefbpgpehmfaaPlainKit
import Derived.OwnWalk
import Derived.WalkKit
import Derived.Below
import Derived.WalkLawsBesides
import Derived.Lib.Hide
import Derived.Laws.AppendOwnNone
import Derived.Deep.DeepCutAuto
namespace Go.Proofs.Ytijefbpgpehmfaa
open Go.RowKit

/-- the size of a split -/
def plW (n : Nat) (want : Int) : Nat := max (max want.toNat 1) ((n - 1) / 256 + 1)
/-- how many splits -/
def plK (n W : Nat) : Nat := (n - 1) / W + 1
/-- the places of the first k splits -/
def plRow (n W k : Nat) : List Value := (List.range k).flatMap fun j => [.int .i64 ((j * W : Nat) : Int), .int .i64 ((min ((j + 1) * W) n : Nat) : Int)]
theorem plW_pos (n : Nat) (want : Int) : 1 ≤ plW n want := by unfold plW; omega
theorem plRow_zero (n W : Nat) : plRow n W 0 = [] := rfl
theorem plRow_succ (n W k : Nat) : plRow n W (k + 1) = plRow n W k ++ [.int .i64 ((k * W : Nat) : Int), .int .i64 ((min ((k + 1) * W) n : Nat) : Int)] := by
  simp [plRow, List.range_succ]
theorem plRow_len (n W k : Nat) : (plRow n W k).length = 2 * k := by
  induction k with
  | zero => rfl
  | succ k ih => rw [plRow_succ, List.length_append, ih]; simp; omega
theorem plRow_even (n W k j : Nat) (hj : j < k) : (plRow n W k)[2 * j]? = some (.int .i64 ((j * W : Nat) : Int)) := by
  induction k with
  | zero => omega
  | succ k ih =>
    rw [plRow_succ]
    have hl := plRow_len n W k
    by_cases h : j < k
    · rw [List.getElem?_append_left (by omega)]; exact ih h
    · obtain rfl : j = k := by omega
      rw [List.getElem?_append_right (by omega), hl]; simp
theorem plRow_odd (n W k j : Nat) (hj : j < k) : (plRow n W k)[2 * j + 1]? = some (.int .i64 ((min ((j + 1) * W) n : Nat) : Int)) := by
  induction k with
  | zero => omega
  | succ k ih =>
    rw [plRow_succ]
    have hl := plRow_len n W k
    by_cases h : j < k
    · rw [List.getElem?_append_left (by omega)]; exact ih h
    · obtain rfl : j = k := by omega
      rw [List.getElem?_append_right (by omega), hl, show 2 * j + 1 - 2 * j = 1 by omega]; rfl
/-- there are no more than 256 -/
theorem plK_le (n : Nat) (want : Int) (hn : 1 ≤ n) : plK n (plW n want) ≤ 256 := by
  unfold plK
  have h1 : (n - 1) / 256 + 1 ≤ plW n want := by unfold plW; omega
  have h2 : (n - 1) < 256 * ((n - 1) / 256 + 1) := by omega
  have h3 : 256 * ((n - 1) / 256 + 1) ≤ 256 * plW n want := Nat.mul_le_mul_left _ h1
  have h4 : (n - 1) / plW n want < 256 := by
    rw [Nat.div_lt_iff_lt_mul (by have := plW_pos n want; omega)]
    omega
  omega
/-- each split but the last ends ahead of the end -/
theorem pl_lt (n W k : Nat) (hW : 1 ≤ W) (hn : 1 ≤ n) : k < plK n W ↔ k * W < n := by
  unfold plK
  constructor
  · intro h
    have h1 : k ≤ (n - 1) / W := by omega
    have h2 := (Nat.le_div_iff_mul_le (by omega)).1 h1
    omega
  · intro h
    have h1 : k ≤ (n - 1) / W := (Nat.le_div_iff_mul_le (by omega)).2 (by omega)
    omega
theorem pl_last (n W : Nat) (hW : 1 ≤ W) (hn : 1 ≤ n) : n ≤ plK n W * W := by
  have := (pl_lt n W (plK n W) hW hn).2
  omega
theorem infoSplit : (Try.prog.info? 28).map (fun i => (i.zero, i.size, i.bytes)) = some (some (.agg #[.int .i64 0, .int .i64 0]), 2, 16) := by kernel_rfl
/-- one more in the row -/
theorem pl_step {w w1 w2 : World} {B : Nat} {o : Obj} {v : Value} {n sz : Nat} {e : TypeId} {xs : List Value} (h1 : Below B w w1) (hB : B ≤ w.heap.size) (hown : w1.ownsRow B e sz v n xs) (hg : (w1.alloc o).grownBy w2 v.ownBlock) : Below B w w2 := by
  have h3 : Below B w1 (w1.alloc o) := (Below.refl _ _).alloc (by have := h1.size; omega) _
  refine (h1.trans h3).grown hg (by have := h1.size; simp; omega) (fun j ej => ?_)
  rcases hown.2 with ⟨rfl, _⟩ | ⟨g, cap, cur, rfl, hb, _, _⟩
  · simp [Value.ownBlock] at ej
  · obtain rfl : g = j := by simpa [Value.ownBlock] using ej
    exact hb
theorem sp_cells (w : World) (a x : Int) (t : TypeId) : ∀ j u, [Value.int .i64 a, .int .i64 x][j]? = some u → (w.alloc (.cells #[.int .i64 a, .int .i64 x] t)).cell? ((⟨w.heap.size, 0, none⟩ : Addr).add j) = some u := by
  intro j u hj
  match j, hj with
  | 0, hj => simp at hj; subst hj; simp [Addr.add]
  | 1, hj => simp at hj; subst hj; simp [Addr.add]
theorem sp_one (a x : Int) : ∀ u ∈ [Value.int .i64 a, .int .i64 x], u.oneCell' = true := by
  intro u hu
  simp at hu
  rcases hu with rfl | rfl <;> rfl
/-- behind one more round -/
theorem pl_next {w wr w2 : World} {B n W k a : Nat} {o : Obj} {v v' : Value} {e : TypeId} {x : Int} (hB : B = w.heap.size) (h : k ≤ plK n W ∧ wr.ownsRow B e 2 v k (plRow n W k) ∧ Below B w wr) (ha : a = k * W) (hW : 1 ≤ W) (hn : 1 ≤ n) (hlt : a < n)
    (hx : x = ((min (a + W) n : Nat) : Int)) (hown : w2.ownsRow B e 2 v' (k + 1) (plRow n W k ++ [.int .i64 (a : Int), .int .i64 x])) (hg : (wr.alloc o).grownBy w2 v.ownBlock) :
    k + 1 ≤ plK n W ∧ w2.ownsRow B e 2 v' (k + 1) (plRow n W (k + 1)) ∧ Below B w w2 := by
  refine ⟨(pl_lt n W k hW hn).2 (by omega), ?_, pl_step h.2.2 (by omega) h.2.1 hg⟩
  rw [plRow_succ, show (k + 1) * W = a + W by rw [ha, Nat.add_mul]; omega, ← hx, ← ha]
  exact hown
set_option maxHeartbeats 1000000 in
theorem plan_no (n want : Int) (w : World) (hn : n < 1) :
    Calls Try.prog 8 #[.int .i64 n, .int .i64 want] w fun e w' => e = .returned (.slice none 0 0) ∧ w' = w := by
  go_enter Try.func8, Try.ntmps8
  go_wp2
  go_ret
  exact ⟨rfl, rfl⟩
/-- what a plan is: the row, behind the caller's base -/
def PlanPost (w : World) (B : Nat) (e : TypeId) (sz : Nat) (n k : Nat) (xs : List Value) : Ending → World → Prop := fun x w' => ∃ v, x = .returned v ∧ w'.ownsRow B e sz v k xs ∧ Below B w w'
set_option maxRecDepth 100000 in
set_option maxHeartbeats 4000000 in
theorem plan_any (n : Nat) (want : Int) (hn : 1 ≤ n) (hn1 : n ≤ 140737488351232) (hw : want ≤ 9223372036854775807) (w : World) :
    Calls Try.prog 8 #[.int .i64 (n : Int), .int .i64 want] w (PlanPost w w.heap.size 28 2 n (plK n (plW n want)) (plRow n (plW n want) (plK n (plW n want)))) := by
  obtain ⟨i0, hi, hz0, hz1, hz2⟩ := info_parts infoSplit
  obtain ⟨B, hB⟩ : ∃ B, B = w.heap.size := ⟨_, rfl⟩
  obtain ⟨W, hW⟩ : ∃ W, plW n want = W := ⟨_, rfl⟩
  rw [hW, ← hB]
  have HB := Lib.hid hB
  have hWp : 1 ≤ W := by rw [← hW]; exact plW_pos n want
  have hWv : max (max want 1) (((n : Int) - 1) / 256 + 1) = (W : Int) := by rw [← hW]; unfold plW; omega
  have HWV := Lib.hid hWv
  have HKM : Hid (plK n W ≤ 256) := Lib.hid (by rw [← hW]; exact plK_le n want hn)
  clear hW hB hWv
  go_enter Try.func8, Try.ntmps8
  go_wp2
  all_goals
    first
      | (have e : Value.int .i64 1 = Value.int .i64 (W : Int) := by (have h9 := HWV.out; congr 1; omega)
         simp only [e])
      | (have e : Value.int .i64 (((n : Int) - 1) / 256 + 1) = Value.int .i64 (W : Int) := by (have h9 := HWV.out; congr 1; omega)
         simp only [e])
      | (have e : Value.int .i64 want = Value.int .i64 (W : Int) := by (have h9 := HWV.out; congr 1; omega)
         simp only [e])
    clear e
    go_loopw [5, 6, 7] (fun v i _ wr => ∃ k : Nat, i = .int .i64 ((min (k * W) n : Nat) : Int) ∧ Hid (k ≤ plK n W ∧ wr.ownsRow B 28 2 v k (plRow n W k) ∧ Below B w wr)) (fun _ i _ _ => n - (intOf i).toNat)
    case atStart => exact ⟨0, by simp, Lib.hid ⟨Nat.zero_le _, World.ownsRow_nil _ _ _ _, Below.refl _ _⟩⟩
    case round =>
      obtain ⟨k, rfl, HI⟩ := hrel
      by_cases hlt : k * W < n
      · obtain ⟨a, ha⟩ : ∃ a, a = k * W := ⟨_, rfl⟩
        have HAA := Lib.hid ha
        rw [show min (k * W) n = a by omega]
        rw [← ha] at hlt
        have HKK : Hid (k < plK n W ∧ k < 256) := Lib.hid (by have h1 := (pl_lt n W k hWp hn).2 (by omega); have := HKM.out; omega)
        have HAB : Hid ((k + 1) * W = a + W) := Lib.hid (by rw [ha, Nat.add_mul]; omega)
        clear ha
        by_cases hle : (W : Int) ≤ (n : Int) - (a : Int)
        · skip
          have hown := HI.out.2.1
          have hBz : B ≤ (wr.alloc (.cells #[.int .i64 (a : Int), .int .i64 ((a : Int) + (W : Int))] 28)).heap.size := by have := HI.out.2.2.size; simp; rw [HB.out]; omega
          have k3 : k + 1 ≤ maxLen := by unfold maxLen; have := HKK.out; omega
          have k4 : (k + 1) * 16 ≤ 140737488355328 := by have := HKK.out; omega
          go_wp2_with (at_builtin; refine wpList_append_own _ rfl _ _ 23 rfl B 28 i0 _ 2 16 Try.underlying23 hi hz0 hz1 hz2 rfl (by decide) _ _ _ rfl (hown.alloc _) ⟨wr.heap.size, 0, none⟩ 1 1 [.int .i64 (a : Int), .int .i64 ((a : Int) + (W : Int))] rfl rfl (sp_cells _ _ _ _) (sp_one _ _) k3 k4 hBz ?_)
          intro v' w2 hown' hgrow' _
          have HN := pl_next (W := W) (n := n) HB.out HI.out HAA.out hWp hn hlt (x := (a : Int) + (W : Int)) (by omega) hown' hgrow'
          have HST := Lib.hid HN
          clear hown hown' hgrow' HN
          go_wp2
          go_roundw
          case rel => exact ⟨k + 1, by congr 1; rw [HAB.out]; omega, HST⟩
          case measure => simp [intOf]; omega
        · have e3 : (a : Int) + ((n : Int) - (a : Int)) = (n : Int) := by omega
          have hown := HI.out.2.1
          have hBz : B ≤ (wr.alloc (.cells #[.int .i64 (a : Int), .int .i64 ((n : Int))] 28)).heap.size := by have := HI.out.2.2.size; simp; rw [HB.out]; omega
          have k3 : k + 1 ≤ maxLen := by unfold maxLen; have := HKK.out; omega
          have k4 : (k + 1) * 16 ≤ 140737488355328 := by have := HKK.out; omega
          go_wp2_with (at_builtin; refine wpList_append_own _ rfl _ _ 23 rfl B 28 i0 _ 2 16 Try.underlying23 hi hz0 hz1 hz2 rfl (by decide) _ _ _ rfl (hown.alloc _) ⟨wr.heap.size, 0, none⟩ 1 1 [.int .i64 (a : Int), .int .i64 ((n : Int))] rfl rfl (sp_cells _ _ _ _) (sp_one _ _) k3 k4 hBz ?_)
          intro v' w2 hown' hgrow' _
          have HN := pl_next (W := W) (n := n) HB.out HI.out HAA.out hWp hn hlt (x := (n : Int)) (by omega) hown' hgrow'
          have HST := Lib.hid HN
          clear hown hown' hgrow' HN
          go_wp2
          go_roundw
          case rel => exact ⟨k + 1, by congr 1; rw [HAB.out]; omega, HST⟩
          case measure => simp [intOf]; omega
      · rw [show min (k * W) n = n by omega]
        have hk : k = plK n W := by
          have h1 := HI.out.1
          rcases Nat.lt_or_ge k (plK n W) with h2 | h2
          · exact absurd ((pl_lt n W k hWp hn).1 h2) hlt
          · omega
        subst hk
        go_wp2
        go_ret
        exact ⟨_, rfl, HI.out.2.1, by rw [HB.out] at HI ⊢; exact HI.out.2.2⟩
end Go.Proofs.Ytijefbpgpehmfaa
