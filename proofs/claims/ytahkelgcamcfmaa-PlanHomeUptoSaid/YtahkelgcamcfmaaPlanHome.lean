/- PlanHome is true for all tasks: a worker that stands where a task's data is takes a task whose data is there. Its condition: what it reads is of bulk at most 1048576. -/
import Derived.Test.YtahkelgcamcfmaaPlnMath
import Derived.Laws.OwnMore
import Derived.Deep.RegionHeld3
import Derived.Deep.RegionLaw
import Derived.Deep.AppendLies
import Derived.IntWalk

import Derived.Test.YtahkelgcamcfmaaLawEnd

import Derived.Test.YtahkelgcamcfmaaPlainKit

namespace Go.Proofs.Ytahkelgcamcfmaa.fnPlanHome
open Go.ChangeShapes Go.WideShapes Go.ChangeAt Go.RowKit Go.WideMaps Go.WideElems
open Go.ChangeMaps (open_string)

theorem infoTask : (Try.prog.info? 30).map (fun i => (i.zero, i.size, i.bytes)) = some (some (.agg #[.int .i64 0, .slice none 0 0]), 2, 32) := by kernel_rfl
theorem infoPair : (Try.prog.info? 40).map (fun i => (i.zero, i.size, i.bytes)) = some (some (.agg #[.int .i64 0, .int .i64 0]), 2, 16) := by kernel_rfl
def prV (x : Pr) : List Value := [.int .i64 x.1, .int .i64 x.2]
def prF (it : Nat → Pr) (n : Nat) : List Value := (List.range n).flatMap fun j => prV (it j)
theorem prF_succ (it : Nat → Pr) (n : Nat) : prF it (n + 1) = prF it n ++ prV (it n) := by unfold prF; rw [List.range_succ, List.flatMap_append]; simp
theorem prF_len (it : Nat → Pr) (n : Nat) : (prF it n).length = n * 2 := by
  induction n with
  | zero => rfl
  | succ n ih => rw [prF_succ, List.length_append, ih]; simp [prV]; omega
theorem prF_at (it : Nat → Pr) : ∀ (n i : Nat), i < n → ∀ q, q < 2 → (prF it n)[i * 2 + q]? = (prV (it i))[q]?
  | n + 1, i, hi, q, hq => by
    rw [prF_succ]
    by_cases h : i < n
    · rw [List.getElem?_append_left (by rw [prF_len]; omega)]
      exact prF_at it n i h q hq
    · obtain rfl : i = n := by omega
      rw [List.getElem?_append_right (by rw [prF_len]; omega), prF_len, show i * 2 + q - i * 2 = q by omega]
def prL (R : Nat → PrR) (n : Nat) : List Value := (List.range n).flatMap fun i => prF (R i).it (R i).n
theorem prL_succ (R : Nat → PrR) (n : Nat) : prL R (n + 1) = prL R n ++ prF (R n).it (R n).n := by unfold prL; rw [List.range_succ, List.flatMap_append]; simp
theorem tot_succ (R : Nat → PrR) (n : Nat) : tot R (n + 1) = tot R n + (R n).n := by unfold tot; rw [List.range_succ, List.map_append, List.sum_append]; simp
theorem tot_mono (R : Nat → PrR) : ∀ {m n : Nat}, m ≤ n → tot R m ≤ tot R n
  | m, 0, h => by obtain rfl : m = 0 := by omega
                  exact Nat.le_refl _
  | m, n + 1, h => by
    rcases Nat.lt_or_ge m (n + 1) with h' | h'
    · have := tot_mono R (show m ≤ n by omega)
      rw [tot_succ]; omega
    · obtain rfl : m = n + 1 := by omega
      exact Nat.le_refl _
/-- each pair of the whole list is one of some list -/
theorem prL_at (R : Nat → PrR) : ∀ (n p : Nat), p < tot R n → ∃ i j, i < n ∧ j < (R i).n ∧ ∀ q, q < 2 → (prL R n)[p * 2 + q]? = (prV ((R i).it j))[q]?
  | 0, p, h => by simp [tot] at h
  | n + 1, p, h => by
    have hlen : ∀ n, (prL R n).length = tot R n * 2 := fun n => by
      induction n with
      | zero => rfl
      | succ n ih => rw [prL_succ, List.length_append, ih, prF_len, tot_succ]; omega
    rcases Nat.lt_or_ge p (tot R n) with h' | h'
    · obtain ⟨i, j, hi, hj, k⟩ := prL_at R n p h'
      refine ⟨i, j, by omega, hj, fun q hq => ?_⟩
      rw [prL_succ, List.getElem?_append_left (by rw [hlen]; omega)]
      exact k q hq
    · rw [tot_succ] at h
      refine ⟨n, p - tot R n, by omega, by omega, fun q hq => ?_⟩
      rw [prL_succ, List.getElem?_append_right (by rw [hlen]; omega), hlen, show p * 2 + q - tot R n * 2 = (p - tot R n) * 2 + q by omega]
      exact prF_at _ _ _ (by omega) q hq
/-- at a place of a task's data the task that is picked has data -/
theorem home_zero (R : Nat → PrR) (a0 : Nat → Option Addr) (c0 : Nat → Nat) (k i j : Nat) (x : Pr) (hik : i < k) (hjn : j < (R i).n) (hx : x = (R i).it j) (h1 : -1000 ≤ x.1 ∧ x.1 ≤ 1000) (h2 : -1000 ≤ x.2 ∧ x.2 ≤ 1000) :
    ∃ m, m < k ∧ (pckN (fun q => (TT R a0 c0 q).far (floatOfInt .f64 x.1) (floatOfInt .f64 x.2)) k).1 = (m : Int) ∧ (TT R a0 c0 m).far (floatOfInt .f64 x.1) (floatOfInt .f64 x.2) = 0 := by
  have hp : plc (floatOfInt .f64 x.1) (floatOfInt .f64 x.2) = some (x.1, x.2) := plc_of ⟨fl_of x.1 (by omega), h1.1, h1.2⟩ ⟨fl_of x.2 (by omega), h2.1, h2.2⟩
  have hz : (TT R a0 c0 i).far (floatOfInt .f64 x.1) (floatOfInt .f64 x.2) = 0 := farN_zero (fun _ => distO_lo _ _) _ ⟨j, hjn, by
    show distO _ (plc (floatOfInt .f64 ((R i).it j).1) (floatOfInt .f64 ((R i).it j).2)) = 0
    rw [← hx, hp]
    show sq (x.1, x.2) (x.1, x.2) = 0
    unfold sq
    simp⟩
  obtain ⟨m, hm, e⟩ := pckN_pos (fun q => (TT R a0 c0 q).far (floatOfInt .f64 x.1) (floatOfInt .f64 x.2)) k (by omega)
  refine ⟨m, hm, by rw [e], ?_⟩
  have hl := pckN_least _ k m e i hik
  have lo := tsk_far_lo (TT R a0 c0 m) (floatOfInt .f64 x.1) (floatOfInt .f64 x.2)
  have hl : (TT R a0 c0 i).far (floatOfInt .f64 x.1) (floatOfInt .f64 x.2) = -1 ∨ (¬ (TT R a0 c0 m).far (floatOfInt .f64 x.1) (floatOfInt .f64 x.2) = -1 ∧ (TT R a0 c0 m).far (floatOfInt .f64 x.1) (floatOfInt .f64 x.2) ≤ (TT R a0 c0 i).far (floatOfInt .f64 x.1) (floatOfInt .f64 x.2)) := hl
  rw [hz] at hl
  omega
set_option maxRecDepth 100000 in
set_option maxHeartbeats 8000000 in
theorem walk (A : Option Addr) (n cap : Nat) (R : Nat → PrR) (y : Int) (W : World) (hn : n ≤ 1048576) (ht : tot R n ≤ 1048576) (hwf : wfR R) (hy : -9223372036854775808 ≤ y ∧ y ≤ 9223372036854775807) (hS : Lss W W.heap.size A n R) :
    Calls Try.prog 5 #[.slice A n cap, .int .i64 y] W fun e w' => e = .returned (.bool true) ∧ Below W.heap.size W w' := by
  obtain ⟨i0, hi, hz0, hz1, hz2⟩ := info_parts infoTask
  obtain ⟨i1, hi1, hz10, hz11, hz12⟩ := info_parts infoPair
  obtain ⟨B, hB⟩ : ∃ B, B = W.heap.size := ⟨_, rfl⟩
  have HB := Lib.hid hB
  have HS := Lib.hid hS
  have HT := Lib.hid ht
  have HW := Lib.hid hwf
  rw [← hB]
  clear hS ht hwf hB
  go_enter Try.func5, Try.ntmps5
  go_wp2_with (fail)
  refine (speaks23_any _).mono ?_
  rintro e w1 ⟨rfl, hb1⟩
  rw [← HB.out] at hb1
  have HB1 := Lib.hid hb1
  clear hb1
  go_wp2
  go_loopw [5, 6, 7] (fun v u iv wr => ∃ k : Nat, k ≤ n ∧ iv = .int .i64 (k : Int) ∧ Hid ((∃ a c, InAt B wr v k R a c) ∧ wr.ownsRow B 40 2 u (tot R k) (prL R k) ∧ Below B W wr)) (fun _ _ iv _ => n - (intOf iv).toNat)
  case atStart => exact ⟨0, Nat.zero_le _, rfl, Lib.hid ⟨⟨fun _ => none, fun _ => 0, World.ownsRow_nil _ _ _ _, fun j hj => absurd hj (by omega)⟩, World.ownsRow_nil _ _ _ _, HB1.out⟩⟩
  case round =>
    obtain ⟨k, hkn, rfl, HI⟩ := hrel
    by_cases hlt : k < n
    · obtain ⟨hq0, hq1, g, off, rfl, _, c1⟩ := HS.out.below (by have := HI.out.2.2; rw [HB.out] at this; exact this) k hlt
      have hB0 : B ≤ wr.heap.size := by have := HI.out.2.2.size; rw [HB.out]; exact this
      have hpt := points_any (R k).a (R k).n (R k).c (R k).it hq0 wr ((hq1.up (by rw [← HB.out]; exact hB0)))
      have HQ := Lib.hid (show Prs W W.heap.size (R k).a (R k).n (R k).it from (HS.out k hlt).2.1)
      have HC := Lib.hid (HS.out k hlt).2.2
      clear hq1
      have HTk := Lib.hid (show tot R k + (R k).n ≤ 1048576 by have := tot_mono R (show k + 1 ≤ n from hlt); rw [tot_succ] at this; have := HT.out; omega)
      go_wp2_with (fail)
      refine hpt.mono ?_
      rintro e w2 ⟨v, rfl, hr, hb2⟩
      obtain ⟨ai, ci, rfl⟩ := own_form hr
      have HR := Lib.hid hr
      have HB2 := Lib.hid hb2
      obtain ⟨⟨a0, c0, hI⟩, _, _⟩ := HI.out
      have HI0 := Lib.hid hI
      have hown := own_below hI.row hb2
      obtain ⟨xs, hxs⟩ : ∃ xs, xs = tkL (TT R a0 c0) k := ⟨_, rfl⟩
      rw [← hxs] at hown
      have HX := Lib.hid hxs
      have hBz : B ≤ w2.heap.size := Nat.le_trans hB0 hb2.size
      have k3 : k + 1 ≤ maxLen := by unfold maxLen; omega
      have k4 : (k + 1) * 32 ≤ 140737488355328 := by omega
      clear hr hb2 hxs hpt hI
      go_wp2_with (at_builtin; refine wpList_append_own _ rfl _ _ 25 rfl B 30 i0 _ 2 32 Try.underlying25 hi hz0 hz1 hz2 rfl (by decide) _ _ _ rfl (hown.alloc _) ⟨w2.heap.size, 0, none⟩ 1 1 [.int .i64 (k : Int), .slice ai (R k).n ci] rfl rfl (cell_two_new _ _ _ _) (by simp [Value.oneCell']) k3 k4 (by simp; omega) ?_)
      intro v' w3 hown' hg3 _
      have hb3 : Below B W w3 := own_grown (hown.alloc (.cells #[.int .i64 (k : Int), .slice ai (R k).n ci] 30)) ((HI.out.2.2.trans (HB2.out.mono hB0)).alloc hBz _) hg3 (by simp; omega)
      have HIn : Hid (∃ a c, InAt B w3 v' (k + 1) R a c) := Lib.hid (by
        refine HI0.out.push hB0 (HB2.out.alloc HB2.out.size _) (HR.out.alloc _) hg3 ?_
        rw [← HX.out]
        exact hown')
      have HAl : Hid (w3.ownsRow B 40 2 u6 (tot R k) (prL R k)) := Lib.hid (by
        have h1 := (own_below HI.out.2.1 HB2.out).alloc (.cells #[.int .i64 (k : Int), .slice ai (R k).n ci] 30)
        exact h1.kept hg3 (rows_apart5 (hown.alloc _) h1 (by decide)))
      have HB3 := Lib.hid hb3
      clear hown hown' hg3 hb3 HX
      obtain ⟨_, _, hgb, hBg, c3⟩ := HC.out
      injection hgb with hgb
      injection hgb with hgb1 hgb2
      subst hgb1 hgb2
      have c4 : w3.cell? ⟨g, off + k, none⟩ = some (.slice (R k).a (R k).n (R k).c) := (HB3.out.cell (p := ⟨g, _, none⟩) (by rw [HB.out]; exact hBg)).trans c3
      clear c3 c1
      obtain ⟨aa, ca, rfl, hca⟩ := own_form2 HAl.out
      have HTS := Lib.hid (tot_succ R k)
      have HLS := Lib.hid (prL_succ R k)
      by_cases h0 : (R k).n = 0
      · have H0 := Lib.hid h0
        clear h0
        go_wp2_with (at_builtin; refine wpList_append_nothing _ rfl _ _ 23 rfl 40 i1 Try.underlying23 hi1 aa (tot R k) ca hca rfl (R k).a (R k).n (R k).c H0.out rfl ?_)
        intro u hu
        have hu := hu.out
        subst hu
        have HF : Hid ((∃ a c, InAt B w3 v' (k + 1) R a c) ∧ w3.ownsRow B 40 2 (.slice aa (tot R k) ca) (tot R (k + 1)) (prL R (k + 1)) ∧ Below B W w3) := Lib.hid ⟨HIn.out, by
          rw [HTS.out, HLS.out, H0.out]
          simpa [prF] using HAl.out, HB3.out⟩
        clear HIn HAl
        go_wp2
        go_roundw
        case rel => exact ⟨k + 1, by omega, by first | rfl | go_num, HF⟩
        case measure => simp [intOf]; omega
      · have hpw := HQ.out.below (by have := HB3.out; rw [HB.out] at this; exact this)
        obtain ⟨bb, oo, haa, hbb, _, _⟩ := hpw 0 (by omega)
        have hcs : ∀ j u, (prF (R k).it (R k).n)[j]? = some u → w3.cell? ((⟨bb, oo, none⟩ : Addr).add j) = some u := fun j u hj => by
          have hjl : j < (R k).n * 2 := by
            have := (List.getElem?_eq_some_iff.1 hj).1
            rwa [prF_len] at this
          obtain ⟨b', o', e', _, d0, d1⟩ := hpw (j / 2) (by omega)
          rw [haa] at e'
          injection e' with e'
          injection e' with e1 e2
          subst e1 e2
          have hat := prF_at (R k).it (R k).n (j / 2) (by omega) (j % 2) (Nat.mod_lt _ (by decide))
          rw [show j / 2 * 2 + j % 2 = j by omega, hj] at hat
          rw [add_plain]
          have c : j % 2 = 0 ∨ j % 2 = 1 := by omega
          rcases c with c | c
          · rw [c] at hat
            rw [show oo + j = oo + j / 2 * 2 by omega, d0]
            exact hat.symm
          · rw [c] at hat
            rw [show oo + j = oo + j / 2 * 2 + 1 by omega, d1]
            exact hat.symm
        have hone : ∀ y ∈ prF (R k).it (R k).n, y.oneCell' = true := by
          intro y hy
          unfold prF at hy
          rw [List.mem_flatMap] at hy
          obtain ⟨j, _, hy⟩ := hy
          simp only [prV, List.mem_cons, List.not_mem_nil, or_false] at hy
          rcases hy with rfl | rfl <;> rfl
        have k5 : tot R k + (R k).n ≤ maxLen := by have := HTk.out; unfold maxLen; omega
        have k6 : (tot R k + (R k).n) * 16 ≤ 140737488355328 := by have := HTk.out; omega
        have HA2 := Lib.hid haa
        have hown := HAl.out
        have hBz3 : B ≤ w3.heap.size := by have := HB3.out.size; rw [HB.out]; exact this
        have hpl := prF_len (R k).it (R k).n
        have hpos : 0 < (R k).n := by omega
        clear hpw hbb
        rw [haa] at c4
        go_wp2_with (at_builtin; refine wpList_append_own _ rfl _ _ 23 rfl B 40 i1 _ 2 16 Try.underlying23 hi1 hz10 hz11 hz12 rfl (by decide) _ _ _ rfl hown ⟨bb, oo, none⟩ (R k).n (R k).c (prF (R k).it (R k).n) rfl hpl hcs hone k5 k6 hBz3 ?_)
        intro v2 w4 hown' hg4 _
        have HF : Hid ((∃ a c, InAt B w4 v' (k + 1) R a c) ∧ w4.ownsRow B 40 2 v2 (tot R (k + 1)) (prL R (k + 1)) ∧ Below B W w4) := Lib.hid ⟨by
          obtain ⟨a', c', h'⟩ := HIn.out
          exact ⟨a', c', h'.row.kept hg4 (rows_apart5 hown h'.row (by decide)), fun j hj => (h'.hd j hj).kept hg4 (rows_apart5 hown (h'.hd j hj) (by decide))⟩, by
          rw [HTS.out, HLS.out]
          exact hown', own_grown hown HB3.out hg4 hBz3⟩
        clear HIn HAl hown hown' hg4 hcs hone
        go_wp2
        go_roundw
        case rel => exact ⟨k + 1, by omega, by first | rfl | go_num, HF⟩
        case measure => simp [intOf]; omega
    · obtain rfl : k = n := by omega
      obtain ⟨⟨a0, c0, hI⟩, hall, hbw⟩ := HI.out
      obtain ⟨A1, cp1, rfl⟩ := own_form hI.row
      obtain ⟨A2, cp2, rfl⟩ := own_form hall
      have HIN := Lib.hid hI
      have HAL := Lib.hid hall
      have HBW := Lib.hid hbw
      have hR : ∀ j, j < k → (R j).n ≤ 1048576 := fun j hj => (HS.out j hj).1
      have htk := hI.tks hR
      by_cases h0 : tot R k = 0
      · have hz : ∀ i, i < k → (TT R a0 c0 i).far 0 0 = -1 := fun i hi => by
          have h1 := tot_mono R (show i + 1 ≤ k from hi)
          rw [tot_succ] at h1
          have h2 : (R i).n = 0 := by omega
          show farN _ (R i).n = -1
          rw [h2]
          rfl
        have hpk := pick_any A1 k cp1 (TT R a0 c0) 0 0 wr hn _ rfl htk
        by_cases hk0 : k = 0
        · subst hk0
          have HPK := Lib.hid hpk
          clear hpk hI hall hbw htk hR hz
          rw [h0]
          clear h0
          go_wp2_with (fail)
          refine HPK.out.mono ?_
          rintro e w2 ⟨rfl, hb2⟩
          have HB2 := Lib.hid (HBW.out.trans (hb2.mono (by have := HBW.out.size; rw [HB.out]; exact this)))
          clear hb2 HPK
          rw [show (pckN (fun i => (TT R a0 c0 i).far 0 0) 0).1 = -1 from rfl]
          go_wp2
          go_ret
          exact ⟨rfl, HB2.out⟩
        · have hp1 : (pckN (fun i => (TT R a0 c0 i).far 0 0) k).1 = 0 := by
            obtain ⟨m, rfl⟩ : ∃ m, k = m + 1 := ⟨k - 1, by omega⟩
            rw [pckN_none _ m hz]
          rw [hp1] at hpk
          have HPK := Lib.hid hpk
          clear hpk hI hall hbw htk hR hz hp1
          rw [h0]
          clear h0
          go_wp2_with (fail)
          refine HPK.out.mono ?_
          rintro e w2 ⟨rfl, hb2⟩
          have HB2 := Lib.hid (HBW.out.trans (hb2.mono (by have := HBW.out.size; rw [HB.out]; exact this)))
          clear hb2 HPK
          have hmin : min (k : Int) 1 = 1 := by omega
          go_wp2
          all_goals
            go_ret
            exact ⟨by first | rfl | (have e1 : (k : Int) = 1 := by omega
                                     simp [e1]), HB2.out⟩
      · obtain ⟨m, hm⟩ : ∃ m, m = tot R k := ⟨_, rfl⟩
        have HM := Lib.hid hm
        have hm1 : m ≤ 1048576 := by rw [hm]; exact HT.out
        rw [← hm] at h0 hall ⊢
        obtain ⟨g2, cc, e2, _, _⟩ := hall.form (by omega)
        injection e2 with e2 _ e2b
        subst e2 e2b
        obtain ⟨p, hp, hpy⟩ : ∃ p : Nat, p < m ∧ (y < 0 ∧ p = 0 ∨ ¬ y < 0 ∧ y % (m : Int) = (p : Int)) := by
          by_cases hy0 : y < 0
          · exact ⟨0, by omega, .inl ⟨hy0, rfl⟩⟩
          · have h1 := Int.emod_nonneg y (show (m : Int) ≠ 0 by omega)
            have h2 := Int.emod_lt_of_pos y (show (0 : Int) < (m : Int) by omega)
            exact ⟨(y % (m : Int)).toNat, by omega, .inr ⟨hy0, by omega⟩⟩
        obtain ⟨i, j, hik, hjn, hat⟩ := prL_at R k p (by rw [← hm]; exact hp)
        obtain ⟨x, hx⟩ : ∃ x, x = (R i).it j := ⟨_, rfl⟩
        rw [← hx] at hat
        have HX := Lib.hid hx
        have d0 : wr.cell? ⟨g2, p * 2, none⟩ = some (.int .i64 x.1) := by
          have := hall.cellAt (p * 2) (by omega)
          exact this.trans (hat 0 (by decide))
        have d1 : wr.cell? ⟨g2, p * 2 + 1, none⟩ = some (.int .i64 x.2) := by
          have := hall.cellAt (p * 2 + 1) (by omega)
          exact this.trans (hat 1 (by decide))
        have hxw := HW.out i j
        rw [← hx] at hxw
        have hB0 : B ≤ wr.heap.size := by have := HBW.out.size; rw [HB.out]; exact this
        obtain ⟨w2, hw2⟩ : ∃ w2, w2 = (wr.alloc (.cells #[.int .i64 x.1, .int .i64 x.2] 40)).alloc (.cells #[.int .i64 x.1, .int .i64 x.2] 40) := ⟨_, rfl⟩
        have hb2 : Below wr.heap.size wr w2 := by rw [hw2]; exact ((Below.refl _ _).alloc (Nat.le_refl _) _).alloc (by simp) _
        have hs2 : w2.heap.size = wr.heap.size + 1 + 1 := by rw [hw2]; simp
        have HPT := Lib.hid (points_any (some ⟨wr.heap.size + 1, 0, none⟩) 1 1 (fun _ => x) (by decide) w2 (fun q hq => by
          obtain rfl : q = 0 := by omega
          exact ⟨wr.heap.size + 1, 0, rfl, by omega, by rw [hw2]; simp [go_sem], by rw [hw2]; simp [go_sem]⟩))
        have HB2 := Lib.hid hb2
        have HW2 := Lib.hid hw2
        have HBA := Lib.hid ((Below.refl wr.heap.size wr).alloc (Nat.le_refl _) (.cells #[.int .i64 x.1, .int .i64 x.2] 40))
        clear hI hbw htk hm hall hat hx hb2 hs2 hw2
        by_cases hc : -1000 ≤ x.1 ∧ x.1 ≤ 1000 ∧ -1000 ≤ x.2 ∧ x.2 ≤ 1000
        · obtain ⟨hc1, hc2, hc3, hc4⟩ := hc
          rcases hpy with ⟨hy0, rfl⟩ | ⟨hy0, hpe⟩
          · rw [Nat.zero_mul] at d0 d1
            rw [Nat.zero_add] at d1
            go_wp2_with (fail)
            rw [← HW2.out]
            refine HPT.out.mono ?_
            rintro e w3 ⟨v, rfl, hr, hb3⟩
            obtain ⟨g3, c3, e3, _, _⟩ := hr.form (by decide)
            subst e3
            have d3 : w3.cell? ⟨g3, 0, none⟩ = some (.complex .f64 (floatOfInt .f64 x.1) (floatOfInt .f64 x.2)) := (hr.cellAt 0 (by decide)).trans rfl
            have hbl := HB2.out.trans (hb3.mono HB2.out.size)
            have hI3 := HIN.out.below hbl
            have HL3 := Lib.hid hbl
            have HI3 := Lib.hid hI3
            have HPK := Lib.hid (pick_any A1 k cp1 (TT R a0 c0) (floatOfInt .f64 x.1) (floatOfInt .f64 x.2) w3 hn _ rfl (hI3.tks hR))
            obtain ⟨g1, c1, e1, _, _⟩ := hI3.row.form (by omega)
            injection e1 with e1 _ e1b
            subst e1 e1b
            obtain ⟨mm, hmm, hp1, hp2⟩ := home_zero R a0 c0 k i j x hik hjn HX.out ⟨hc1, hc2⟩ ⟨hc3, hc4⟩
            rw [hp1] at HPK
            have HP2 := Lib.hid hp2
            clear hr hb3 hbl hI3 hp1 hp2
            go_wp2_with (fail)
            refine HPK.out.mono ?_
            rintro e w4 ⟨rfl, hb4⟩
            have hI4 := HI3.out.below hb4
            have k := fun q (hq : q < 2) => (hI4.row.cellAt (mm * 2 + q) (show mm * 2 + q < k * 2 by omega)).trans (tkL_at (TT R a0 c0) k mm hmm q hq)
            have k0 : w4.cell? ⟨g1, mm * 2, none⟩ = some (.int .i64 (mm : Int)) := k 0 (by omega)
            have k1 : w4.cell? ⟨g1, mm * 2 + 1, none⟩ = some (.slice (a0 mm) (R mm).n (c0 mm)) := k 1 (by omega)
            have hfr := tsk_far (TT R a0 c0 mm) (floatOfInt .f64 x.1) (floatOfInt .f64 x.2) w4 ((hI4.tks hR mm hmm).1)
            rw [HP2.out] at hfr
            have HFR := Lib.hid (show Calls Try.prog 9 #[.agg #[.int .i64 (mm : Int), .slice (a0 mm) (R mm).n (c0 mm)], .complex .f64 (floatOfInt .f64 x.1) (floatOfInt .f64 x.2)] w4 fun e w' => e = .returned (.int .i64 0) ∧ Below w4.heap.size w4 w' from hfr)
            have HL4 := Lib.hid (HL3.out.trans (hb4.mono HL3.out.size))
            clear hb4 hI4 k hfr HPK
            go_wp2_with (fail)
            refine HFR.out.mono ?_
            rintro e w5 ⟨rfl, hb5⟩
            have HL5 := Lib.hid (HBW.out.trans ((HL4.out.trans (hb5.mono HL4.out.size)).mono hB0))
            clear hb5 HFR
            go_wp2
            go_ret
            exact ⟨rfl, HL5.out⟩
          · go_wp2_with (fail)
            rw [← HW2.out]
            refine HPT.out.mono ?_
            rintro e w3 ⟨v, rfl, hr, hb3⟩
            obtain ⟨g3, c3, e3, _, _⟩ := hr.form (by decide)
            subst e3
            have d3 : w3.cell? ⟨g3, 0, none⟩ = some (.complex .f64 (floatOfInt .f64 x.1) (floatOfInt .f64 x.2)) := (hr.cellAt 0 (by decide)).trans rfl
            have hbl := HB2.out.trans (hb3.mono HB2.out.size)
            have hI3 := HIN.out.below hbl
            have HL3 := Lib.hid hbl
            have HI3 := Lib.hid hI3
            have HPK := Lib.hid (pick_any A1 k cp1 (TT R a0 c0) (floatOfInt .f64 x.1) (floatOfInt .f64 x.2) w3 hn _ rfl (hI3.tks hR))
            obtain ⟨g1, c1, e1, _, _⟩ := hI3.row.form (by omega)
            injection e1 with e1 _ e1b
            subst e1 e1b
            obtain ⟨mm, hmm, hp1, hp2⟩ := home_zero R a0 c0 k i j x hik hjn HX.out ⟨hc1, hc2⟩ ⟨hc3, hc4⟩
            rw [hp1] at HPK
            have HP2 := Lib.hid hp2
            clear hr hb3 hbl hI3 hp1 hp2
            go_wp2_with (fail)
            refine HPK.out.mono ?_
            rintro e w4 ⟨rfl, hb4⟩
            have hI4 := HI3.out.below hb4
            have k := fun q (hq : q < 2) => (hI4.row.cellAt (mm * 2 + q) (show mm * 2 + q < k * 2 by omega)).trans (tkL_at (TT R a0 c0) k mm hmm q hq)
            have k0 : w4.cell? ⟨g1, mm * 2, none⟩ = some (.int .i64 (mm : Int)) := k 0 (by omega)
            have k1 : w4.cell? ⟨g1, mm * 2 + 1, none⟩ = some (.slice (a0 mm) (R mm).n (c0 mm)) := k 1 (by omega)
            have hfr := tsk_far (TT R a0 c0 mm) (floatOfInt .f64 x.1) (floatOfInt .f64 x.2) w4 ((hI4.tks hR mm hmm).1)
            rw [HP2.out] at hfr
            have HFR := Lib.hid (show Calls Try.prog 9 #[.agg #[.int .i64 (mm : Int), .slice (a0 mm) (R mm).n (c0 mm)], .complex .f64 (floatOfInt .f64 x.1) (floatOfInt .f64 x.2)] w4 fun e w' => e = .returned (.int .i64 0) ∧ Below w4.heap.size w4 w' from hfr)
            have HL4 := Lib.hid (HL3.out.trans (hb4.mono HL3.out.size))
            clear hb4 hI4 k hfr HPK
            go_wp2_with (fail)
            refine HFR.out.mono ?_
            rintro e w5 ⟨rfl, hb5⟩
            have HL5 := Lib.hid (HBW.out.trans ((HL4.out.trans (hb5.mono HL4.out.size)).mono hB0))
            clear hb5 HFR
            go_wp2
            go_ret
            exact ⟨rfl, HL5.out⟩
        · rcases hpy with ⟨hy0, rfl⟩ | ⟨hy0, hpe⟩
          · rw [Nat.zero_mul] at d0 d1
            rw [Nat.zero_add] at d1
            go_wp2_with (fail)
            all_goals first
              | (exfalso; omega)
              | (go_ret; exact ⟨rfl, HBW.out.trans (HBA.out.mono hB0)⟩)
          · go_wp2_with (fail)
            all_goals first
              | (exfalso; omega)
              | (go_ret; exact ⟨rfl, HBW.out.trans (HBA.out.mono hB0)⟩)

set_option maxRecDepth 100000 in
theorem contractUpto (H : Type) (enc : TypeId × Value → H) (W : World) (base : Nat) (args : Array Value) (ds gs : List (DataW H)) (before : List MemPlace)
    (hval : ∀ (j : Nat) t v, Try.f5.params[j]? = some t → args[j]? = some v → Value.okWide Try.prog W .any base t v)
    (hW : DataW.Whole enc Try.prog Try.f5.params.toList Rows.planHomeSpec.vars false W args.toList ds gs before)
    (hz : (DataW.weightsEach Try.prog (Try.f5.params.toList ++ []) (ds ++ gs)).all (· ≤ reachBytes) = true) (hk : Rows.uptoSmall H (ds ++ gs) = true) :
    Calls Try.prog 5 args W fun e W' => ∃ v, e = .returned v ∧ Rows.planHomeSpec.post enc Try.prog Try.f5 false true false false W args v W' := by
  have hW' := hW
  obtain ⟨p, q, hA0, hV, rfl, hfz, hnd⟩ := hW
  have hA : DataW.TrodAll enc Try.prog W 0 (fun _ => true) true Try.f5.params.toList args.toList ds p := hA0
  rw [Try.params5] at hA hval hz
  obtain ⟨v0, vs0, d0, ds0, p0, q0, hargs, rfl, rfl, h0, r0⟩ := trodAll_cons hA
  obtain ⟨v1, vs1, d1, ds1, p1, q1, rfl, rfl, rfl, h1, r1⟩ := trodAll_cons r0
  obtain ⟨rfl, rfl, rfl⟩ := trodAll_nil r1
  obtain rfl : args = #[v0, v1] := by cases args; simp_all
  obtain ⟨rfl, rfl⟩ := trodVars_none hV
  have hk1 : Rows.uptoBulk d0 ≤ 1048576 := by have h := of_decide_eq_true hk; simp only [List.append_nil, List.cons_append, List.nil_append, Rows.uptoBulkAll] at h; omega
  obtain ⟨A, n, cap, R, rfl, hn, ht, hwf, hS⟩ := open_rows_arg (hval 0 22 v0 rfl rfl) h0 hk1
  obtain ⟨x1, rfl, rfl, rfl, w1⟩ := open_int Try.underlying3 (hval 1 3 v1 rfl rfl) h1
  have b1 := i64_of_wf w1
  clear hA0
  refine (walk A n cap R x1 W hn ht hwf b1 hS).mono fun e W' ⟨he, hb⟩ => ?_
  subst he
  exact ⟨_, rfl, law_end hW' rfl rfl hb laidOut (by kernel_rfl) (by kernel_rfl) Try.underlying4⟩

theorem reads (os : Os) {H : Type} (enc : TypeId × Value → H) : ∃ places, DataW.whole enc Try.prog ((World.holding Try.prog os ⟨#[], #[], []⟩).forCall (fun _ _ => 0) ⟨#[], #[.slice none 0 0, .int .i64 0], []⟩).memory Try.f5.params.toList Rows.planHomeSpec.vars false [Value.slice none 0 0, Value.int .i64 0] 8 = some ([.nil, .lit (.int .i64 0)], [], places) :=
  ⟨[], by kernel_rfl⟩

set_option maxRecDepth 100000 in
theorem lifted (os : Os) (started : os.Started) (H : Type) (enc : TypeId × Value → H) (F : Stop.Interp) :
    ReturnsInHanded {} Try.checked os 5 .any ((Rows.OpenSpec.upto Rows.planHomeSpec).preRow enc Try.prog Try.f5 Rows.planHomeUptoRow.domain false Rows.planHomeUptoRow.laid) (((Rows.OpenSpec.upto Rows.planHomeSpec).at F).post enc Try.prog Try.f5 false true false false) := by
  obtain ⟨places, hx⟩ := reads os enc
  have laid_met : laidMet Try.prog Rows.planHomeUptoRow.laid ((World.holding Try.prog os ⟨#[], #[], []⟩).forCall (fun _ _ => 0) ⟨#[], #[.slice none 0 0, .int .i64 0], []⟩).memory := ⟨[], rfl, List.nodup_nil, fun _ _ h => by cases h⟩
  refine returnsInHanded_of_row (C := Try.checked) (s := Rows.OpenSpec.upto Rows.planHomeSpec) own started (by kernel_rfl) Try.func5
    (witness_row_at (enc := enc) (C := Try.checked) false (World.holding Try.prog os ⟨#[], #[], []⟩) #[.slice none 0 0, .int .i64 0] rfl (by kernel_rfl) (by kernel_rfl) (by kernel_rfl)
      (OpenSpec.preRow_of_cond 8 hx (by kernel_rfl) (fun k hk => by cases hk; kernel_rfl) (by kernel_rfl) laid_met)) ?_
  intro W base args ds gs before hval hW _ hcond hz _ _ _
  exact contractUpto H enc W base args ds gs before hval hW hz (hcond _ rfl)

theorem said : Rows.PlanHomeUptoSaid :=
  OpenClaim.holds_of_cond 5 Try.f5 rfl rfl rfl rfl rfl rfl rfl ⟨rfl, rfl, rfl, rfl, rfl⟩ rfl rfl rfl rfl rfl (by kernel_rfl) Try.func5 (by kernel_rfl)
    (of_decide_eq_true (by kernel_rfl)) (by unfold Func.isWrapper; first | (rw [if_pos (by decide +kernel)]; kernel_rfl) | (rw [if_neg (by decide +kernel)]; exact ⟨rfl, rfl⟩))
    (fun os started H enc _ F => by rw [OpenClaim.pre_eq_preRow]; exact lifted os started H enc F)

end Go.Proofs.Ytahkelgcamcfmaa.fnPlanHome
