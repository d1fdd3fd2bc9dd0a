/- PlanFair is true for all tasks and workers: no task is taken twice, none is left while a worker is idle, and what a worker takes is no farther than what is left. Its condition: what it reads is of bulk at most 1048576. -/
import Derived.Test.YtahkelgcamcfmaaPlnTkn
import Derived.Laws.OwnMore
import Derived.Deep.RegionHeld3
import Derived.Deep.RegionLaw
import Derived.Deep.AppendLies
import Derived.IntWalk
import Derived.Deep.DeepCutAuto

import Derived.Test.YtahkelgcamcfmaaLawEnd

import Derived.Test.YtahkelgcamcfmaaPlainKit

namespace Go.Proofs.Ytahkelgcamcfmaa.fnPlanFair
open Go.ChangeShapes Go.WideShapes Go.ChangeAt Go.RowKit Go.WideMaps Go.WideElems
open Go.ChangeMaps (open_string)

theorem infoB : (Try.prog.info? 4).map (fun i => (i.zero, i.size, i.bytes)) = some (some (.bool false), 1, 1) := by kernel_rfl
theorem makeB (n : Nat) (hn : n ≤ 1048576) : ∀ w : World, (Instr.makeSlice 33 (.int .i64 (n : Int)) (.int .i64 (n : Int))).run Try.prog w =
    .ok (.slice (some ⟨w.heap.size, 0, none⟩) n n) (w.alloc (.cells (madeCells #[.bool false] n) 4)) := by
  intro w
  obtain ⟨i, hi, hz0, hz1, hz2⟩ := info_parts infoB
  have := run_make (P := Try.prog) w 33 4 i (.bool false) Try.underlying33 hi hz0 .i64 .i64 n n (by omega) (by omega) (by rw [hz2]; omega) (by omega)
  simpa [hz1, Value.cells] using this
/-- the law's memory while worker p is at hand -/
structure ST (B : Nat) (W w : World) (n m : Nat) (A1 : Option Addr) (c1 : Nat) (A3 : Option Addr) (c3 : Nat) (A4 : Option Addr) (c4 gt : Nat) (R : Nat → PrR) (a0 : Nat → Option Addr) (c0 : Nat → Nat) (it : Nat → Pr) (F : Nat → Nat → Int) (p : Nat) : Prop where
  ina : InAt B w (.slice A1 n c1) n R a0 c0
  ats : w.ownsRow B 35 1 (.slice A3 m c3) m (cxL it m)
  got : w.ownsRow B 3 1 (.slice A4 m c4) m (gotL F n m)
  tak : w.ownsRow B 4 1 (.slice (some ⟨gt, 0, none⟩) n n) n (tkL' F n p)
  bel : Below B W w
section
variable {B : Nat} {W w w' : World} {n m : Nat} {A1 : Option Addr} {c1 : Nat} {A3 : Option Addr} {c3 : Nat} {A4 : Option Addr} {c4 gt : Nat} {R : Nat → PrR} {a0 : Nat → Option Addr} {c0 : Nat → Nat} {it : Nat → Pr} {F : Nat → Nat → Int} {p : Nat}
theorem ST.below (h : ST B W w n m A1 c1 A3 c3 A4 c4 gt R a0 c0 it F p) (hb : Below w.heap.size w w') (hB : B ≤ w.heap.size) : ST B W w' n m A1 c1 A3 c3 A4 c4 gt R a0 c0 it F p :=
  ⟨h.ina.below hb, own_below h.ats hb, own_below h.got hb, own_below h.tak hb, h.bel.trans (hb.mono hB)⟩
theorem ST.in1 (h : ST B W w n m A1 c1 A3 c3 A4 c4 gt R a0 c0 it F p) (i : Nat) (hi : i < n) : ∃ g, A1 = some ⟨g, 0, none⟩ ∧ w.cell? ⟨g, i * 2, none⟩ = some (.int .i64 (i : Int)) ∧ w.cell? ⟨g, i * 2 + 1, none⟩ = some (.slice (a0 i) (R i).n (c0 i)) := by
  obtain ⟨g, c', e, _, _⟩ := h.ina.row.form (by omega)
  injection e with e _ _
  subst e
  have k := fun q (hq : q < 2) => (h.ina.row.cellAt (i * 2 + q) (show i * 2 + q < n * 2 by omega)).trans (tkL_at (TT R a0 c0) n i hi q hq)
  exact ⟨g, rfl, k 0 (by omega), k 1 (by omega)⟩
theorem ST.at1 (h : ST B W w n m A1 c1 A3 c3 A4 c4 gt R a0 c0 it F p) (i : Nat) (hi : i < m) : ∃ g, A3 = some ⟨g, 0, none⟩ ∧ w.cell? ⟨g, i, none⟩ = some (.complex .f64 (floatOfInt .f64 (it i).1) (floatOfInt .f64 (it i).2)) := by
  obtain ⟨g, c', e, _, _⟩ := h.ats.form (by omega)
  injection e with e _ _
  subst e
  exact ⟨g, rfl, (h.ats.cellAt i (by omega)).trans (cxL_at it m i hi)⟩
theorem gotL_at (F : Nat → Nat → Int) (n m i : Nat) (h : i < m) : (gotL F n m)[i]? = some (.int .i64 (gotN F n i)) := by unfold gotL; rw [List.getElem?_map, List.getElem?_range h]; rfl
theorem ST.got1 (h : ST B W w n m A1 c1 A3 c3 A4 c4 gt R a0 c0 it F p) (i : Nat) (hi : i < m) : ∃ g, A4 = some ⟨g, 0, none⟩ ∧ w.cell? ⟨g, i, none⟩ = some (.int .i64 (gotN F n i)) := by
  obtain ⟨g, c', e, _, _⟩ := h.got.form (by omega)
  injection e with e _ _
  subst e
  exact ⟨g, rfl, (h.got.cellAt i (by omega)).trans (gotL_at F n m i hi)⟩
theorem ST.tak1 (h : ST B W w n m A1 c1 A3 c3 A4 c4 gt R a0 c0 it F p) (i : Nat) (hi : i < n) : w.cell? ⟨gt, i, none⟩ = some (.bool (tkB F n p i)) := (h.tak.cellAt i (by omega)).trans (tkL'_at F n p i hi)
theorem ST.far1 (h : ST B W w n m A1 c1 A3 c3 A4 c4 gt R a0 c0 it F p) (hR : ∀ j, j < n → (R j).n ≤ 1048576) (i : Nat) (hi : i < n) (a b : Nat) :
    Calls Try.prog 9 #[.agg #[.int .i64 (i : Int), .slice (a0 i) (R i).n (c0 i)], .complex .f64 a b] w fun e w' => e = .returned (.int .i64 ((TT R a0 c0 i).far a b)) ∧ Below w.heap.size w w' :=
  tsk_far (TT R a0 c0 i) a b w ((h.ina.tks hR i hi).1)
theorem ST.mark (h : ST B W w n m A1 c1 A3 c3 A4 c4 gt R a0 c0 it F p) (x : Nat) (hx : ∀ i, tkB F n (p + 1) i = (tkB F n p i || decide (i = x))) : ST B W (w.setCell ⟨gt, x, none⟩ (.bool true)) n m A1 c1 A3 c3 A4 c4 gt R a0 c0 it F (p + 1) := by
  have hs := h.tak.stored x (.bool true)
  have hg := hs.2
  refine ⟨⟨h.ina.row.kept hg (rows_apart5 h.tak h.ina.row (by decide)), fun j hj => (h.ina.hd j hj).kept hg (rows_apart5 h.tak (h.ina.hd j hj) (by decide))⟩, h.ats.kept hg (rows_apart5 h.tak h.ats (by decide)), h.got.kept hg (rows_apart5 h.tak h.got (by decide)), ?_, h.bel.setCell (own_row h.tak).2.1 _⟩
  have := hs.1
  rwa [tkL'_set F n p x hx] at this
end
set_option maxRecDepth 100000 in
set_option maxHeartbeats 8000000 in
theorem walk (A : Option Addr) (n cap : Nat) (R : Nat → PrR) (q2 : PrR) (W : World) (hn : n ≤ 1048576) (hS : Lss W W.heap.size A n R) (hq : Prs W W.heap.size q2.a q2.n q2.it) (hqn : q2.n ≤ 1048576) :
    Calls Try.prog 4 #[.slice A n cap, .slice q2.a q2.n q2.c] W fun e w' => e = .returned (.bool true) ∧ Below W.heap.size W w' := by
  obtain ⟨i0, hi, hz0, hz1, hz2⟩ := info_parts infoTask
  obtain ⟨B, hB⟩ : ∃ B, B = W.heap.size := ⟨_, rfl⟩
  have HB := Lib.hid hB
  have HS := Lib.hid hS
  have HQ2 := Lib.hid hq
  rw [← hB]
  clear hS hq hB
  go_enter Try.func4, Try.ntmps4
  go_wp2_with (fail)
  refine (speaks23_any _).mono ?_
  rintro e w1 ⟨rfl, hb1⟩
  rw [← HB.out] at hb1
  have HB1 := Lib.hid hb1
  clear hb1
  go_wp2
  go_loopw [5, 6] (fun v iv wr => ∃ k : Nat, k ≤ n ∧ iv = .int .i64 (k : Int) ∧ Hid ((∃ a c, InAt B wr v k R a c) ∧ Below B W wr)) (fun _ iv _ => n - (intOf iv).toNat)
  case atStart => exact ⟨0, Nat.zero_le _, rfl, Lib.hid ⟨⟨fun _ => none, fun _ => 0, World.ownsRow_nil _ _ _ _, fun j hj => absurd hj (by omega)⟩, HB1.out⟩⟩
  case round =>
    obtain ⟨k, hkn, rfl, HI⟩ := hrel
    by_cases hlt : k < n
    · obtain ⟨hq0, hq1, g, off, rfl, _, c1⟩ := HS.out.below (by have := HI.out.2; rw [HB.out] at this; exact this) k hlt
      have hB0 : B ≤ wr.heap.size := by have := HI.out.2.size; rw [HB.out]; exact this
      have hpt := points_any (R k).a (R k).n (R k).c (R k).it hq0 wr ((hq1.up (by rw [← HB.out]; exact hB0)))
      have HQ := Lib.hid (show Prs W W.heap.size (R k).a (R k).n (R k).it from (HS.out k hlt).2.1)
      clear hq1
      go_wp2_with (fail)
      refine hpt.mono ?_
      rintro e w2 ⟨v, rfl, hr, hb2⟩
      obtain ⟨ai, ci, rfl⟩ := own_form hr
      have HR := Lib.hid hr
      have HB2 := Lib.hid hb2
      obtain ⟨⟨a0, c0, hI⟩, _⟩ := HI.out
      have HI0 := Lib.hid hI
      have hown := own_below hI.row hb2
      obtain ⟨xs, hxs⟩ : ∃ xs, xs = tkL (TT R a0 c0) k := ⟨_, rfl⟩
      rw [← hxs] at hown
      have HX := Lib.hid hxs
      have hBz : B ≤ w2.heap.size := Nat.le_trans hB0 hb2.size
      have k3 : k + 1 ≤ maxLen := by unfold maxLen; omega
      have k4 : (k + 1) * 32 ≤ 140737488355328 := by omega
      clear hr hb2 hxs hpt hI
      go_wp2_with (at_builtin; refine wpList_append_own _ rfl _ _ 25 rfl B 30 i0 _ 2 32 Try.underlying25 hi hz0 hz1 hz2 rfl (by decide) _ _ _ rfl (hown.alloc _) ⟨w2.heap.size, 0, none⟩ 1 1 [.int .i64 (k : Int), .slice ai (R k).n ci] rfl rfl (cell_two_new _ _ _ _) (by simp [Value.oneCell']) k3 k4 (by simp; omega) ?_)
      intro v' w3 hown' hg3 _
      have hb3 : Below B W w3 := own_grown (hown.alloc (.cells #[.int .i64 (k : Int), .slice ai (R k).n ci] 30)) ((HI.out.2.trans (HB2.out.mono hB0)).alloc hBz _) hg3 (by simp; omega)
      have HIn : Hid (∃ a c, InAt B w3 v' (k + 1) R a c) := Lib.hid (by
        refine HI0.out.push hB0 (HB2.out.alloc HB2.out.size _) (HR.out.alloc _) hg3 ?_
        rw [← HX.out]
        exact hown')
      have HF : Hid ((∃ a c, InAt B w3 v' (k + 1) R a c) ∧ Below B W w3) := Lib.hid ⟨HIn.out, hb3⟩
      clear hown hown' hg3 hb3 HX HIn
      go_wp2
      go_roundw
      case rel => exact ⟨k + 1, by omega, by first | rfl | go_num, HF⟩
      case measure => simp [intOf]; omega
    · obtain rfl : k = n := by omega
      obtain ⟨⟨a0, c0, hI⟩, hbw⟩ := HI.out
      have hB0 : B ≤ wr.heap.size := by have := hbw.size; rw [HB.out]; exact this
      obtain ⟨m, hm⟩ : ∃ m, m = q2.n := ⟨_, rfl⟩
      have hm1 : m ≤ 1048576 := by rw [hm]; exact hqn
      have hpt := points_any q2.a q2.n q2.c q2.it hqn wr ((HQ2.out.below (by have := hbw; rw [HB.out] at this; exact this)).up (by rw [← HB.out]; exact hB0))
      rw [← hm] at hpt ⊢
      have HI1 := Lib.hid hI
      have HBW := Lib.hid hbw
      have HR := Lib.hid (show ∀ j, j < k → (R j).n ≤ 1048576 from fun j hj => (HS.out j hj).1)
      clear hI hbw hm HI
      go_wp2_with (fail)
      refine hpt.mono ?_
      rintro e w2 ⟨v2, rfl, ho2, hb2⟩
      obtain ⟨A3, c3, rfl⟩ := own_form ho2
      have HI2 := Lib.hid (HI1.out.below hb2)
      obtain ⟨A1, c1, rfl⟩ := own_form HI2.out.row
      obtain ⟨F, hF⟩ : ∃ F : Nat → Nat → Int, F = fun p j => (TT R a0 c0 j).far (floatOfInt .f64 (q2.it p).1) (floatOfInt .f64 (q2.it p).2) := ⟨_, rfl⟩
      have HF := Lib.hid hF
      have hsh := share_any A1 k c1 (TT R a0 c0) A3 m c3 (fun p => floatOfInt .f64 (q2.it p).1) (fun p => floatOfInt .f64 (q2.it p).2) w2 hn hm1 F hF (by
        rcases HI2.out.row.2 with ⟨e, h0⟩ | ⟨g, cp, cur, e, _⟩
        · injection e with e1 e2 e3
          exact .inl ⟨e1, by omega, e3⟩
        · injection e with e1 e2 e3
          exact .inr ⟨g, e1⟩) (HI2.out.tks HR.out) (own_cx ho2 (Nat.le_refl _))
      have HO2 := Lib.hid ho2
      have HB2 := Lib.hid (HBW.out.trans (hb2.mono hB0))
      have hBs2 : B ≤ w2.heap.size := Nat.le_trans hB0 hb2.size
      clear ho2 hb2 hpt HI1 hF
      go_wp2_with (fail)
      refine hsh.mono ?_
      rintro e w3 ⟨v3, rfl, ho3, hb3⟩
      obtain ⟨A4, c4, rfl⟩ := own_form ho3
      have hmk := makeB k hn
      have HI3 := Lib.hid (HI2.out.below hb3)
      have HO3 := Lib.hid (own_below HO2.out hb3)
      have HG3 := Lib.hid (ho3.mono hBs2)
      have HB3 := Lib.hid (HB2.out.trans (hb3.mono hBs2))
      have hBs3 : B ≤ w3.heap.size := Nat.le_trans hBs2 hb3.size
      clear ho3 hb3 hsh HI2 HO2
      go_wp2_with (fail)
      have HST0 : Hid (ST B W (w3.alloc (.cells (madeCells #[.bool false] k) 4)) k m A1 c1 A3 c3 A4 c4 w3.heap.size R a0 c0 q2.it F 0) := Lib.hid (by
        have hal := (Below.refl w3.heap.size w3).alloc (Nat.le_refl _) (.cells (madeCells #[.bool false] k) 4)
        refine ⟨HI3.out.below hal, (own_below HO3.out hal).mono hB0, own_below HG3.out hal, ?_, HB3.out.alloc hBs3 _⟩
        have h := World.ownsRow_lit (base := B) (e := 4) (size := 1) w3 (madeCells #[Value.bool false] k) k hBs3 (by unfold maxLen; omega) (by rw [size_madeCells]; omega)
        rw [toList_madeCells_one] at h
        rw [tkL'_zero]
        exact h)
      obtain ⟨gt, hgt⟩ : ∃ gt, gt = w3.heap.size := ⟨_, rfl⟩
      rw [← hgt] at HST0 ⊢
      clear hgt HI3 HO3 HG3 hmk
      go_loopw [10, 11] (fun nv kv wr => ∃ p c : Nat, p ≤ m ∧ kv = .int .i64 (p : Int) ∧ nv = .int .i64 (c : Int) ∧ Hid (c + (lft F k p).length = k ∧ ST B W wr k m A1 c1 A3 c3 A4 c4 gt R a0 c0 q2.it F p)) (fun _ kv _ => m - (intOf kv).toNat)
      case atStart => exact ⟨0, 0, Nat.zero_le _, rfl, rfl, Lib.hid ⟨by simp [lft], HST0.out⟩⟩
      case round =>
        obtain ⟨p, c, hpm, rfl, rfl, HP⟩ := hrel
        by_cases hpl : p < m
        · obtain ⟨hc, hst⟩ := HP.out
          have HST := Lib.hid hst
          obtain ⟨g4, rfl, l1⟩ := hst.got1 p hpl
          obtain ⟨g3, rfl, t1⟩ := hst.at1 p hpl
          by_cases hL : lft F k p = []
          · obtain ⟨hg1, hg2⟩ := got_none F k p hL
            have hc2 : c = k := by rw [hL] at hc; simpa using hc
            rw [hg1] at l1
            have HN := Lib.hid (show ST B W wr k m A1 c1 (some ⟨g3, 0, none⟩) c3 (some ⟨g4, 0, none⟩) c4 gt R a0 c0 q2.it F (p + 1) from ⟨hst.ina, hst.ats, hst.got, by rw [tkL'_same F k p hL]; exact hst.tak, hst.bel⟩)
            have HC := Lib.hid (show c + (lft F k (p + 1)).length = k by rw [hg2]; simpa using hc2)
            subst hc2
            clear hg1 hg2 hc hL HP hst
            go_wp2
            exact ⟨⟨p + 1, c, by omega, by first | rfl | go_num, rfl, Lib.hid ⟨HC.out, HN.out⟩⟩, by simp [intOf]; omega⟩
          · obtain ⟨x, hx, hxn, hxm, hle, htk, hlen⟩ := got_some F k p hL
            have hx0 : (0 : Int) ≤ (x : Int) := by omega
            have hxk : (x : Int) < (k : Int) := by omega
            have HXX := Lib.hid hx
            rw [hx] at l1
            have s1 := hst.tak1 x hxn
            rw [(tkB_no F k p x).2 hxm] at s1
            have s2 := hst.tak.frozenAt x
            obtain ⟨g1, rfl, r1, r2⟩ := hst.in1 x hxn
            have hFx : (TT R a0 c0 x).far (floatOfInt .f64 (q2.it p).1) (floatOfInt .f64 (q2.it p).2) = F p x := by rw [HF.out]
            have hBr : B ≤ wr.heap.size := by have := hst.bel.size; rw [HB.out]; exact this
            have HFAR : Hid (∀ q, Calls Try.prog 9 #[.agg #[.int .i64 (x : Int), .slice (a0 x) (R x).n (c0 x)], .complex .f64 (floatOfInt .f64 (q2.it p).1) (floatOfInt .f64 (q2.it p).2)] (wr.drewN q) fun e w' => e = .returned (.int .i64 (F p x)) ∧ Hid (ST B W w' k m (some ⟨g1, 0, none⟩) c1 (some ⟨g3, 0, none⟩) c3 (some ⟨g4, 0, none⟩) c4 gt R a0 c0 q2.it F p)) := Lib.hid fun q => by
              have hd := hst.below (below_drewN (Below.refl wr.heap.size wr) q) hBr
              have h := hd.far1 HR.out x hxn (floatOfInt .f64 (q2.it p).1) (floatOfInt .f64 (q2.it p).2)
              rw [hFx] at h
              exact h.mono fun _ _ ⟨he, hb⟩ => ⟨he, Lib.hid (hd.below hb hBr)⟩
            have HLE := Lib.hid hle
            have HTK := Lib.hid htk
            have HC := Lib.hid (show c + 1 + (lft F k (p + 1)).length = k by omega)
            have hck : c + 1 ≤ 1048576 := by omega
            clear hle htk hlen hc hL HP hst hFx hx
            have dd1 : decide ((x : Int) < -1) = false := decide_eq_false (by omega)
            have dd2 : decide ((k : Int) ≤ (x : Int)) = false := decide_eq_false (by omega)
            have dd3 : decide ((0 : Int) ≤ (x : Int)) = true := by simp
            have dd4 : decide ((x : Int) < 0) = false := by simp
            go_wp2_with (fail)
            go_cut [12] (fun mv wx => mv = .int .i64 (F p x) ∧ Hid (ST B W wx k m (some ⟨g1, 0, none⟩) c1 (some ⟨g3, 0, none⟩) c3 (some ⟨g4, 0, none⟩) c4 gt R a0 c0 q2.it F p))
            case first =>
              go_region_with (go_at_call 9; refine (HFAR.out 1).mono ?_; rintro e w5 ⟨rfl, HST5⟩)
              all_goals first | (go_meet; exact ⟨rfl, HST5⟩) | (go_wp2; go_meet; exact ⟨rfl, HST5⟩)
            case rest =>
              obtain ⟨rfl, HST5⟩ := hcut
              clear HST HFAR l1 s1 s2 t1 r1 r2
              obtain ⟨z, hz⟩ : ∃ z, z = F p x := ⟨_, rfl⟩
              have HZ := Lib.hid hz
              have hzl : -1 ≤ z := by rw [hz, HF.out]; exact tsk_far_lo _ _ _
              rw [← hz]
              clear hz
              go_wp2_with (fail)
              go_loopw [13] (fun iv wy => ∃ i : Nat, i ≤ k ∧ iv = .int .i64 (i : Int) ∧ Hid (ST B W wy k m (some ⟨g1, 0, none⟩) c1 (some ⟨g3, 0, none⟩) c3 (some ⟨g4, 0, none⟩) c4 gt R a0 c0 q2.it F p)) (fun iv _ => k - (intOf iv).toNat)
              case atStart => exact ⟨0, Nat.zero_le _, rfl, HST5⟩
              case round =>
                obtain ⟨i, hik, rfl, HY⟩ := hrel
                by_cases hil : i < k
                · have hst := HY.out
                  have s1 := hst.tak1 i hil
                  obtain ⟨_, hgg, r1, r2⟩ := hst.in1 i hil
                  injection hgg with hgg
                  injection hgg with hgg _ _
                  subst hgg
                  obtain ⟨_, hgg, t1⟩ := hst.at1 p hpl
                  injection hgg with hgg
                  injection hgg with hgg _ _
                  subst hgg
                  have hFi : (TT R a0 c0 i).far (floatOfInt .f64 (q2.it p).1) (floatOfInt .f64 (q2.it p).2) = F p i := by rw [HF.out]
                  obtain ⟨yv, hy⟩ : ∃ yv, yv = F p i := ⟨_, rfl⟩
                  have hyl : -1 ≤ yv := by rw [hy, ← hFi]; exact tsk_far_lo _ _ _
                  have hBr2 : B ≤ wr.heap.size := by have := hst.bel.size; rw [HB.out]; exact this
                  have HFAR2 : Hid (∀ q, Calls Try.prog 9 #[.agg #[.int .i64 (i : Int), .slice (a0 i) (R i).n (c0 i)], .complex .f64 (floatOfInt .f64 (q2.it p).1) (floatOfInt .f64 (q2.it p).2)] (wr.drewN q) fun e w' => e = .returned (.int .i64 yv) ∧ Hid (ST B W w' k m (some ⟨g1, 0, none⟩) c1 (some ⟨g3, 0, none⟩) c3 (some ⟨g4, 0, none⟩) c4 gt R a0 c0 q2.it F p)) := Lib.hid fun q => by
                    have hd := hst.below (below_drewN (Below.refl wr.heap.size wr) q) hBr2
                    have h := hd.far1 HR.out i hil (floatOfInt .f64 (q2.it p).1) (floatOfInt .f64 (q2.it p).2)
                    rw [hFi, ← hy] at h
                    exact h.mono fun _ _ ⟨he, hb⟩ => ⟨he, Lib.hid (hd.below hb hBr2)⟩
                  have HYV := Lib.hid hy
                  clear hst hFi hy s1
                  go_upto_region 22 with (fail)
                  go_cut [14] (fun dv wx => dv = .int .i64 yv ∧ Hid (ST B W wx k m (some ⟨g1, 0, none⟩) c1 (some ⟨g3, 0, none⟩) c3 (some ⟨g4, 0, none⟩) c4 gt R a0 c0 q2.it F p))
                  case first =>
                    go_region_with (go_at_call 9; refine (HFAR2.out 1).mono ?_; rintro e w5 ⟨rfl, HST6⟩)
                    all_goals first | (go_meet; exact ⟨rfl, HST6⟩) | (go_wp2; go_meet; exact ⟨rfl, HST6⟩)
                  case rest =>
                    obtain ⟨rfl, HY2⟩ := hcut
                    clear HFAR2 r1 r2 t1 HY
                    have s1 := HY2.out.tak1 i hil
                    have dik : (i : Int) < (k : Int) := by omega
                    have cs : tkB F k p i = true ∨ (tkB F k p i = false ∧ yv = -1) ∨ (tkB F k p i = false ∧ ¬ z = -1 ∧ z ≤ yv) := by
                      cases ht : tkB F k p i with
                      | true => exact .inl rfl
                      | false =>
                        have h := HLE.out i ((tkB_no F k p i).1 ht)
                        rw [← HZ.out, ← HYV.out] at h
                        rcases h with h | h
                        · exact .inr (.inl ⟨rfl, h⟩)
                        · exact .inr (.inr ⟨rfl, h⟩)
                    rcases cs with ht | ⟨ht, h1⟩ | ⟨ht, h1, h2⟩
                    · rw [ht] at s1
                      clear ht HYV HZ
                      go_wp2
                      go_roundw
                      case rel => exact ⟨i + 1, by omega, by first | rfl | go_num, HY2⟩
                      case measure => simp [intOf]; omega
                    · rw [ht] at s1
                      have dd5 : decide ((0 : Int) ≤ yv) = false := decide_eq_false (by omega)
                      clear ht HYV HZ h1
                      go_wp2
                      go_roundw
                      case rel => exact ⟨i + 1, by omega, by first | rfl | go_num, HY2⟩
                      case measure => simp [intOf]; omega
                    · rw [ht] at s1
                      have dd5 : decide ((0 : Int) ≤ yv) = true := decide_eq_true (by omega)
                      have dd6 : decide (z < 0) = false := decide_eq_false (by omega)
                      have dd7 : decide (yv < z) = false := decide_eq_false (by omega)
                      clear ht HYV HZ
                      go_wp2
                      go_roundw
                      case rel => exact ⟨i + 1, by omega, by first | rfl | go_num, HY2⟩
                      case measure => simp [intOf]; omega
                · obtain rfl : i = k := by omega
                  have hst := HY.out
                  obtain ⟨_, hgg, l1⟩ := hst.got1 p hpl
                  injection hgg with hgg
                  injection hgg with hgg _ _
                  subst hgg
                  rw [HXX.out] at l1
                  have s1 := hst.tak1 x hxn
                  have s2 := hst.tak.frozenAt x
                  have HM := Lib.hid (hst.mark x HTK.out)
                  clear hst HY
                  go_wp2
                  go_roundw
                  case rel =>
                    exact ⟨p + 1, c + 1, by omega, by first | rfl | go_num, by first | rfl | go_num, Lib.hid ⟨HC.out, HM.out⟩⟩
                  case measure => simp [intOf]; omega
        · obtain rfl : p = m := by omega
          go_wp2
          go_ret
          exact ⟨rfl, HP.out.2.bel⟩

set_option maxRecDepth 100000 in
theorem contractUpto (H : Type) (enc : TypeId × Value → H) (W : World) (base : Nat) (args : Array Value) (ds gs : List (DataW H)) (before : List MemPlace)
    (hval : ∀ (j : Nat) t v, Try.f4.params[j]? = some t → args[j]? = some v → Value.okWide Try.prog W .any base t v)
    (hW : DataW.Whole enc Try.prog Try.f4.params.toList Rows.planFairSpec.vars false W args.toList ds gs before)
    (hz : (DataW.weightsEach Try.prog (Try.f4.params.toList ++ []) (ds ++ gs)).all (· ≤ reachBytes) = true) (hk : Rows.uptoSmall H (ds ++ gs) = true) :
    Calls Try.prog 4 args W fun e W' => ∃ v, e = .returned v ∧ Rows.planFairSpec.post enc Try.prog Try.f4 false true false false W args v W' := by
  have hW' := hW
  obtain ⟨p, q, hA0, hV, rfl, hfz, hnd⟩ := hW
  have hA : DataW.TrodAll enc Try.prog W 0 (fun _ => true) true Try.f4.params.toList args.toList ds p := hA0
  rw [Try.params4] at hA hval hz
  obtain ⟨v0, vs0, d0, ds0, p0, q0, hargs, rfl, rfl, h0, r0⟩ := trodAll_cons hA
  obtain ⟨v1, vs1, d1, ds1, p1, q1, rfl, rfl, rfl, h1, r1⟩ := trodAll_cons r0
  obtain ⟨rfl, rfl, rfl⟩ := trodAll_nil r1
  obtain rfl : args = #[v0, v1] := by cases args; simp_all
  obtain ⟨rfl, rfl⟩ := trodVars_none hV
  have hk1 : Rows.uptoBulk d0 ≤ 1048576 := by have h := of_decide_eq_true hk; simp only [List.append_nil, List.cons_append, List.nil_append, Rows.uptoBulkAll] at h; omega
  obtain ⟨A, n, cap, R, rfl, hn, _, _, hS⟩ := open_rows_arg (hval 0 22 v0 rfl rfl) h0 hk1
  have hk2 : Rows.uptoBulk d1 ≤ 1048576 := by have h := of_decide_eq_true hk; simp only [List.append_nil, List.cons_append, List.nil_append, Rows.uptoBulkAll] at h; omega
  obtain ⟨q2, hq2, hqn⟩ := open_row_arg (hval 1 23 v1 rfl rfl) h1 hk2
  obtain rfl := hq2.val
  clear hA0
  refine (walk A n cap R q2 W hn hS hq2.at' hqn).mono fun e W' ⟨he, hb⟩ => ?_
  subst he
  exact ⟨_, rfl, law_end hW' rfl rfl hb laidOut (by kernel_rfl) (by kernel_rfl) Try.underlying4⟩

theorem reads (os : Os) {H : Type} (enc : TypeId × Value → H) : ∃ places, DataW.whole enc Try.prog ((World.holding Try.prog os ⟨#[], #[], []⟩).forCall (fun _ _ => 0) ⟨#[], #[.slice none 0 0, .slice none 0 0], []⟩).memory Try.f4.params.toList Rows.planFairSpec.vars false [Value.slice none 0 0, Value.slice none 0 0] 8 = some ([.nil, .nil], [], places) :=
  ⟨[], by kernel_rfl⟩

set_option maxRecDepth 100000 in
theorem lifted (os : Os) (started : os.Started) (H : Type) (enc : TypeId × Value → H) (F : Stop.Interp) :
    ReturnsInHanded {} Try.checked os 4 .any ((Rows.OpenSpec.upto Rows.planFairSpec).preRow enc Try.prog Try.f4 Rows.planFairUptoRow.domain false Rows.planFairUptoRow.laid) (((Rows.OpenSpec.upto Rows.planFairSpec).at F).post enc Try.prog Try.f4 false true false false) := by
  obtain ⟨places, hx⟩ := reads os enc
  have laid_met : laidMet Try.prog Rows.planFairUptoRow.laid ((World.holding Try.prog os ⟨#[], #[], []⟩).forCall (fun _ _ => 0) ⟨#[], #[.slice none 0 0, .slice none 0 0], []⟩).memory := ⟨[], rfl, List.nodup_nil, fun _ _ h => by cases h⟩
  refine returnsInHanded_of_row (C := Try.checked) (s := Rows.OpenSpec.upto Rows.planFairSpec) own started (by kernel_rfl) Try.func4
    (witness_row_at (enc := enc) (C := Try.checked) false (World.holding Try.prog os ⟨#[], #[], []⟩) #[.slice none 0 0, .slice none 0 0] rfl (by kernel_rfl) (by kernel_rfl) (by kernel_rfl)
      (OpenSpec.preRow_of_cond 8 hx (by kernel_rfl) (fun k hk => by cases hk; kernel_rfl) (by kernel_rfl) laid_met)) ?_
  intro W base args ds gs before hval hW _ hcond hz _ _ _
  exact contractUpto H enc W base args ds gs before hval hW hz (hcond _ rfl)

theorem said : Rows.PlanFairUptoSaid :=
  OpenClaim.holds_of_cond 4 Try.f4 rfl rfl rfl rfl rfl rfl rfl ⟨rfl, rfl, rfl, rfl, rfl⟩ rfl rfl rfl rfl rfl (by kernel_rfl) Try.func4 (by kernel_rfl)
    (of_decide_eq_true (by kernel_rfl)) (by unfold Func.isWrapper; first | (rw [if_pos (by decide +kernel)]; kernel_rfl) | (rw [if_neg (by decide +kernel)]; exact ⟨rfl, rfl⟩))
    (fun os started H enc _ F => by rw [OpenClaim.pre_eq_preRow]; exact lifted os started H enc F)

end Go.Proofs.Ytahkelgcamcfmaa.fnPlanFair
