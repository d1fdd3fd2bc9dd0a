/- PlanShares is true for all tasks and workers: how far each task is, which one a worker takes, and who takes which are what the document says, and what is handed in stays. Its condition: what it reads is of bulk at most 1048576. -/
import Derived.Test.YtahkelgcamcfmaaPlnDoc
import Derived.Laws.OwnMore
import Derived.Deep.RegionHeld3
import Derived.Deep.RegionLaw
import Derived.Deep.AppendLies
import Derived.IntWalk
import Derived.Deep.DeepCutAuto

import Derived.Test.YtahkelgcamcfmaaLawEnd

import Derived.Test.YtahkelgcamcfmaaPlainKit

namespace Go.Proofs.Ytahkelgcamcfmaa.fnPlanShares
open Go.ChangeShapes Go.WideShapes Go.ChangeAt Go.RowKit Go.WideMaps Go.WideElems
open Go.ChangeMaps (open_string)

theorem infoSlC : (Try.prog.info? 27).map (fun i => (i.zero, i.size, i.bytes)) = some (some (.slice none 0 0), 1, 24) := by kernel_rfl
theorem one_new (w : World) (u : Value) (t : TypeId) : ∀ j y, [u][j]? = some y → (w.alloc (.cells #[u] t)).cell? ((⟨w.heap.size, 0, none⟩ : Addr).add j) = some y := by
  intro j y hj
  match j, hj with
  | 0, hj => simp at hj; subst hj; simp [Addr.add, go_sem]
theorem infoB : (Try.prog.info? 4).map (fun i => (i.zero, i.size, i.bytes)) = some (some (.bool false), 1, 1) := by kernel_rfl
theorem makeB (n : Nat) (hn : n ≤ 1048576) : ∀ w : World, (Instr.makeSlice 33 (.int .i64 (n : Int)) (.int .i64 (n : Int))).run Try.prog w =
    .ok (.slice (some ⟨w.heap.size, 0, none⟩) n n) (w.alloc (.cells (madeCells #[.bool false] n) 4)) := by
  intro w
  obtain ⟨i, hi, hz0, hz1, hz2⟩ := info_parts infoB
  have := run_make (P := Try.prog) w 33 4 i (.bool false) Try.underlying33 hi hz0 .i64 .i64 n n (by omega) (by omega) (by rw [hz2]; omega) (by omega)
  simpa [hz1, Value.cells] using this
/-- the law's memory while worker p is at hand -/
structure SS (B : Nat) (W w : World) (n m : Nat) (A1 : Option Addr) (c1 : Nat) (A3 : Option Addr) (c3 : Nat) (A4 : Option Addr) (c4 : Nat) (A5 : Option Addr) (c5 gt gn : Nat) (R : Nat → PrR) (a0 : Nat → Option Addr) (c0 : Nat → Nat) (a1 : Nat → Option Addr) (b1 : Nat → Nat) (it : Nat → Pr) (F : Nat → Nat → Int) (p : Nat) : Prop where
  ina : InAt B w (.slice A1 n c1) n R a0 c0
  doc : DocAt B w (.slice A5 n c5) n R a1 b1
  ats : w.ownsRow B 35 1 (.slice A3 m c3) m (cxL it m)
  got : w.ownsRow B 3 1 (.slice A4 m c4) m (gotL F n m)
  tak : w.ownsRow B 4 1 (.slice (some ⟨gt, 0, none⟩) n n) n (tkL' F n p)
  non : w.ownsRow B 4 1 (.slice (some ⟨gn, 0, none⟩) n n) n (List.replicate n (.bool false))
  ne : ¬ gn = gt
  bel : Below B W w
  low : B ≤ w.heap.size
section
variable {B : Nat} {W w w' : World} {n m : Nat} {A1 : Option Addr} {c1 : Nat} {A3 : Option Addr} {c3 : Nat} {A4 : Option Addr} {c4 : Nat} {A5 : Option Addr} {c5 gt gn : Nat} {R : Nat → PrR} {a0 : Nat → Option Addr} {c0 : Nat → Nat} {a1 : Nat → Option Addr} {b1 : Nat → Nat} {it : Nat → Pr} {F : Nat → Nat → Int} {p : Nat}
theorem SS.below (h : SS B W w n m A1 c1 A3 c3 A4 c4 A5 c5 gt gn R a0 c0 a1 b1 it F p) (hb : Below w.heap.size w w') : SS B W w' n m A1 c1 A3 c3 A4 c4 A5 c5 gt gn R a0 c0 a1 b1 it F p :=
  ⟨h.ina.below hb, h.doc.below hb, own_below h.ats hb, own_below h.got hb, own_below h.tak hb, own_below h.non hb, h.ne, h.bel.trans (hb.mono h.low), Nat.le_trans h.low hb.size⟩
theorem SS.in1 (h : SS B W w n m A1 c1 A3 c3 A4 c4 A5 c5 gt gn R a0 c0 a1 b1 it F p) (i : Nat) (hi : i < n) : ∃ g, A1 = some ⟨g, 0, none⟩ ∧ w.cell? ⟨g, i * 2, none⟩ = some (.int .i64 (i : Int)) ∧ w.cell? ⟨g, i * 2 + 1, none⟩ = some (.slice (a0 i) (R i).n (c0 i)) := by
  obtain ⟨g, c', e, _, _⟩ := h.ina.row.form (by omega)
  injection e with e _ _
  subst e
  have k := fun q (hq : q < 2) => (h.ina.row.cellAt (i * 2 + q) (show i * 2 + q < n * 2 by omega)).trans (tkL_at (TT R a0 c0) n i hi q hq)
  exact ⟨g, rfl, k 0 (by omega), k 1 (by omega)⟩
theorem SS.doc1 (h : SS B W w n m A1 c1 A3 c3 A4 c4 A5 c5 gt gn R a0 c0 a1 b1 it F p) (i : Nat) (hi : i < n) : ∃ g, A5 = some ⟨g, 0, none⟩ ∧ w.cell? ⟨g, i, none⟩ = some (.slice (a1 i) (R i).n (b1 i)) := by
  obtain ⟨g, c', e, _, _⟩ := h.doc.row.form (by omega)
  injection e with e _ _
  subst e
  exact ⟨g, rfl, (h.doc.row.cellAt i (by omega)).trans (dcL_at R a1 b1 n i hi)⟩
theorem SS.at1 (h : SS B W w n m A1 c1 A3 c3 A4 c4 A5 c5 gt gn R a0 c0 a1 b1 it F p) (i : Nat) (hi : i < m) : ∃ g, A3 = some ⟨g, 0, none⟩ ∧ w.cell? ⟨g, i, none⟩ = some (.complex .f64 (floatOfInt .f64 (it i).1) (floatOfInt .f64 (it i).2)) := by
  obtain ⟨g, c', e, _, _⟩ := h.ats.form (by omega)
  injection e with e _ _
  subst e
  exact ⟨g, rfl, (h.ats.cellAt i (by omega)).trans (cxL_at it m i hi)⟩
theorem gotL_at (F : Nat → Nat → Int) (n m i : Nat) (h : i < m) : (gotL F n m)[i]? = some (.int .i64 (gotN F n i)) := by unfold gotL; rw [List.getElem?_map, List.getElem?_range h]; rfl
theorem SS.got1 (h : SS B W w n m A1 c1 A3 c3 A4 c4 A5 c5 gt gn R a0 c0 a1 b1 it F p) (i : Nat) (hi : i < m) : ∃ g, A4 = some ⟨g, 0, none⟩ ∧ w.cell? ⟨g, i, none⟩ = some (.int .i64 (gotN F n i)) := by
  obtain ⟨g, c', e, _, _⟩ := h.got.form (by omega)
  injection e with e _ _
  subst e
  exact ⟨g, rfl, (h.got.cellAt i (by omega)).trans (gotL_at F n m i hi)⟩
theorem SS.hold (h : SS B W w n m A1 c1 A3 c3 A4 c4 A5 c5 gt gn R a0 c0 a1 b1 it F p) (i : Nat) (hi : i < n) (j : Nat) (hj : j < (R i).n) : (∃ g, a0 i = some ⟨g, 0, none⟩ ∧ w.cell? ⟨g, j, none⟩ = some (.complex .f64 (floatOfInt .f64 ((R i).it j).1) (floatOfInt .f64 ((R i).it j).2))) ∧ ∃ g, a1 i = some ⟨g, 0, none⟩ ∧ w.cell? ⟨g, j, none⟩ = some (.complex .f64 (floatOfInt .f64 ((R i).it j).1) (floatOfInt .f64 ((R i).it j).2)) := by
  constructor
  · have hh := h.ina.hd i hi
    obtain ⟨g, c', e, _, _⟩ := hh.form (by omega)
    injection e with e _ _
    rw [e] at hh
    exact ⟨g, e, (hh.cellAt j (by omega)).trans (cxL_at _ _ _ hj)⟩
  · have hh := h.doc.hd i hi
    obtain ⟨g, c', e, _, _⟩ := hh.form (by omega)
    injection e with e _ _
    rw [e] at hh
    exact ⟨g, e, (hh.cellAt j (by omega)).trans (cxL_at _ _ _ hj)⟩
theorem SS.tak1 (h : SS B W w n m A1 c1 A3 c3 A4 c4 A5 c5 gt gn R a0 c0 a1 b1 it F p) (i : Nat) (hi : i < n) : w.cell? ⟨gt, i, none⟩ = some (.bool (tkB F n p i)) := (h.tak.cellAt i (by omega)).trans (tkL'_at F n p i hi)
theorem SS.far1 (h : SS B W w n m A1 c1 A3 c3 A4 c4 A5 c5 gt gn R a0 c0 a1 b1 it F p) (hR : ∀ j, j < n → (R j).n ≤ 1048576) (hF : F = fun p j => (TT R a0 c0 j).far (floatOfInt .f64 (it p).1) (floatOfInt .f64 (it p).2)) (i : Nat) (hi : i < n) (q : Nat) :
    Calls Try.prog 9 #[.agg #[.int .i64 (i : Int), .slice (a0 i) (R i).n (c0 i)], .complex .f64 (floatOfInt .f64 (it q).1) (floatOfInt .f64 (it q).2)] w fun e w' => e = .returned (.int .i64 (F q i)) ∧ Hid (SS B W w' n m A1 c1 A3 c3 A4 c4 A5 c5 gt gn R a0 c0 a1 b1 it F p) := by
  rw [hF]
  exact (tsk_far (TT R a0 c0 i) _ _ w ((h.ina.tks hR i hi).1)).mono fun _ _ ⟨he, hb⟩ => ⟨he, Lib.hid (hF ▸ h.below hb)⟩
theorem SS.rfar1 (h : SS B W w n m A1 c1 A3 c3 A4 c4 A5 c5 gt gn R a0 c0 a1 b1 it F p) (hR : ∀ j, j < n → (R j).n ≤ 1048576) (hF : F = fun p j => (TT R a0 c0 j).far (floatOfInt .f64 (it p).1) (floatOfInt .f64 (it p).2)) (i : Nat) (hi : i < n) (q : Nat) :
    Calls Try.prog 10 #[.slice (a1 i) (R i).n (b1 i), .complex .f64 (floatOfInt .f64 (it q).1) (floatOfInt .f64 (it q).2)] w fun e w' => e = .returned (.int .i64 (F q i)) ∧ Hid (SS B W w' n m A1 c1 A3 c3 A4 c4 A5 c5 gt gn R a0 c0 a1 b1 it F p) := by
  have hd := h.doc.docs hR i hi
  have hr := rfar_any (a1 i) (R i).n (b1 i) (floatOfInt .f64 (it q).1) (floatOfInt .f64 (it q).2) (fun k => floatOfInt .f64 ((R i).it k).1) (fun k => floatOfInt .f64 ((R i).it k).2) w (hR i hi) _ rfl hd.1.2
  rw [hF]
  refine hr.mono fun _ _ ⟨he, q', hq'⟩ => ⟨he, Lib.hid ?_⟩
  rw [hq']
  exact hF ▸ h.below (bel_drew q')
theorem SS.pick1 (h : SS B W w n m A1 c1 A3 c3 A4 c4 A5 c5 gt gn R a0 c0 a1 b1 it F p) (hn : n ≤ 1048576) (hR : ∀ j, j < n → (R j).n ≤ 1048576) (hF : F = fun p j => (TT R a0 c0 j).far (floatOfInt .f64 (it p).1) (floatOfInt .f64 (it p).2)) (q : Nat) :
    Calls Try.prog 11 #[.slice A1 n c1, .complex .f64 (floatOfInt .f64 (it q).1) (floatOfInt .f64 (it q).2)] w fun e w' => e = .returned (.int .i64 (pckN (F q) n).1) ∧ Hid (SS B W w' n m A1 c1 A3 c3 A4 c4 A5 c5 gt gn R a0 c0 a1 b1 it F p) := by
  have hp := pick_any A1 n c1 (TT R a0 c0) (floatOfInt .f64 (it q).1) (floatOfInt .f64 (it q).2) w hn (F q) (by rw [hF]) (h.ina.tks hR)
  exact hp.mono fun _ _ ⟨he, hb⟩ => ⟨he, Lib.hid (h.below hb)⟩
theorem own_bools {w : World} {B n g : Nat} {t : Nat → Bool} (h : w.ownsRow B 4 1 (.slice (some ⟨g, 0, none⟩) n n) n ((List.range n).map fun i => .bool (t i))) : SlOf w w.heap.size (some ⟨g, 0, none⟩) n fun i => .bool (t i) := fun i hi => by
  have k := h.cellAt i (by omega)
  rw [List.getElem?_map, List.getElem?_range hi] at k
  exact ⟨g, 0, rfl, lt_of_cell' k, by rw [Nat.zero_add]; exact k⟩
theorem SS.rpick1 (h : SS B W w n m A1 c1 A3 c3 A4 c4 A5 c5 gt gn R a0 c0 a1 b1 it F p) (hn : n ≤ 1048576) (hR : ∀ j, j < n → (R j).n ≤ 1048576) (hF : F = fun p j => (TT R a0 c0 j).far (floatOfInt .f64 (it p).1) (floatOfInt .f64 (it p).2)) (q : Nat) :
    Calls Try.prog 12 #[.slice A5 n c5, .slice (some ⟨gn, 0, none⟩) n n, .complex .f64 (floatOfInt .f64 (it q).1) (floatOfInt .f64 (it q).2)] w fun e w' => e = .returned (.int .i64 (pckN (F q) n).1) ∧ Hid (SS B W w' n m A1 c1 A3 c3 A4 c4 A5 c5 gt gn R a0 c0 a1 b1 it F p) := by
  have hb : w.ownsRow B 4 1 (.slice (some ⟨gn, 0, none⟩) n n) n ((List.range n).map fun i => .bool ((fun _ => false) i)) := by
    have := h.non
    rwa [show (List.replicate n (Value.bool false)) = (List.range n).map (fun i => .bool ((fun _ => false) i)) from (by simp [List.map_const'])] at this
  have hp := rpick_any A5 n c5 (some ⟨gn, 0, none⟩) n (TT R a1 b1) (fun _ => false) (floatOfInt .f64 (it q).1) (floatOfInt .f64 (it q).2) w hn (F q) (by rw [hF]; rfl) (h.doc.docs hR) (own_bools hb)
  rw [rp_pick] at hp
  refine hp.mono fun _ _ ⟨he, q', hq'⟩ => ⟨he, Lib.hid ?_⟩
  rw [hq']
  exact h.below (bel_drew q')
theorem SS.rpick2 (h : SS B W w n m A1 c1 A3 c3 A4 c4 A5 c5 gt gn R a0 c0 a1 b1 it F p) (hn : n ≤ 1048576) (hR : ∀ j, j < n → (R j).n ≤ 1048576) (hF : F = fun p j => (TT R a0 c0 j).far (floatOfInt .f64 (it p).1) (floatOfInt .f64 (it p).2)) :
    Calls Try.prog 12 #[.slice A5 n c5, .slice (some ⟨gt, 0, none⟩) n n, .complex .f64 (floatOfInt .f64 (it p).1) (floatOfInt .f64 (it p).2)] w fun e w' => e = .returned (.int .i64 (gotN F n p)) ∧ Hid (SS B W w' n m A1 c1 A3 c3 A4 c4 A5 c5 gt gn R a0 c0 a1 b1 it F p) := by
  have hp := rpick_any A5 n c5 (some ⟨gt, 0, none⟩) n (TT R a1 b1) (tkB F n p) (floatOfInt .f64 (it p).1) (floatOfInt .f64 (it p).2) w hn (F p) (by rw [hF]; rfl) (h.doc.docs hR) (own_bools h.tak)
  rw [rp_got] at hp
  refine hp.mono fun _ _ ⟨he, q', hq'⟩ => ⟨he, Lib.hid ?_⟩
  rw [hq']
  exact h.below (bel_drew q')
theorem SS.mark (h : SS B W w n m A1 c1 A3 c3 A4 c4 A5 c5 gt gn R a0 c0 a1 b1 it F p) (x : Nat) (hx : ∀ i, tkB F n (p + 1) i = (tkB F n p i || decide (i = x))) : SS B W (w.setCell ⟨gt, x, none⟩ (.bool true)) n m A1 c1 A3 c3 A4 c4 A5 c5 gt gn R a0 c0 a1 b1 it F (p + 1) := by
  have hs := h.tak.stored x (.bool true)
  have hg := hs.2
  refine ⟨h.ina.left h.tak (by decide) (by decide) hg, h.doc.left h.tak (by decide) (by decide) hg, h.ats.kept hg (rows_apart5 h.tak h.ats (by decide)), h.got.kept hg (rows_apart5 h.tak h.got (by decide)), ?_, h.non.kept hg (.inr (by simp only [Value.ownBlock]; intro e; exact h.ne (Option.some.inj e))), h.ne, h.bel.setCell (own_row h.tak).2.1 _, Nat.le_trans h.low hg.size⟩
  have := hs.1
  rwa [tkL'_set F n p x hx] at this
theorem SS.stay (h : SS B W w n m A1 c1 A3 c3 A4 c4 A5 c5 gt gn R a0 c0 a1 b1 it F p) (hL : lft F n p = []) : SS B W w n m A1 c1 A3 c3 A4 c4 A5 c5 gt gn R a0 c0 a1 b1 it F (p + 1) := ⟨h.ina, h.doc, h.ats, h.got, by rw [tkL'_same F n p hL]; exact h.tak, h.non, h.ne, h.bel, h.low⟩
end
set_option maxRecDepth 100000 in
set_option maxHeartbeats 8000000 in
theorem walk (A : Option Addr) (n cap : Nat) (R : Nat → PrR) (q2 : PrR) (W : World) (hn : n ≤ 1048576) (hS : Lss W W.heap.size A n R) (hq : Prs W W.heap.size q2.a q2.n q2.it) (hqn : q2.n ≤ 1048576) :
    Calls Try.prog 3 #[.slice A n cap, .slice q2.a q2.n q2.c] W fun e w' => e = .returned (.bool true) ∧ Below W.heap.size W w' := by
  obtain ⟨i0, hi, hz0, hz1, hz2⟩ := info_parts infoTask
  obtain ⟨i1, hi1, hz10, hz11, hz12⟩ := info_parts infoSlC
  obtain ⟨B, hB⟩ : ∃ B, B = W.heap.size := ⟨_, rfl⟩
  have HB := Lib.hid hB
  have HS := Lib.hid hS
  have HQ2 := Lib.hid hq
  rw [← hB]
  clear hS hq hB
  go_enter Try.func3, Try.ntmps3
  go_wp2_with (fail)
  refine (speaks23_any _).mono ?_
  rintro e w1 ⟨rfl, hb1⟩
  rw [← HB.out] at hb1
  have HB1 := Lib.hid hb1
  clear hb1
  go_wp2
  go_loopw [5, 6, 7] (fun v dv iv wr => ∃ k : Nat, k ≤ n ∧ iv = .int .i64 (k : Int) ∧ Hid ((∃ a c, InAt B wr v k R a c) ∧ (∃ a c, DocAt B wr dv k R a c) ∧ Below B W wr)) (fun _ _ iv _ => n - (intOf iv).toNat)
  case atStart => exact ⟨0, Nat.zero_le _, rfl, Lib.hid ⟨⟨fun _ => none, fun _ => 0, World.ownsRow_nil _ _ _ _, fun j hj => absurd hj (by omega)⟩, ⟨fun _ => none, fun _ => 0, World.ownsRow_nil _ _ _ _, fun j hj => absurd hj (by omega)⟩, HB1.out⟩⟩
  case round =>
    obtain ⟨k, hkn, rfl, HI⟩ := hrel
    by_cases hlt : k < n
    · obtain ⟨hq0, hq1, g, off, rfl, _, c1⟩ := HS.out.below (by have := HI.out.2.2; rw [HB.out] at this; exact this) k hlt
      have hB0 : B ≤ wr.heap.size := by have := HI.out.2.2.size; rw [HB.out]; exact this
      have hpt := points_any (R k).a (R k).n (R k).c (R k).it hq0 wr ((hq1.up (by rw [← HB.out]; exact hB0)))
      have HC := Lib.hid (HS.out k hlt).2.2
      have HQ := Lib.hid (show Prs W W.heap.size (R k).a (R k).n (R k).it from (HS.out k hlt).2.1)
      clear hq1
      go_wp2_with (fail)
      refine hpt.mono ?_
      rintro e w2 ⟨v, rfl, hr, hb2⟩
      obtain ⟨ai, ci, rfl⟩ := own_form hr
      have HR := Lib.hid hr
      have HB2 := Lib.hid hb2
      obtain ⟨⟨a0, c0, hI⟩, ⟨a1, c1', hD⟩, _⟩ := HI.out
      have HD0 := Lib.hid hD
      have HI0 := Lib.hid hI
      have hown := own_below hI.row hb2
      obtain ⟨xs, hxs⟩ : ∃ xs, xs = tkL (TT R a0 c0) k := ⟨_, rfl⟩
      rw [← hxs] at hown
      have HX := Lib.hid hxs
      have hBz : B ≤ w2.heap.size := Nat.le_trans hB0 hb2.size
      have k3 : k + 1 ≤ maxLen := by unfold maxLen; omega
      have k4 : (k + 1) * 32 ≤ 140737488355328 := by omega
      clear hr hb2 hxs hpt hI hD
      go_wp2_with (at_builtin; refine wpList_append_own _ rfl _ _ 25 rfl B 30 i0 _ 2 32 Try.underlying25 hi hz0 hz1 hz2 rfl (by decide) _ _ _ rfl (hown.alloc _) ⟨w2.heap.size, 0, none⟩ 1 1 [.int .i64 (k : Int), .slice ai (R k).n ci] rfl rfl (cell_two_new _ _ _ _) (by simp [Value.oneCell']) k3 k4 (by simp; omega) ?_)
      intro v' w3 hown' hg3 _
      have hb3 : Below B W w3 := own_grown (hown.alloc (.cells #[.int .i64 (k : Int), .slice ai (R k).n ci] 30)) ((HI.out.2.2.trans (HB2.out.mono hB0)).alloc hBz _) hg3 (by simp; omega)
      have HIn : Hid (∃ a c, InAt B w3 v' (k + 1) R a c) := Lib.hid (by
        refine HI0.out.push hB0 (HB2.out.alloc HB2.out.size _) (HR.out.alloc _) hg3 ?_
        rw [← HX.out]
        exact hown')
      have hB3 : B ≤ w3.heap.size := by have := hb3.size; have := HB.out; omega
      have HD3 : Hid (DocAt B w3 u6 k R a1 c1') := Lib.hid ((HD0.out.below (HB2.out.alloc HB2.out.size (.cells #[.int .i64 (k : Int), .slice ai (R k).n ci] 30))).left (hown.alloc _) (by decide) (by decide) hg3)
      have HB3 := Lib.hid hb3
      clear hown hown' hg3 hb3 HX
      obtain ⟨_, _, hgb, hBg, c3⟩ := HC.out
      injection hgb with hgb
      injection hgb with hgb1 hgb2
      subst hgb1 hgb2
      have c4 : w3.cell? ⟨g, off + k, none⟩ = some (.slice (R k).a (R k).n (R k).c) := (HB3.out.cell (p := ⟨g, _, none⟩) (by rw [HB.out]; exact hBg)).trans c3
      clear c3 c1
      have hpt2 := points_any (R k).a (R k).n (R k).c (R k).it hq0 w3 ((HQ.out.below (by have := HB3.out; rw [HB.out] at this; exact this)).up (by rw [← HB.out]; exact hB3))
      go_wp2_with (fail)
      refine hpt2.mono ?_
      rintro e w4 ⟨v4, rfl, hr4, hb4⟩
      obtain ⟨a4, c5, rfl⟩ := own_form hr4
      have HR4 := Lib.hid hr4
      have HB4 := Lib.hid hb4
      have hown := own_below HD3.out.row hb4
      have hBz4 : B ≤ w4.heap.size := Nat.le_trans hB3 hb4.size
      have k5 : (k + 1) * 24 ≤ 140737488355328 := by omega
      have hin4 : Hid (∃ a c, InAt B w4 v' (k + 1) R a c) := Lib.hid (by
        obtain ⟨a', c', h'⟩ := HIn.out
        exact ⟨a', c', h'.below hb4⟩)
      clear hr4 hb4 hpt2 HIn
      go_wp2_with (at_builtin; refine wpList_append_own _ rfl _ _ 26 rfl B 27 i1 _ 1 24 Try.underlying26 hi1 hz10 hz11 hz12 rfl (by decide) _ _ _ rfl (hown.alloc _) ⟨w4.heap.size, 0, none⟩ 1 1 [.slice a4 (R k).n c5] rfl rfl (one_new _ _ _) (by simp [Value.oneCell']) k3 k5 (by simp; omega) ?_)
      intro v5 w5 hown5 hg5 _
      have hb5 : Below B W w5 := own_grown (hown.alloc (.cells #[.slice a4 (R k).n c5] 27)) ((HB3.out.trans (HB4.out.mono hB3)).alloc hBz4 _) hg5 (by simp; omega)
      have HF : Hid ((∃ a c, InAt B w5 v' (k + 1) R a c) ∧ (∃ a c, DocAt B w5 v5 (k + 1) R a c) ∧ Below B W w5) := Lib.hid ⟨by
        obtain ⟨a', c', h'⟩ := hin4.out
        exact ⟨a', c', (h'.below ((Below.refl w4.heap.size w4).alloc (Nat.le_refl _) (.cells #[.slice a4 (R k).n c5] 27))).left (hown.alloc _) (by decide) (by decide) hg5⟩,
        HD3.out.push hB3 (HB4.out.alloc HB4.out.size _) (HR4.out.alloc _) hg5 hown5, hb5⟩
      clear hown hown5 hg5 hb5
      go_wp2
      go_roundw
      case rel => exact ⟨k + 1, by omega, by first | rfl | go_num, HF⟩
      case measure => simp [intOf]; omega
    · obtain rfl : k = n := by omega
      obtain ⟨⟨a0, c0, hI⟩, ⟨a1, c1', hD⟩, hbw⟩ := HI.out
      have hB0 : B ≤ wr.heap.size := by have := hbw.size; rw [HB.out]; exact this
      obtain ⟨m, hm⟩ : ∃ m, m = q2.n := ⟨_, rfl⟩
      have hm1 : m ≤ 1048576 := by rw [hm]; exact hqn
      have hpt := points_any q2.a q2.n q2.c q2.it hqn wr ((HQ2.out.below (by have := hbw; rw [HB.out] at this; exact this)).up (by rw [← HB.out]; exact hB0))
      rw [← hm] at hpt ⊢
      have HI1 := Lib.hid hI
      have HD1 := Lib.hid hD
      have HBW := Lib.hid hbw
      have HR := Lib.hid (show ∀ j, j < k → (R j).n ≤ 1048576 from fun j hj => (HS.out j hj).1)
      clear hI hD hbw hm HI
      go_wp2_with (fail)
      refine hpt.mono ?_
      rintro e w2 ⟨v2, rfl, ho2, hb2⟩
      obtain ⟨A3, c3, rfl⟩ := own_form ho2
      have HI2 := Lib.hid (HI1.out.below hb2)
      have HD2 := Lib.hid (HD1.out.below hb2)
      obtain ⟨A1, c1, rfl⟩ := own_form HI2.out.row
      obtain ⟨A5, c5, rfl⟩ := own_form HD2.out.row
      obtain ⟨F, hF⟩ : ∃ F : Nat → Nat → Int, F = fun p j => (TT R a0 c0 j).far (floatOfInt .f64 (q2.it p).1) (floatOfInt .f64 (q2.it p).2) := ⟨_, rfl⟩
      have HF := Lib.hid hF
      have hsh := share_any A1 k c1 (TT R a0 c0) A3 m c3 (fun p => floatOfInt .f64 (q2.it p).1) (fun p => floatOfInt .f64 (q2.it p).2) w2 hn hm1 F hF (by
        rcases HI2.out.row.2 with ⟨e, h0⟩ | ⟨g, cp, cur, e, _⟩
        · injection e with e1 e2 e3
          exact .inl ⟨e1, by omega, e3⟩
        · injection e with e1 e2 e3
          exact .inr ⟨g, e1⟩) (HI2.out.tks HR.out) (own_cx ho2 (Nat.le_refl _))
      have HO2 := Lib.hid ho2
      have HB2 := Lib.hid (HBW.out.trans (hb2.mono hB0))
      have hBs2 : B ≤ w2.heap.size := Nat.le_trans hB0 hb2.size
      clear ho2 hb2 hpt HI1 HD1 hF
      go_wp2_with (fail)
      refine hsh.mono ?_
      rintro e w3 ⟨v3, rfl, ho3, hb3⟩
      obtain ⟨A4, c4, rfl⟩ := own_form ho3
      have hmk := makeB k hn
      have HI3 := Lib.hid (HI2.out.below hb3)
      have HD3 := Lib.hid (HD2.out.below hb3)
      have HO3 := Lib.hid (own_below HO2.out hb3)
      have HG3 := Lib.hid (ho3.mono hBs2)
      have HB3 := Lib.hid (HB2.out.trans (hb3.mono hBs2))
      have hBs3 : B ≤ w3.heap.size := Nat.le_trans hBs2 hb3.size
      clear ho3 hb3 hsh HI2 HD2 HO2
      go_wp2_with (fail)
      have HSS0 : Hid (SS B W ((w3.alloc (.cells (madeCells #[.bool false] k) 4)).alloc (.cells (madeCells #[.bool false] k) 4)) k m A1 c1 A3 c3 A4 c4 A5 c5 w3.heap.size (w3.heap.size + 1) R a0 c0 a1 c1' q2.it F 0) := Lib.hid (by
        obtain ⟨w6, hw6⟩ : ∃ w6, w6 = w3.alloc (.cells (madeCells #[.bool false] k) 4) := ⟨_, rfl⟩
        have hal : Below w3.heap.size w3 w6 := by rw [hw6]; exact (Below.refl w3.heap.size w3).alloc (Nat.le_refl _) _
        have hs6 : w6.heap.size = w3.heap.size + 1 := by rw [hw6]; simp
        have hal2 := (Below.refl w6.heap.size w6).alloc (Nat.le_refl _) (.cells (madeCells #[.bool false] k) 4)
        have h1 := World.ownsRow_lit (base := B) (e := 4) (size := 1) w3 (madeCells #[Value.bool false] k) k hBs3 (by unfold maxLen; omega) (by rw [size_madeCells]; omega)
        have h2 := World.ownsRow_lit (base := B) (e := 4) (size := 1) w6 (madeCells #[Value.bool false] k) k (by omega) (by unfold maxLen; omega) (by rw [size_madeCells]; omega)
        rw [toList_madeCells_one] at h1 h2
        rw [← hw6] at h1 ⊢
        refine ⟨(HI3.out.below hal).below hal2, (HD3.out.below hal).below hal2, (own_below (own_below HO3.out hal) hal2).mono hB0, own_below (own_below HG3.out hal) hal2, ?_, ?_, by omega, (HB3.out.trans (hal.mono hBs3)).alloc (by omega) _, by simp; omega⟩
        · rw [tkL'_zero]; exact own_below h1 hal2
        · rw [← hs6]; exact h2)
      obtain ⟨gt, hgt⟩ : ∃ gt, gt = w3.heap.size := ⟨_, rfl⟩
      obtain ⟨gn, hgn⟩ : ∃ gn, gn = w3.heap.size + 1 := ⟨_, rfl⟩
      rw [← hgn, ← hgt] at HSS0 ⊢
      clear hgt hgn HI3 HD3 HO3 HG3 hmk
      go_loopw [12] (fun kv wr => ∃ p : Nat, p ≤ m ∧ kv = .int .i64 (p : Int) ∧ Hid (SS B W wr k m A1 c1 A3 c3 A4 c4 A5 c5 gt gn R a0 c0 a1 c1' q2.it F p)) (fun kv _ => m - (intOf kv).toNat)
      case atStart => exact ⟨0, Nat.zero_le _, rfl, HSS0⟩
      case round =>
        obtain ⟨p, hpm, rfl, HP⟩ := hrel
        by_cases hpl : p < m
        · obtain ⟨g4, rfl, _⟩ := HP.out.got1 p hpl
          obtain ⟨g3, rfl, _⟩ := HP.out.at1 p hpl
          go_wp2_with (fail)
          go_loopw [13] (fun iv wy => ∃ i : Nat, i ≤ k ∧ iv = .int .i64 (i : Int) ∧ Hid (SS B W wy k m A1 c1 (some ⟨g3, 0, none⟩) c3 (some ⟨g4, 0, none⟩) c4 A5 c5 gt gn R a0 c0 a1 c1' q2.it F p)) (fun iv _ => k - (intOf iv).toNat)
          case atStart => exact ⟨0, Nat.zero_le _, rfl, HP⟩
          case round =>
            obtain ⟨i, hik, rfl, HY⟩ := hrel
            by_cases hil : i < k
            · obtain ⟨g1, rfl, x1, x2⟩ := HY.out.in1 i hil
              obtain ⟨g5, rfl, x3⟩ := HY.out.doc1 i hil
              obtain ⟨Sp, hSp⟩ : ∃ Sp : World → Prop, Sp = fun w' => SS B W w' k m (some ⟨g1, 0, none⟩) c1 (some ⟨g3, 0, none⟩) c3 (some ⟨g4, 0, none⟩) c4 (some ⟨g5, 0, none⟩) c5 gt gn R a0 c0 a1 c1' q2.it F p := ⟨_, rfl⟩
              have hC : ∀ w', Sp w' → Hid (Sp w') ∧ w'.cell? ⟨g1, i * 2, none⟩ = some (.int .i64 (i : Int)) ∧ w'.cell? ⟨g1, i * 2 + 1, none⟩ = some (.slice (a0 i) (R i).n (c0 i)) ∧ w'.cell? ⟨g5, i, none⟩ = some (.slice (a1 i) (R i).n (c1' i)) ∧ w'.cell? ⟨g3, p, none⟩ = some (.complex .f64 (floatOfInt .f64 (q2.it p).1) (floatOfInt .f64 (q2.it p).2)) := fun w' h => by
                have h' := h
                rw [hSp] at h'
                obtain ⟨_, e1, y1, y2⟩ := h'.in1 i hil
                injection e1 with e1
                injection e1 with e1 _ _
                subst e1
                obtain ⟨_, e1, y3⟩ := h'.doc1 i hil
                injection e1 with e1
                injection e1 with e1 _ _
                subst e1
                obtain ⟨_, e1, y4⟩ := h'.at1 p hpl
                injection e1 with e1
                injection e1 with e1 _ _
                subst e1
                exact ⟨Lib.hid h, y1, y2, y3, y4⟩
              have HDR := Lib.hid (show ∀ w', (Hid (Sp w') ∧ w'.cell? ⟨g1, i * 2, none⟩ = some (.int .i64 (i : Int)) ∧ w'.cell? ⟨g1, i * 2 + 1, none⟩ = some (.slice (a0 i) (R i).n (c0 i)) ∧ w'.cell? ⟨g5, i, none⟩ = some (.slice (a1 i) (R i).n (c1' i)) ∧ w'.cell? ⟨g3, p, none⟩ = some (.complex .f64 (floatOfInt .f64 (q2.it p).1) (floatOfInt .f64 (q2.it p).2))) → (Hid (Sp w'.drew) ∧ w'.drew.cell? ⟨g1, i * 2, none⟩ = some (.int .i64 (i : Int)) ∧ w'.drew.cell? ⟨g1, i * 2 + 1, none⟩ = some (.slice (a0 i) (R i).n (c0 i)) ∧ w'.drew.cell? ⟨g5, i, none⟩ = some (.slice (a1 i) (R i).n (c1' i)) ∧ w'.drew.cell? ⟨g3, p, none⟩ = some (.complex .f64 (floatOfInt .f64 (q2.it p).1) (floatOfInt .f64 (q2.it p).2))) from fun w' h => hC _ (by
                have := h.1.out
                rw [hSp] at this ⊢
                exact this.below (bel_drew 1)))
              have HF1 := Lib.hid (show ∀ w', (Hid (Sp w') ∧ w'.cell? ⟨g1, i * 2, none⟩ = some (.int .i64 (i : Int)) ∧ w'.cell? ⟨g1, i * 2 + 1, none⟩ = some (.slice (a0 i) (R i).n (c0 i)) ∧ w'.cell? ⟨g5, i, none⟩ = some (.slice (a1 i) (R i).n (c1' i)) ∧ w'.cell? ⟨g3, p, none⟩ = some (.complex .f64 (floatOfInt .f64 (q2.it p).1) (floatOfInt .f64 (q2.it p).2))) → Calls Try.prog 9 #[.agg #[.int .i64 (i : Int), .slice (a0 i) (R i).n (c0 i)], .complex .f64 (floatOfInt .f64 (q2.it p).1) (floatOfInt .f64 (q2.it p).2)] w' fun e w' => e = .returned (.int .i64 (F p i)) ∧ (Hid (Sp w') ∧ w'.cell? ⟨g1, i * 2, none⟩ = some (.int .i64 (i : Int)) ∧ w'.cell? ⟨g1, i * 2 + 1, none⟩ = some (.slice (a0 i) (R i).n (c0 i)) ∧ w'.cell? ⟨g5, i, none⟩ = some (.slice (a1 i) (R i).n (c1' i)) ∧ w'.cell? ⟨g3, p, none⟩ = some (.complex .f64 (floatOfInt .f64 (q2.it p).1) (floatOfInt .f64 (q2.it p).2))) from fun w' h => by
                have h' := h.1.out
                rw [hSp] at h'
                exact (h'.far1 HR.out HF.out i hil p).mono fun _ _ ⟨he, r⟩ => ⟨he, hC _ (by rw [hSp]; exact r.out)⟩)
              have HF2 := Lib.hid (show ∀ w', (Hid (Sp w') ∧ w'.cell? ⟨g1, i * 2, none⟩ = some (.int .i64 (i : Int)) ∧ w'.cell? ⟨g1, i * 2 + 1, none⟩ = some (.slice (a0 i) (R i).n (c0 i)) ∧ w'.cell? ⟨g5, i, none⟩ = some (.slice (a1 i) (R i).n (c1' i)) ∧ w'.cell? ⟨g3, p, none⟩ = some (.complex .f64 (floatOfInt .f64 (q2.it p).1) (floatOfInt .f64 (q2.it p).2))) → Calls Try.prog 10 #[.slice (a1 i) (R i).n (c1' i), .complex .f64 (floatOfInt .f64 (q2.it p).1) (floatOfInt .f64 (q2.it p).2)] w' fun e w' => e = .returned (.int .i64 (F p i)) ∧ (Hid (Sp w') ∧ w'.cell? ⟨g1, i * 2, none⟩ = some (.int .i64 (i : Int)) ∧ w'.cell? ⟨g1, i * 2 + 1, none⟩ = some (.slice (a0 i) (R i).n (c0 i)) ∧ w'.cell? ⟨g5, i, none⟩ = some (.slice (a1 i) (R i).n (c1' i)) ∧ w'.cell? ⟨g3, p, none⟩ = some (.complex .f64 (floatOfInt .f64 (q2.it p).1) (floatOfInt .f64 (q2.it p).2))) from fun w' h => by
                have h' := h.1.out
                rw [hSp] at h'
                exact (h'.rfar1 HR.out HF.out i hil p).mono fun _ _ ⟨he, r⟩ => ⟨he, hC _ (by rw [hSp]; exact r.out)⟩)
              have hSr := hC _ (by rw [hSp]; exact HY.out)
              have HSP := Lib.hid hSp
              obtain ⟨y, hy⟩ : ∃ y, y = F p i := ⟨_, rfl⟩
              rw [← hy] at HF1 HF2
              clear hC hSp HY x1 x2 x3 hy
              go_upto_region 22 with (fail)
              go_region_held3 (fun w' => Hid (Sp w') ∧ w'.cell? ⟨g1, i * 2, none⟩ = some (.int .i64 (i : Int)) ∧ w'.cell? ⟨g1, i * 2 + 1, none⟩ = some (.slice (a0 i) (R i).n (c0 i)) ∧ w'.cell? ⟨g5, i, none⟩ = some (.slice (a1 i) (R i).n (c1' i)) ∧ w'.cell? ⟨g3, p, none⟩ = some (.complex .f64 (floatOfInt .f64 (q2.it p).1) (floatOfInt .f64 (q2.it p).2))) (first | assumption | exact HDR.out _ (by assumption))
                (first
                  | (go_at_call 9; refine (HF1.out _ (by first | assumption | exact HDR.out _ (by assumption))).mono ?_; rintro e wm ⟨rfl, hSm⟩)
                  | (go_at_call 10; refine (HF2.out _ (by first | assumption | exact HDR.out _ (by assumption))).mono ?_; rintro e wn ⟨rfl, hSn⟩))
              have HYN : Hid (SS B W wn k m (some ⟨g1, 0, none⟩) c1 (some ⟨g3, 0, none⟩) c3 (some ⟨g4, 0, none⟩) c4 (some ⟨g5, 0, none⟩) c5 gt gn R a0 c0 a1 c1' q2.it F p) := Lib.hid (by have := hSn.1.out; rwa [HSP.out] at this)
              clear hSn hSm hSr HF1 HF2 HDR
              go_wp2
              go_roundw
              case rel => exact ⟨i + 1, by omega, by first | rfl | go_num, HYN⟩
              case measure => simp [intOf]; omega
            · obtain rfl : i = k := by omega
              obtain ⟨gv, hgv⟩ : ∃ gv, gv = gotN F i p := ⟨_, rfl⟩
              obtain ⟨pv, hpv⟩ : ∃ pv, pv = (pckN (F p) i).1 := ⟨_, rfl⟩
              obtain ⟨Sp, hSp⟩ : ∃ Sp : World → Prop, Sp = fun w' => SS B W w' i m A1 c1 (some ⟨g3, 0, none⟩) c3 (some ⟨g4, 0, none⟩) c4 A5 c5 gt gn R a0 c0 a1 c1' q2.it F p := ⟨_, rfl⟩
              have hC : ∀ w', Sp w' → Hid (Sp w') ∧ w'.cell? ⟨g3, p, none⟩ = some (.complex .f64 (floatOfInt .f64 (q2.it p).1) (floatOfInt .f64 (q2.it p).2)) ∧ w'.cell? ⟨g4, p, none⟩ = some (.int .i64 gv) := fun w' h => by
                have h' := h
                rw [hSp] at h'
                obtain ⟨_, e1, y4⟩ := h'.at1 p hpl
                injection e1 with e1
                injection e1 with e1 _ _
                subst e1
                obtain ⟨_, e1, y5⟩ := h'.got1 p hpl
                injection e1 with e1
                injection e1 with e1 _ _
                subst e1
                rw [hgv]
                exact ⟨Lib.hid h, y4, y5⟩
              have HDR := Lib.hid (show ∀ w', (Hid (Sp w') ∧ w'.cell? ⟨g3, p, none⟩ = some (.complex .f64 (floatOfInt .f64 (q2.it p).1) (floatOfInt .f64 (q2.it p).2)) ∧ w'.cell? ⟨g4, p, none⟩ = some (.int .i64 gv)) → (Hid (Sp w'.drew) ∧ w'.drew.cell? ⟨g3, p, none⟩ = some (.complex .f64 (floatOfInt .f64 (q2.it p).1) (floatOfInt .f64 (q2.it p).2)) ∧ w'.drew.cell? ⟨g4, p, none⟩ = some (.int .i64 gv)) from fun w' h => hC _ (by
                have := h.1.out
                rw [hSp] at this ⊢
                exact this.below (bel_drew 1)))
              have HF1 := Lib.hid (show ∀ w', (Hid (Sp w') ∧ w'.cell? ⟨g3, p, none⟩ = some (.complex .f64 (floatOfInt .f64 (q2.it p).1) (floatOfInt .f64 (q2.it p).2)) ∧ w'.cell? ⟨g4, p, none⟩ = some (.int .i64 gv)) → Calls Try.prog 11 #[.slice A1 i c1, .complex .f64 (floatOfInt .f64 (q2.it p).1) (floatOfInt .f64 (q2.it p).2)] w' fun e w' => e = .returned (.int .i64 pv) ∧ Hid (Sp w') ∧ w'.cell? ⟨g3, p, none⟩ = some (.complex .f64 (floatOfInt .f64 (q2.it p).1) (floatOfInt .f64 (q2.it p).2)) ∧ w'.cell? ⟨g4, p, none⟩ = some (.int .i64 gv) from fun w' h => by
                have h' := h.1.out
                rw [hSp] at h'
                rw [hpv]
                exact (h'.pick1 hn HR.out HF.out p).mono fun _ _ ⟨he, r⟩ => ⟨he, hC _ (by rw [hSp]; exact r.out)⟩)
              have HF2 := Lib.hid (show ∀ w', (Hid (Sp w') ∧ w'.cell? ⟨g3, p, none⟩ = some (.complex .f64 (floatOfInt .f64 (q2.it p).1) (floatOfInt .f64 (q2.it p).2)) ∧ w'.cell? ⟨g4, p, none⟩ = some (.int .i64 gv)) → Calls Try.prog 12 #[.slice A5 i c5, .slice (some ⟨gn, 0, none⟩) i i, .complex .f64 (floatOfInt .f64 (q2.it p).1) (floatOfInt .f64 (q2.it p).2)] w' fun e w' => e = .returned (.int .i64 pv) ∧ Hid (Sp w') ∧ w'.cell? ⟨g3, p, none⟩ = some (.complex .f64 (floatOfInt .f64 (q2.it p).1) (floatOfInt .f64 (q2.it p).2)) ∧ w'.cell? ⟨g4, p, none⟩ = some (.int .i64 gv) from fun w' h => by
                have h' := h.1.out
                rw [hSp] at h'
                rw [hpv]
                exact (h'.rpick1 hn HR.out HF.out p).mono fun _ _ ⟨he, r⟩ => ⟨he, hC _ (by rw [hSp]; exact r.out)⟩)
              have HF3 := Lib.hid (show ∀ w', (Hid (Sp w') ∧ w'.cell? ⟨g3, p, none⟩ = some (.complex .f64 (floatOfInt .f64 (q2.it p).1) (floatOfInt .f64 (q2.it p).2)) ∧ w'.cell? ⟨g4, p, none⟩ = some (.int .i64 gv)) → Calls Try.prog 12 #[.slice A5 i c5, .slice (some ⟨gt, 0, none⟩) i i, .complex .f64 (floatOfInt .f64 (q2.it p).1) (floatOfInt .f64 (q2.it p).2)] w' fun e w' => e = .returned (.int .i64 gv) ∧ Hid (Sp w') ∧ w'.cell? ⟨g3, p, none⟩ = some (.complex .f64 (floatOfInt .f64 (q2.it p).1) (floatOfInt .f64 (q2.it p).2)) ∧ w'.cell? ⟨g4, p, none⟩ = some (.int .i64 gv) from fun w' h => by
                have h' := h.1.out
                rw [hSp] at h'
                rw [hgv]
                have hr := (h'.rpick2 hn HR.out HF.out).mono fun _ _ ⟨he, r⟩ => (⟨he, hC _ (by rw [hSp]; exact r.out)⟩ : _ ∧ _)
                rw [← hgv] at hr ⊢
                exact hr)
              have hSr := hC _ (by rw [hSp]; exact HY.out)
              have HSP := Lib.hid hSp
              have HGV := Lib.hid hgv
              clear hC hSp HY hgv hpv
              go_upto_region 24 with (fail)
              go_region_held3 (fun w' => Hid (Sp w') ∧ w'.cell? ⟨g3, p, none⟩ = some (.complex .f64 (floatOfInt .f64 (q2.it p).1) (floatOfInt .f64 (q2.it p).2)) ∧ w'.cell? ⟨g4, p, none⟩ = some (.int .i64 gv)) (first | assumption | exact HDR.out _ (by assumption))
                (first
                  | (go_at_call 11; refine (HF1.out _ (by first | assumption | exact HDR.out _ (by assumption))).mono ?_; rintro e wm ⟨rfl, hSm⟩)
                  | (go_at_call 12; refine (HF2.out _ (by first | assumption | exact HDR.out _ (by assumption))).mono ?_; rintro e wn ⟨rfl, hSn⟩))
              clear HF1 HF2 hSm hSr
              go_wp2_with (fail)
              refine (HF3.out _ hSn).mono ?_
              rintro e w7 ⟨rfl, hS7⟩
              clear hSn HF3 HDR
              obtain ⟨hs7, x4, x5⟩ := hS7
              have hss := hs7.out
              rw [HSP.out] at hss
              by_cases hL : lft F i p = []
              · have e1 : gv = -1 := HGV.out.trans (got_none F i p hL).1
                subst e1
                have HN := Lib.hid (hss.stay hL)
                clear hss hs7 HSP hL HGV
                go_wp2
                go_roundw
                case rel => exact ⟨p + 1, by omega, by first | rfl | go_num, HN⟩
                case measure => simp [intOf]; omega
              · obtain ⟨x, hx, hxn, hxm, _, htk, _⟩ := got_some F i p hL
                have e1 : gv = (x : Int) := HGV.out.trans hx
                subst e1
                have s1 := hss.tak1 x hxn
                have s2 := hss.tak.frozenAt x
                have HN := Lib.hid (hss.mark x htk)
                have hx0 : (0 : Int) ≤ (x : Int) := by omega
                have hxk : (x : Int) < (i : Int) := by omega
                clear hss hs7 HSP hL HGV hx htk hxm
                go_wp2
                go_roundw
                case rel => exact ⟨p + 1, by omega, by first | rfl | go_num, HN⟩
                case measure => simp [intOf]; omega
        · obtain rfl : p = m := by omega
          go_wp2_with (fail)
          go_loopw [15] (fun iv wy => ∃ i : Nat, i ≤ k ∧ iv = .int .i64 (i : Int) ∧ Hid (SS B W wy k p A1 c1 A3 c3 A4 c4 A5 c5 gt gn R a0 c0 a1 c1' q2.it F p)) (fun iv _ => k - (intOf iv).toNat)
          case atStart => exact ⟨0, Nat.zero_le _, rfl, HP⟩
          case round =>
            obtain ⟨i, hik, rfl, HY⟩ := hrel
            by_cases hil : i < k
            · obtain ⟨g1, rfl, x1, x2⟩ := HY.out.in1 i hil
              obtain ⟨g5, rfl, x3⟩ := HY.out.doc1 i hil
              obtain ⟨N, hN⟩ : ∃ N, N = (R i).n := ⟨_, rfl⟩
              have hri : N ≤ 1048576 := by rw [hN]; exact HR.out i hil
              have HN := Lib.hid hN
              rw [← hN] at x2 x3
              clear hN
              have HY0 : Hid (∀ q, SS B W (wr.drewN q) k p (some ⟨g1, 0, none⟩) c1 A3 c3 A4 c4 (some ⟨g5, 0, none⟩) c5 gt gn R a0 c0 a1 c1' q2.it F p) := Lib.hid fun q => HY.out.below (bel_drew q)
              go_wp2_with (fail)
              go_quiet (fail)
              go_wp2_with (fail)
              go_loopw [16] (fun jv wy => ∃ j : Nat, j ≤ N ∧ jv = .int .i64 (j : Int) ∧ Hid (SS B W wy k p (some ⟨g1, 0, none⟩) c1 A3 c3 A4 c4 (some ⟨g5, 0, none⟩) c5 gt gn R a0 c0 a1 c1' q2.it F p)) (fun jv _ => N - (intOf jv).toNat)
              case atStart => exact ⟨0, Nat.zero_le _, rfl, Lib.hid (HY0.out _)⟩
              case round =>
                obtain ⟨j, hjn, rfl, HJ⟩ := hrel
                obtain ⟨_, e1, z1, z2⟩ := HJ.out.in1 i hil
                injection e1 with e1
                injection e1 with e1 _ _
                subst e1
                obtain ⟨_, e1, z3⟩ := HJ.out.doc1 i hil
                injection e1 with e1
                injection e1 with e1 _ _
                subst e1
                rw [← HN.out] at z2 z3
                have HJ0 : Hid (∀ q, SS B W (wr.drewN q) k p (some ⟨g1, 0, none⟩) c1 A3 c3 A4 c4 (some ⟨g5, 0, none⟩) c5 gt gn R a0 c0 a1 c1' q2.it F p) := Lib.hid fun q => HJ.out.below (bel_drew q)
                by_cases hjl : j < N
                · obtain ⟨⟨ga, ha, y1⟩, gb, hb, y2⟩ := HJ.out.hold i hil j (by rw [← HN.out]; exact hjl)
                  have o1 := order_int ((R i).it j).1
                  have o2 := order_int ((R i).it j).2
                  rw [ha] at z2
                  rw [hb] at z3
                  obtain ⟨X, hX⟩ : ∃ X, X = floatOfInt .f64 ((R i).it j).1 := ⟨_, rfl⟩
                  obtain ⟨Y, hY⟩ : ∃ Y, Y = floatOfInt .f64 ((R i).it j).2 := ⟨_, rfl⟩
                  rw [← hX, ← hY] at y1 y2
                  rw [← hX] at o1
                  rw [← hY] at o2
                  clear hX hY ha hb x1 x2 x3 HJ
                  go_wp2_with (fail)
                  go_quiet (fail)
                  go_wp2
                  exact ⟨⟨j + 1, by omega, by first | rfl | go_num, Lib.hid (HJ0.out _)⟩, by simp [intOf]; omega⟩
                · obtain rfl : j = N := by omega
                  go_wp2
                  exact ⟨⟨i + 1, by omega, by first | rfl | go_num, HJ⟩, by simp [intOf]; omega⟩
            · obtain rfl : i = k := by omega
              go_wp2
              go_ret
              exact ⟨rfl, HY.out.bel⟩

set_option maxRecDepth 100000 in
theorem contractUpto (H : Type) (enc : TypeId × Value → H) (W : World) (base : Nat) (args : Array Value) (ds gs : List (DataW H)) (before : List MemPlace)
    (hval : ∀ (j : Nat) t v, Try.f3.params[j]? = some t → args[j]? = some v → Value.okWide Try.prog W .any base t v)
    (hW : DataW.Whole enc Try.prog Try.f3.params.toList Rows.planSharesSpec.vars false W args.toList ds gs before)
    (hz : (DataW.weightsEach Try.prog (Try.f3.params.toList ++ []) (ds ++ gs)).all (· ≤ reachBytes) = true) (hk : Rows.uptoSmall H (ds ++ gs) = true) :
    Calls Try.prog 3 args W fun e W' => ∃ v, e = .returned v ∧ Rows.planSharesSpec.post enc Try.prog Try.f3 false true false false W args v W' := by
  have hW' := hW
  obtain ⟨p, q, hA0, hV, rfl, hfz, hnd⟩ := hW
  have hA : DataW.TrodAll enc Try.prog W 0 (fun _ => true) true Try.f3.params.toList args.toList ds p := hA0
  rw [Try.params3] at hA hval hz
  obtain ⟨v0, vs0, d0, ds0, p0, q0, hargs, rfl, rfl, h0, r0⟩ := trodAll_cons hA
  obtain ⟨v1, vs1, d1, ds1, p1, q1, rfl, rfl, rfl, h1, r1⟩ := trodAll_cons r0
  obtain ⟨rfl, rfl, rfl⟩ := trodAll_nil r1
  obtain rfl : args = #[v0, v1] := by cases args; simp_all
  obtain ⟨rfl, rfl⟩ := trodVars_none hV
  have hk1 : Rows.uptoBulk d0 ≤ 1048576 := by have h := of_decide_eq_true hk; simp only [List.append_nil, List.cons_append, List.nil_append, Rows.uptoBulkAll] at h; omega
  obtain ⟨A, n, cap, R, rfl, hn, _, _, hS⟩ := open_rows_arg (hval 0 22 v0 rfl rfl) h0 hk1
  have hk2 : Rows.uptoBulk d1 ≤ 1048576 := by have h := of_decide_eq_true hk; simp only [List.append_nil, List.cons_append, List.nil_append, Rows.uptoBulkAll] at h; omega
  obtain ⟨q2, hq2, hqn⟩ := open_row_arg (hval 1 23 v1 rfl rfl) h1 hk2
  obtain rfl := hq2.val
  clear hA0
  refine (walk A n cap R q2 W hn hS hq2.at' hqn).mono fun e W' ⟨he, hb⟩ => ?_
  subst he
  exact ⟨_, rfl, law_end hW' rfl rfl hb laidOut (by kernel_rfl) (by kernel_rfl) Try.underlying4⟩

theorem reads (os : Os) {H : Type} (enc : TypeId × Value → H) : ∃ places, DataW.whole enc Try.prog ((World.holding Try.prog os ⟨#[], #[], []⟩).forCall (fun _ _ => 0) ⟨#[], #[.slice none 0 0, .slice none 0 0], []⟩).memory Try.f3.params.toList Rows.planSharesSpec.vars false [Value.slice none 0 0, Value.slice none 0 0] 8 = some ([.nil, .nil], [], places) :=
  ⟨[], by kernel_rfl⟩

set_option maxRecDepth 100000 in
theorem lifted (os : Os) (started : os.Started) (H : Type) (enc : TypeId × Value → H) (F : Stop.Interp) :
    ReturnsInHanded {} Try.checked os 3 .any ((Rows.OpenSpec.upto Rows.planSharesSpec).preRow enc Try.prog Try.f3 Rows.planSharesUptoRow.domain false Rows.planSharesUptoRow.laid) (((Rows.OpenSpec.upto Rows.planSharesSpec).at F).post enc Try.prog Try.f3 false true false false) := by
  obtain ⟨places, hx⟩ := reads os enc
  have laid_met : laidMet Try.prog Rows.planSharesUptoRow.laid ((World.holding Try.prog os ⟨#[], #[], []⟩).forCall (fun _ _ => 0) ⟨#[], #[.slice none 0 0, .slice none 0 0], []⟩).memory := ⟨[], rfl, List.nodup_nil, fun _ _ h => by cases h⟩
  refine returnsInHanded_of_row (C := Try.checked) (s := Rows.OpenSpec.upto Rows.planSharesSpec) own started (by kernel_rfl) Try.func3
    (witness_row_at (enc := enc) (C := Try.checked) false (World.holding Try.prog os ⟨#[], #[], []⟩) #[.slice none 0 0, .slice none 0 0] rfl (by kernel_rfl) (by kernel_rfl) (by kernel_rfl)
      (OpenSpec.preRow_of_cond 8 hx (by kernel_rfl) (fun k hk => by cases hk; kernel_rfl) (by kernel_rfl) laid_met)) ?_
  intro W base args ds gs before hval hW _ hcond hz _ _ _
  exact contractUpto H enc W base args ds gs before hval hW hz (hcond _ rfl)

theorem said : Rows.PlanSharesUptoSaid :=
  OpenClaim.holds_of_cond 3 Try.f3 rfl rfl rfl rfl rfl rfl rfl ⟨rfl, rfl, rfl, rfl, rfl⟩ rfl rfl rfl rfl rfl (by kernel_rfl) Try.func3 (by kernel_rfl)
    (of_decide_eq_true (by kernel_rfl)) (by unfold Func.isWrapper; first | (rw [if_pos (by decide +kernel)]; kernel_rfl) | (rw [if_neg (by decide +kernel)]; exact ⟨rfl, rfl⟩))
    (fun os started H enc _ F => by rw [OpenClaim.pre_eq_preRow]; exact lifted os started H enc F)

end Go.Proofs.Ytahkelgcamcfmaa.fnPlanShares
