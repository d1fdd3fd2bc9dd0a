/- WhereNearest is true for every point and every list: the first of the nearest is no farther than any other, and a place is nearest to itself. No conditions. -/
import Derived.Test.YtegbdholdglghaaNearIs
import Derived.Test.YtegbdholdglghaaOpenPts
import Derived.Test.YtegbdholdglghaaNumbers
import Derived.Test.YtegbdholdglghaaNearReg13
import Derived.Test.YtegbdholdglghaaWhereFnsE
import Derived.BigQuiet
import Derived.Deep.RegionHeld3
import Derived.Deep.AppendLies
import Derived.Deep.DeepCutAuto

import Derived.Test.YtegbdholdglghaaLawEnd

import Derived.Test.YtegbdholdglghaaPlainKit

namespace Go.Proofs.Ytegbdholdglghaa.fnWhereNearest
open Go.ChangeShapes Go.WideShapes Go.ChangeAt Go.RowKit Go.WideMaps Go.WideElems
open Go.ChangeMaps (open_string)

theorem cell_on {w w' : World} {a : Addr} {v : Value} (h : w.cell? a = some v) (hb : Below w.heap.size w w') : w'.cell? a = some v := by
  refine (hb.cell (p := a) ?_).trans h
  rcases Nat.lt_or_ge a.block w.heap.size with hlt | hge
  · exact hlt
  · have h0 := World.cell?_spot h
    obtain ⟨b, off, spot⟩ := a
    have hspot : spot = none := h0
    subst hspot
    simp [World.cell?, Array.getElem?_eq_none hge] at h
/-- what a region of the law reads -/
abbrev Reads (w5 : World) (a1 a2 a3 a4 a5 a6 a7 : Addr) (v1 v2 v3 v4 v5 v6 v7 : Value) (w : World) : Prop :=
  Hid (Below w5.heap.size w5 w) ∧ w.cell? a1 = some v1 ∧ w.cell? a2 = some v2 ∧ w.cell? a3 = some v3 ∧ w.cell? a4 = some v4 ∧ w.cell? a5 = some v5 ∧ w.cell? a6 = some v6 ∧ w.cell? a7 = some v7
theorem reads_on {w5 w w' : World} {a1 a2 a3 a4 a5 a6 a7 : Addr} {v1 v2 v3 v4 v5 v6 v7 : Value} (k : Reads w5 a1 a2 a3 a4 a5 a6 a7 v1 v2 v3 v4 v5 v6 v7 w) (hb : Below w.heap.size w w') : Reads w5 a1 a2 a3 a4 a5 a6 a7 v1 v2 v3 v4 v5 v6 v7 w' :=
  ⟨Lib.hid (k.1.out.trans (hb.mono k.1.out.size)), cell_on k.2.1 hb, cell_on k.2.2.1 hb, cell_on k.2.2.2.1 hb, cell_on k.2.2.2.2.1 hb, cell_on k.2.2.2.2.2.1 hb, cell_on k.2.2.2.2.2.2.1 hb, cell_on k.2.2.2.2.2.2.2 hb⟩
theorem number_R {w5 w : World} {a1 a2 a3 a4 a5 a6 a7 : Addr} {v1 v2 v3 v4 v5 v6 v7 : Value} (k : Reads w5 a1 a2 a3 a4 a5 a6 a7 v1 v2 v3 v4 v5 v6 v7 w) (p : Pnt) :
    Calls Try.prog 10 #[.agg #[.int .i64 p.x, .int .i64 p.y, .bool p.raw]] w fun e w' => e = .returned (.complex .f64 p.re p.im) ∧ Reads w5 a1 a2 a3 a4 a5 a6 a7 v1 v2 v3 v4 v5 v6 v7 w' :=
  (number_any p w).mono fun _ _ ⟨he, hb⟩ => ⟨he, reads_on k hb⟩
theorem reads_drew {w5 w : World} {a1 a2 a3 a4 a5 a6 a7 : Addr} {v1 v2 v3 v4 v5 v6 v7 : Value} (k : Reads w5 a1 a2 a3 a4 a5 a6 a7 v1 v2 v3 v4 v5 v6 v7 w) : Reads w5 a1 a2 a3 a4 a5 a6 a7 v1 v2 v3 v4 v5 v6 v7 w.drew :=
  reads_on k ⟨rfl, rfl, rfl, Nat.le_refl _, fun _ _ => rfl⟩
theorem dist_bounds (p q : Option (Int × Int)) (hp : ∀ x, p = some x → Pt x) (hq : ∀ x, q = some x → Pt x) : -1 ≤ distO p q ∧ distO p q ≤ 8000000 := by
  cases p with
  | none => exact ⟨by show (-1 : Int) ≤ -1; omega, by show (-1 : Int) ≤ 8000000; omega⟩
  | some x =>
    cases q with
    | none => exact ⟨by show (-1 : Int) ≤ -1; omega, by show (-1 : Int) ≤ 8000000; omega⟩
    | some y => exact ⟨by have := sq_lo x y; show -1 ≤ sq x y; omega, sq_hi (hp x rfl) (hq y rfl)⟩
theorem dist_self (p : Option (Int × Int)) : (p = none ∧ distO p p = -1) ∨ distO p p = 0 := by
  cases p with
  | none => exact .inl ⟨rfl, rfl⟩
  | some x => right; show sq x x = 0; unfold sq; simp
theorem own_none {w w2 : World} {B n sz : Nat} {e : TypeId} {v : Value} {xs : List Value} (h : w.ownsRow B e sz v n xs) (hb : Below w.heap.size w w2) : w2.ownsRow B e sz v n xs :=
  h.kept (row := none) ⟨hb.os, hb.tape, hb.output, hb.size, fun k hk _ => hb.block k hk⟩ (by
    rcases h.2 with ⟨rfl, _⟩ | ⟨g, cp, cur, rfl, _, _, _⟩
    · exact .inl rfl
    · exact .inr (by simp [Value.ownBlock]))
theorem own_grow {w w1 w2 w3 : World} {B n : Nat} {e : TypeId} {v : Value} {xs : List Value} {o : Obj} (hb : Below B w w2) (hB : B ≤ w2.heap.size) (h : w2.ownsRow B e 1 v n xs) (hg : (w2.alloc o).grownBy w3 v.ownBlock) (_ : w1 = w1) : Below B w w3 := by
  refine (hb.alloc hB o).grown hg (by have := hb.size; simp; omega) (fun j ej => ?_)
  rcases h.2 with ⟨rfl, _⟩ | ⟨g, cp, cur, rfl, h1, _, _⟩
  · simp [Value.ownBlock] at ej
  · obtain rfl : g = j := by simpa [Value.ownBlock] using ej
    exact h1
set_option maxRecDepth 100000 in
set_option maxHeartbeats 8000000 in
theorem walk (p : Pnt) (A : Option Addr) (cap : Nat) (ps : List Pnt) (hl : ps.length ≤ 5864062014800) (w : World) (hP : PtsAt w w.heap.size A ps) :
    Calls Try.prog 5 #[.agg #[.int .i64 p.x, .int .i64 p.y, .bool p.raw], .slice A ps.length cap] w fun e w' => e = .returned (.bool true) ∧ Below w.heap.size w w' := by
  have HP := Lib.hid hP
  clear hP
  go_enter Try.func5, Try.ntmps5
  go_wp2_with (fail)
  refine (speaks3_any _).mono ?_
  rintro e w' ⟨rfl, rfl⟩
  go_wp2_with (fail)
  obtain ⟨i0, hi, hz0, hz1, hz2⟩ := info_parts infoCpx
  obtain ⟨N, hN⟩ : ∃ N, N = ps.length := ⟨_, rfl⟩
  obtain ⟨W0, hW0⟩ : ∃ W0, W0 = w.alloc (.cells #[.int .i64 p.x, .int .i64 p.y, .bool p.raw] 23) := ⟨_, rfl⟩
  have hB0 : Below w.heap.size w W0 := by rw [hW0]; exact (Below.refl _ _).alloc (Nat.le_refl _) _
  have hbox : ∀ w', Below W0.heap.size W0 w' → w'.cell? ⟨w.heap.size, 0, none⟩ = some (.int .i64 p.x) ∧ w'.cell? ⟨w.heap.size, 1, none⟩ = some (.int .i64 p.y) ∧ w'.cell? ⟨w.heap.size, 2, none⟩ = some (.bool p.raw) := fun w' h => by
    have hs : w.heap.size < W0.heap.size := by rw [hW0]; simp
    refine ⟨(h.cell (p := ⟨w.heap.size, 0, none⟩) hs).trans ?_, (h.cell (p := ⟨w.heap.size, 1, none⟩) hs).trans ?_, (h.cell (p := ⟨w.heap.size, 2, none⟩) hs).trans ?_⟩ <;> rw [hW0] <;> simp
  have hpts : ∀ w', Below W0.heap.size W0 w' → PtsAt w' w'.heap.size A ps := fun w' h => ((HP.out.below hB0).below (h.mono hB0.size)).up (by have := hB0.size; have := h.size; omega)
  have hnums := fun w' h => numbers_any A cap ps (by omega) w' (hpts w' h)
  rw [← hN] at hnums hl ⊢
  have HBOX := Lib.hid hbox
  have HNUMS := Lib.hid hnums
  have HB0 := Lib.hid hB0
  have HPTS := Lib.hid hpts
  have HN := Lib.hid hN
  have hsz0 : w.heap.size ≤ W0.heap.size := hB0.size
  rw [← hW0]
  obtain ⟨b0, hb0⟩ : ∃ b0, b0 = w.heap.size := ⟨_, rfl⟩
  have HB := Lib.hid hb0
  rw [← hb0] at hsz0 ⊢
  clear hbox hnums hB0 hpts hN hW0 hb0
  have hx0 := HBOX.out _ (Below.refl _ _)
  rw [← HB.out] at hx0
  obtain ⟨x0, x1, x2⟩ := hx0
  have k3 : N + 1 ≤ maxLen := by unfold maxLen; omega
  have k4 : (N + 1) * 16 ≤ 140737488355328 := by omega
  have HD0 : Below W0.heap.size W0 W0.drew := ⟨rfl, rfl, rfl, Nat.le_refl _, fun _ _ => rfl⟩
  go_cut [5] (fun s5 wx => ∃ v, s5 = v ∧ Hid (wx.ownsRow W0.heap.size 31 1 v (N + 1) (ps.map cpx ++ [.complex .f64 p.re p.im]) ∧ Below W0.heap.size W0 wx))
  case first =>
    go_region_law (first
      | (refine step_app03 (by rfl) (.tmp 13) (.tmp 16) 26 (by rfl) W0.heap.size 31 i0 _ 16 Try.underlying26 hi hz0 hz1 hz2 rfl _ N _ (by rfl) (ho2.alloc _) ⟨w2.heap.size, 0, none⟩ 1 (.complex .f64 p.re p.im) (by rfl) (by simp) rfl k3 k4 (by have := HB2.out.size; simp; omega) ?_; intro v' w3 hown' hgrow'; have HF := Lib.hid (And.intro hown' (own_grow (w1 := W0) HB2.out (HB2.out.size) ho2 hgrow' rfl)); clear hown' hgrow')
      | (go_simp; go_at_call 7; (refine (HNUMS.out _ HD0).mono ?_); rintro e w1 ⟨v, rfl, ho1, hb1⟩; have HB1 := Lib.hid (show Below W0.heap.size W0 w1 from ⟨hb1.os, hb1.tape, hb1.output, hb1.size, hb1.block⟩); have hx1 := HBOX.out _ HB1.out; rw [← HB.out] at hx1; obtain ⟨y0, y1, y2⟩ := hx1; clear hb1)
      | (go_simp; go_at_call 10; (with_reducible refine (number_any p _).mono ?_); rintro e w2 ⟨rfl, hb2⟩; have HB2 := Lib.hid (HB1.out.trans (hb2.mono HB1.out.size)); have ho2 := own_none ho1 hb2; clear hb2))
    all_goals first | (go_meet; exact ⟨_, rfl, HF⟩) | (go_wp2; go_meet; exact ⟨_, rfl, HF⟩)
  case rest =>
    obtain ⟨v, rfl, HF⟩ := hcut
    obtain ⟨qs, hqs⟩ : ∃ qs : List Pnt, qs = ps ++ [p] := ⟨_, rfl⟩
    have hql : qs.length = N + 1 := by rw [hqs, List.length_append, ← HN.out]; rfl
    have hrow : wc.ownsRow W0.heap.size 31 1 u5 (N + 1) (qs.map cpx) := by
      rw [hqs, List.map_append]; exact HF.out.1
    obtain ⟨g, cp, rfl, hg1, hg2⟩ := hrow.form (by omega)
    obtain ⟨q, hq⟩ : ∃ q : Nat → Pnt, q = fun i => qs.getD i p := ⟨_, rfl⟩
    have hcell : ∀ i, i < N + 1 → wc.cell? ⟨g, i, none⟩ = some (.complex .f64 (q i).re (q i).im) := fun i h => by
      have h1 := hrow.cellAt i (by omega)
      rw [h1, hq]
      have h2 : i < qs.length := by omega
      simp [cpx, h2]
    have hlast : q N = p := by
      rw [hq, hqs, HN.out]
      simp
    obtain ⟨dst, hdst⟩ : ∃ dst : Nat → Int, dst = fun i => distO (plc p.re p.im) (plc (q i).re (q i).im) := ⟨_, rfl⟩
    have hbw := HF.out.2
    have hSl : ∀ w', Below wc.heap.size wc w' → SlOf w' w'.heap.size (some ⟨g, 0, none⟩) (N + 1) (fun i => .complex .f64 (q i).re (q i).im) := fun w' h i hi => ⟨g, 0, rfl, by have := h.size; omega, by rw [Nat.zero_add]; exact (h.cell (p := ⟨g, i, none⟩) hg2).trans (hcell i hi)⟩
    have hnear := fun w' (h : Below wc.heap.size wc w') => near_is (N + 1) cp (some ⟨g, 0, none⟩) p.re p.im (fun i => (q i).re) (fun i => (q i).im) w' (by omega) (fun i => farI (dst i)) (by rw [hdst]) (hSl w' h)
    have hdd : ∀ i, dst i < 0 ∨ 0 ≤ dst i ∧ dst i < 9223372036854775807 := fun i => by
      have h1 := dist_bounds (plc p.re p.im) (plc (q i).re (q i).im) (fun _ h => plc_pt h) (fun _ h => plc_pt h)
      have h2 : dst i = distO (plc p.re p.im) (plc (q i).re (q i).im) := by rw [hdst]
      rw [h2]
      omega
    have hself := dist_self (plc p.re p.im)
    have hdN : dst N = distO (plc p.re p.im) (plc p.re p.im) := by rw [hdst]; show distO _ (plc (q N).re (q N).im) = _; rw [hlast]
    have hdist := fun i w => dist_any p.re p.im (q i).re (q i).im w
    have hdst2 : ∀ i, distO (plc p.re p.im) (plc (q i).re (q i).im) = dst i := fun i => by rw [hdst]
    simp only [hdst2] at hdist
    have hdist0 := fun w => dist_any p.re p.im p.re p.im w
    rw [← hdN] at hdist0 hself
    have hx5 := HBOX.out _ hbw
    rw [← HB.out] at hx5
    obtain ⟨x0', x1', x2'⟩ := hx5
    have hbb : b0 < wc.heap.size := by
      have h1 := hbw.size
      rcases Nat.lt_or_ge b0 wc.heap.size with h | h
      · exact h
      · simp [World.cell?, Array.getElem?_eq_none h] at x0'
    have HCELL := Lib.hid hcell
    have HNEAR := Lib.hid hnear
    have HDD := Lib.hid hdd
    have HSELF := Lib.hid hself
    have HDIST := Lib.hid hdist
    have HDIST0 := Lib.hid hdist0
    have HG2 := Lib.hid hg2
    have HBW := Lib.hid (HB0.out.trans (hbw.mono HB0.out.size))
    clear hcell hSl hnear hdd hself hdN hdist hdst2 hdist0 hdst hq hqs hql hrow hlast hg1 hg2 hbw HF x0 x1 x2
    go_wp2_with (fail)
    refine (number_any p _).mono ?_
    rintro e w4 ⟨rfl, hb4⟩
    have HB4 := Lib.hid hb4
    have z0 := cell_on x0' hb4
    have z1 := cell_on x1' hb4
    have z2 := cell_on x2' hb4
    clear hb4 x0' x1' x2'
    go_wp2_with (fail)
    refine (HNEAR.out _ HB4.out).mono ?_
    rintro e w5 ⟨rfl, f, hf, hfc, hb5⟩
    have y0' := cell_on z0 hb5
    have y1' := cell_on z1 hb5
    have y2' := cell_on z2 hb5
    have HL5 : Hid (∀ i, i < N + 1 → w5.cell? ⟨g, i, none⟩ = some (.complex .f64 (q i).re (q i).im)) := Lib.hid fun i hi => cell_on (cell_on (HCELL.out i hi) HB4.out) hb5
    have HF5 := Lib.hid hf
    have HC5 : Hid (∀ i, i < N + 1 → w5.cell? ⟨w4.heap.size, i, none⟩ = some (.int .i64 (f i : Int))) := Lib.hid fun i hi => (hfc i hi).1
    have HB5 := Lib.hid (HBW.out.trans ((HB4.out.trans (hb5.mono HB4.out.size)).mono HBW.out.size))
    obtain ⟨nb, hnb⟩ : ∃ nb, nb = w4.heap.size := ⟨_, rfl⟩
    rw [← hnb] at HC5 ⊢
    clear hf hfc hb5 z0 z1 z2 hnb HNEAR
    go_wp2
    go_loopw [7] (fun iv wr => ∃ j : Nat, j ≤ N ∧ iv = .int .i64 ((j : Int) + 1) ∧ Hid (Below w5.heap.size w5 wr)) (fun iv _ => N + 1 - (intOf iv).toNat)
    case atStart => exact ⟨0, Nat.zero_le _, rfl, Lib.hid (Below.refl _ _)⟩
    case round =>
      obtain ⟨j, hj, rfl, HW⟩ := hrel
      by_cases hlt : j < N
      · obtain ⟨hfl, hfm, hfs⟩ := HF5.out
        have l1 := hfl j (by omega)
        have l2 := hfl (j + 1) (by omega)
        have hord := hfs j (j + 1) (by omega) (by omega)
        have r1 := cell_on (HC5.out j (by omega)) HW.out
        have r2 := cell_on (HC5.out (j + 1) (by omega)) HW.out
        have r3 := cell_on (HL5.out (f j) l1) HW.out
        have r4 := cell_on (HL5.out (f (j + 1)) l2) HW.out
        have r5 := cell_on y0' HW.out
        have r6 := cell_on y1' HW.out
        have r7 := cell_on y2' HW.out
        have hd1 := HDIST.out (f j)
        have hd2 := HDIST.out (f (j + 1))
        have e1 := HDD.out (f j)
        have e2 := HDD.out (f (j + 1))
        obtain ⟨n1, hn1⟩ : ∃ n1, n1 = f j := ⟨_, rfl⟩
        obtain ⟨n2, hn2⟩ : ∃ n2, n2 = f (j + 1) := ⟨_, rfl⟩
        rw [← hn1] at l1 r1 r3 hd1 e1 hord
        rw [← hn2] at l2 r2 r4 hd2 e2 hord
        obtain ⟨x, hx⟩ : ∃ x, x = dst n1 := ⟨_, rfl⟩
        obtain ⟨y, hy⟩ : ∃ y, y = dst n2 := ⟨_, rfl⟩
        simp only [← hx, ← hy] at hd1 hd2 e1 e2 hord
        have hcase : (x < 0 ∧ y < 0 ∧ (x = y → n1 < n2)) ∨ (0 ≤ x ∧ y < 0) ∨ (0 ≤ x ∧ 0 ≤ y ∧ x < y) ∨ (0 ≤ x ∧ x = y ∧ n1 < n2) := by
          unfold farI at hord
          split at hord <;> split at hord <;> omega
        have l1' : (n1 : Int) < (N : Int) + 1 := by omega
        have l2' : (n2 : Int) < (N : Int) + 1 := by omega
        have v1 : IntKind.i64.wrap ((j : Int) + 1 - 1) = (j : Int) := by rw [Int.add_sub_cancel]; exact IntWalk.i64_in _ ⟨by omega, by omega⟩
        have v9 : IntKind.i64.wrap (j : Int) = (j : Int) := IntWalk.i64_in _ ⟨by omega, by omega⟩
        have v2 : (0 : Int) ≤ (j : Int) := by omega
        have v3 : (j : Int) < (N : Int) + 1 := by omega
        have v4 : (j : Int) + 1 < (N : Int) + 1 := by omega
        have v5 : (0 : Int) ≤ (j : Int) + 1 := by omega
        have v6 : (0 : Int) ≤ (n1 : Int) := by omega
        have v7 : (0 : Int) ≤ (n2 : Int) := by omega
        have v8 : j < N + 1 := by omega
        have HD1 := Lib.hid hd1
        have HD2 := Lib.hid hd2
        have HCASE := Lib.hid hcase
        have HR : Reads w5 ⟨nb, j, none⟩ ⟨nb, j + 1, none⟩ ⟨g, n1, none⟩ ⟨g, n2, none⟩ ⟨b0, 0, none⟩ ⟨b0, 1, none⟩ ⟨b0, 2, none⟩ _ _ _ _ _ _ _ wr := ⟨HW, r1, r2, r3, r4, r5, r6, r7⟩
        clear hfl hfm hfs hord hd1 hd2 e1 e2 hn1 hn2 hx hy hcase
        go_wp2_with (fail)
        go_region_held3 (fun w' => Reads w5 ⟨nb, j, none⟩ ⟨nb, j + 1, none⟩ ⟨g, n1, none⟩ ⟨g, n2, none⟩ ⟨b0, 0, none⟩ ⟨b0, 1, none⟩ ⟨b0, 2, none⟩ (.int .i64 (n1 : Int)) (.int .i64 (n2 : Int)) (.complex .f64 (q n1).re (q n1).im) (.complex .f64 (q n2).re (q n2).im) (.int .i64 p.x) (.int .i64 p.y) (.bool p.raw) w') (first | assumption | exact reads_drew (by assumption))
          (first | (go_at_call 10; refine (number_R (by assumption) _).mono ?_; rintro e w' ⟨rfl, hS⟩) | (go_at_call 15; first | ((with_reducible refine (HD1.out _).mono ?_); rintro e w' ⟨rfl, rfl⟩) | ((with_reducible refine (HD2.out _).mono ?_); rintro e w' ⟨rfl, rfl⟩)))
        have HK := Lib.hid hS.1.out
        obtain ⟨_, c1, c2, _, _, _, _, _⟩ := hS
        clear HR r1 r2 r3 r4 r5 r6 r7 HD1 HD2 v1 v9 HW y0' y1' y2'
        rcases HCASE.out with ⟨h1, h2, h3⟩ | ⟨h1, h2⟩ | ⟨h1, h2, h3⟩ | ⟨h1, h2, h3⟩
        · by_cases he : x = y
          · have h4 := h3 he
            subst he
            have z1 : decide (0 ≤ x) = false := decide_eq_false (by omega)
            have z3 : decide (x < 0) = true := decide_eq_true (by omega)
            have z6 : decide (n2 ≤ n1) = false := decide_eq_false (by omega)
            clear h3
            go_wp2_with (fail)
            go_quiet (fail)
            go_wp2
            go_roundw
            case rel => exact ⟨j + 1, by omega, by first | rfl | go_num, Lib.hid (below_drewN HK.out _)⟩
            case measure => simp [intOf]; omega
          · have t1 : (x == y) = false := by simpa using he
            have z1 : decide (0 ≤ y) = false := decide_eq_false (by omega)
            have z3 : decide (x < 0) = true := decide_eq_true (by omega)
            clear h3
            go_wp2_with (fail)
            go_quiet (fail)
            go_wp2
            go_roundw
            case rel => exact ⟨j + 1, by omega, by first | rfl | go_num, Lib.hid (below_drewN HK.out _)⟩
            case measure => simp [intOf]; omega
        · have he : x ≠ y := by omega
          have t1 : (x == y) = false := by simpa using he
          have z1 : decide (0 ≤ y) = false := decide_eq_false (by omega)
          have z3 : decide (x < 0) = false := decide_eq_false (by omega)
          go_wp2_with (fail)
          go_quiet (fail)
          go_wp2
          go_roundw
          case rel => exact ⟨j + 1, by omega, by first | rfl | go_num, Lib.hid (below_drewN HK.out _)⟩
          case measure => simp [intOf]; omega
        · have he : x ≠ y := by omega
          have t1 : (x == y) = false := by simpa using he
          have z1 : decide (0 ≤ y) = true := decide_eq_true (by omega)
          have z2 : decide (y < x) = false := decide_eq_false (by omega)
          have z3 : decide (x < 0) = false := decide_eq_false (by omega)
          go_wp2_with (fail)
          go_quiet (fail)
          go_wp2
          go_roundw
          case rel => exact ⟨j + 1, by omega, by first | rfl | go_num, Lib.hid (below_drewN HK.out _)⟩
          case measure => simp [intOf]; omega
        · subst h2
          have z1 : decide (0 ≤ x) = true := decide_eq_true (by omega)
          have z2 : decide (x < x) = false := decide_eq_false (by omega)
          have z3 : decide (x < 0) = false := decide_eq_false (by omega)
          have z6 : decide (n2 ≤ n1) = false := decide_eq_false (by omega)
          go_wp2_with (fail)
          go_quiet (fail)
          go_wp2
          go_roundw
          case rel => exact ⟨j + 1, by omega, by first | rfl | go_num, Lib.hid (below_drewN HK.out _)⟩
          case measure => simp [intOf]; omega
      · obtain rfl : j = N := by omega
        obtain ⟨hfl, hfm, hfs⟩ := HF5.out
        have l1 := hfl 0 (by omega)
        have r1 := cell_on (HC5.out 0 (by omega)) HW.out
        have r3 := cell_on (HL5.out (f 0) l1) HW.out
        have r5 := cell_on y0' HW.out
        have r6 := cell_on y1' HW.out
        have r7 := cell_on y2' HW.out
        have hd1 := HDIST.out (f 0)
        have hd0 := HDIST0.out
        obtain ⟨i, hi1, hi2⟩ := hfm j (by omega)
        have hzero : dst j = 0 → dst (f 0) = 0 := fun h => by
          have e1 := HDD.out (f 0)
          rcases Nat.eq_zero_or_pos i with h0 | h0
          · rw [← h0, hi2]; exact h
          · have h2 : farI (dst (f 0)) < farI (dst (f i)) ∨ (farI (dst (f 0)) = farI (dst (f i)) ∧ f 0 < f i) := hfs 0 i h0 hi1
            rw [hi2, h] at h2
            unfold farI at h2
            rw [if_neg (show ¬ (0 : Int) < 0 by omega)] at h2
            split at h2 <;> omega
        have hself := HSELF.out
        obtain ⟨n1, hn1⟩ : ∃ n1, n1 = f 0 := ⟨_, rfl⟩
        rw [← hn1] at l1 r1 r3 hd1 hzero
        have l1' : (n1 : Int) < (j : Int) + 1 := by omega
        have v6 : (0 : Int) ≤ (n1 : Int) := by omega
        have HR : Reads w5 ⟨nb, 0, none⟩ ⟨nb, 0, none⟩ ⟨g, n1, none⟩ ⟨g, n1, none⟩ ⟨b0, 0, none⟩ ⟨b0, 1, none⟩ ⟨b0, 2, none⟩ _ _ _ _ _ _ _ wr := ⟨HW, r1, r1, r3, r3, r5, r6, r7⟩
        clear hfl hfm hfs hi1 hi2 hn1
        have hd : dst j = -1 ∨ (dst j = 0 ∧ dst n1 = 0) := by
          rcases hself with ⟨_, h⟩ | h
          · exact .inl h
          · exact .inr ⟨h, hzero h⟩
        have HD := Lib.hid hd
        have HD0 := Lib.hid hd0
        have HD1 := Lib.hid hd1
        have R1 := Lib.hid r1
        have R3 := Lib.hid r3
        have R5 := Lib.hid r5
        have R6 := Lib.hid r6
        have R7 := Lib.hid r7
        clear HR hd hd0 hd1 hzero hself r1 r3 r5 r6 r7
        go_wp2_with (fail)
        refine reg13_any HD.out hl l1 (R1.out) (R3.out) (R5.out) (R6.out) (R7.out) HD0.out HD1.out _ _ _ _ _ _ _ _ _ _ _ _ _ _ _ _ _ _ _ _ _ _ _ _ _ _ _ _ _ _ _ _ _ _ _ _ _ _ _ _ _ _ _ _ _ _ _ _ _ _ _ _ _ _ _ _ _ _ _ _ _ _ _ _ _ _ _ _ _ _ _ _ _ _ _ _ _ _ _ _ _ _ _ _ _ _ _ _ _ _ _ _ _ _ _ _ _ _ _ _ _ ?_
        intros w' _ _ _ _ _ _ _ _ _ _ _ _ _ _ _ _ _ _ hb9
        have HB9 := Lib.hid (HB5.out.trans ((HW.out.trans (hb9.mono HW.out.size)).mono HB5.out.size))
        clear hb9
        go_wp2_with (fail)
        go_ret
        exact ⟨rfl, HB9.out⟩

set_option maxRecDepth 100000 in
theorem contract (H : Type) (enc : TypeId × Value → H) (W : World) (base : Nat) (args : Array Value) (ds gs : List (DataW H)) (before : List MemPlace)
    (hval : ∀ (j : Nat) t v, Try.f5.params[j]? = some t → args[j]? = some v → Value.okWide Try.prog W .any base t v)
    (hW : DataW.Whole enc Try.prog Try.f5.params.toList Rows.whereNearestSpec.vars false W args.toList ds gs before)
    (hz : (DataW.weightsEach Try.prog (Try.f5.params.toList ++ []) (ds ++ gs)).all (· ≤ reachBytes) = true) :
    Calls Try.prog 5 args W fun e W' => ∃ v, e = .returned v ∧ Rows.whereNearestSpec.post enc Try.prog Try.f5 false true false false W args v W' := by
  have hW' := hW
  obtain ⟨p, q, hA0, hV, rfl, hfz, hnd⟩ := hW
  have hA : DataW.TrodAll enc Try.prog W 0 (fun _ => true) true Try.f5.params.toList args.toList ds p := hA0
  rw [Try.params5] at hA hval hz
  obtain ⟨v0, vs0, d0, ds0, p0, q0, hargs, rfl, rfl, h0, r0⟩ := trodAll_cons hA
  obtain ⟨v1, vs1, d1, ds1, p1, q1, rfl, rfl, rfl, h1, r1⟩ := trodAll_cons r0
  obtain ⟨rfl, rfl, rfl⟩ := trodAll_nil r1
  obtain rfl : args = #[v0, v1] := by cases args; simp_all
  obtain ⟨rfl, rfl⟩ := trodVars_none hV
  obtain ⟨x0, rfl⟩ := open_point (hval 0 23 v0 rfl rfl) h0
  have hw1 : ∀ m ∈ d1.weights Try.prog 24, m ≤ reachBytes := fun m hm => by
    have hall := List.all_eq_true.1 hz m (DataW.weights_mem_each (j := 1) (t := 24) rfl rfl m hm)
    simpa using hall
  obtain ⟨A, cap, ps, rfl, hlen, hT⟩ := open_pts (hval 1 24 v1 rfl rfl) h1 hw1
  clear hA0
  refine (walk x0 A cap ps hlen W hT).mono fun e W' ⟨he, hb⟩ => ?_
  subst he
  exact ⟨_, rfl, law_end hW' rfl rfl hb laidOut (by kernel_rfl) (by kernel_rfl) Try.underlying4⟩

theorem reads (os : Os) {H : Type} (enc : TypeId × Value → H) : ∃ places, DataW.whole enc Try.prog ((World.holding Try.prog os ⟨#[], #[], []⟩).forCall (fun _ _ => 0) ⟨#[], #[.agg #[.int .i64 0, .int .i64 0, .bool false], .slice none 0 0], []⟩).memory Try.f5.params.toList Rows.whereNearestSpec.vars false [Value.agg #[.int .i64 0, .int .i64 0, .bool false], Value.slice none 0 0] 8 = some ([.agg [.lit (.int .i64 0), .lit (.int .i64 0), .lit (.bool false)], .nil], [], places) :=
  ⟨[], by kernel_rfl⟩

set_option maxRecDepth 100000 in
theorem lifted (os : Os) (started : os.Started) (H : Type) (enc : TypeId × Value → H) (F : Stop.Interp) :
    ReturnsInHanded {} Try.checked os 5 .any ((OpenSpec.ofChange Rows.whereNearestSpec).preRow enc Try.prog Try.f5 Rows.whereNearestRow.domain false Rows.whereNearestRow.laid) (((OpenSpec.ofChange Rows.whereNearestSpec).at F).post enc Try.prog Try.f5 false true false false) := by
  obtain ⟨places, hx⟩ := reads os enc
  have laid_met : laidMet Try.prog Rows.whereNearestRow.laid ((World.holding Try.prog os ⟨#[], #[], []⟩).forCall (fun _ _ => 0) ⟨#[], #[.agg #[.int .i64 0, .int .i64 0, .bool false], .slice none 0 0], []⟩).memory := ⟨[], rfl, List.nodup_nil, fun _ _ h => by cases h⟩
  refine returnsInHanded_of_row (C := Try.checked) (s := OpenSpec.ofChange Rows.whereNearestSpec) own started (by kernel_rfl) Try.func5
    (witness_row_at (enc := enc) (C := Try.checked) false (World.holding Try.prog os ⟨#[], #[], []⟩) #[.agg #[.int .i64 0, .int .i64 0, .bool false], .slice none 0 0] rfl (by kernel_rfl) (by kernel_rfl) (by kernel_rfl)
      (OpenSpec.preRow_of_cond 8 hx (by kernel_rfl) (fun k hk => by cases hk) (by kernel_rfl) laid_met)) ?_
  intro W base args ds gs before hval hW _ _ hz _ _ _
  exact contract H enc W base args ds gs before hval hW hz

theorem said : Rows.WhereNearestSaid :=
  OpenClaim.holds_of_cond 5 Try.f5 rfl rfl rfl rfl rfl rfl rfl ⟨rfl, rfl, rfl, rfl, rfl⟩ rfl rfl rfl rfl rfl (by kernel_rfl) Try.func5 (by kernel_rfl)
    (of_decide_eq_true (by kernel_rfl)) (by unfold Func.isWrapper; first | (rw [if_pos (by decide +kernel)]; kernel_rfl) | (rw [if_neg (by decide +kernel)]; exact ⟨rfl, rfl⟩))
    (fun os started H enc _ F => by rw [OpenClaim.pre_eq_preRow]; exact lifted os started H enc F)

end Go.Proofs.Ytegbdholdglghaa.fnWhereNearest
