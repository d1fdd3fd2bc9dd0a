/- WhereSpreads is true for every point, every list and every count: the places that stand apart are the document's, as new memory each time. Its condition: what it reads is of bulk at most 1048576. -/
import Derived.Test.YtjjmflkdfgneoaaSprAll
import Derived.Test.YtjjmflkdfgneoaaOpenPtsU
import Derived.Test.YtjjmflkdfgneoaaWhereFnsE
import Derived.BigQuiet
import Derived.Deep.RegionHeld3
import Derived.Deep.AppendLies

import Derived.Test.YtjjmflkdfgneoaaLawEnd

import Derived.Test.YtjjmflkdfgneoaaPlainKit

namespace Go.Proofs.Ytjjmflkdfgneoaa.fnWhereSpreads
open Go.ChangeShapes Go.WideShapes Go.ChangeAt Go.RowKit Go.WideMaps Go.WideElems
open Go.ChangeMaps (open_string)

theorem cell_on {w w' : World} {a : Addr} {v : Value} (h : w.cell? a = some v) (hb : Below w.heap.size w w') : w'.cell? a = some v := by
  refine (hb.cell (p := a) ?_).trans h
  rcases Nat.lt_or_ge a.block w.heap.size with hlt | hge
  · exact hlt
  · have h0 := World.cell?_spot h
    obtain ⟨b, off, spot⟩ := a
    have hspot : spot = none := h0
    subst hspot
    simp [World.cell?, Array.getElem?_eq_none hge] at h
/-- a row of numbers that can be read -/
def Rd (w : World) (T : List Nat) (A : Option Addr) (lo hi : Nat) : Prop := ∀ i, i < T.length → ∃ g, A = some ⟨g, 0, none⟩ ∧ lo ≤ g ∧ g < hi ∧ w.cell? ⟨g, i, none⟩ = some (.int .i64 (T.getD i 0 : Int))
theorem Rd.on {w w' : World} {T : List Nat} {A : Option Addr} {lo hi : Nat} (h : Rd w T A lo hi) (hb : Below w.heap.size w w') : Rd w' T A lo hi := fun i hi => by
  obtain ⟨g, e, h1, h2, h3⟩ := h i hi
  exact ⟨g, e, h1, h2, cell_on h3 hb⟩
theorem rowT_rd {w w' : World} {T : List Nat} {v : Value} (ho : w'.ownsRow w.heap.size 3 1 v T.length (outT T)) : ∃ A c, v = .slice A T.length c ∧ Rd w' T A w.heap.size w'.heap.size := by
  rcases ho.2 with ⟨rfl, h0⟩ | ⟨g, cap, cur, rfl, hB, h1, h2⟩
  · exact ⟨none, 0, by rw [h0], fun i hi => by omega⟩
  · refine ⟨some ⟨g, 0, none⟩, cap, rfl, fun i hi => ⟨g, rfl, hB, (Array.getElem?_eq_some_iff.1 h1).1, ?_⟩⟩
    rw [ho.cellAt i (by omega)]
    simp [outT, hi, List.getD_eq_getElem?_getD]
set_option maxHeartbeats 1000000 in
theorem same_ints (A C : Option Addr) (n cap cap' : Nat) (f : Nat → Int) (w : World) (hn : n ≤ 35184372088832) (hA : ∀ i, i < n → ∃ b off, A = some ⟨b, off, none⟩ ∧ w.cell? ⟨b, off + i, none⟩ = some (.int .i64 (f i))) (hC : ∀ i, i < n → ∃ b off, C = some ⟨b, off, none⟩ ∧ w.cell? ⟨b, off + i, none⟩ = some (.int .i64 (f i))) :
    Calls Try.prog 9 #[.slice A n cap, .slice C n cap'] w fun e w' => e = .returned (.bool true) ∧ ∃ m, w' = w.drewN m := by
  have HA := Lib.hid hA
  have HC := Lib.hid hC
  clear hA hC
  go_enter Try.func9, Try.ntmps9
  go_wp2
  go_loopw [5] (fun i wr => ∃ k : Nat, k ≤ n ∧ i = .int .i64 k ∧ ∃ m, wr = w.drewN m) (fun i _ => n - (intOf i).toNat)
  case atStart => exact ⟨0, Nat.zero_le _, rfl, 0, rfl⟩
  case round =>
    obtain ⟨k, hk, rfl, m, rfl⟩ := hrel
    by_cases hlt : k < n
    · obtain ⟨b, off, rfl, hc⟩ := HA.out k hlt
      obtain ⟨b', off', rfl, hc'⟩ := HC.out k hlt
      go_wp2_with (fail)
      go_quiet (fail)
      go_wp2
      go_roundw
      case rel => exact ⟨k + 1, by omega, by go_num, _, rfl⟩
      case measure => simp [intOf]; omega
    · go_wp2
      go_ret
      exact ⟨rfl, m, rfl⟩
theorem same_rd (A C : Option Addr) (T : List Nat) (cap cap' : Nat) (w : World) (hn : T.length ≤ 35184372088832) {l1 h1 l2 h2 : Nat} (hA : Rd w T A l1 h1) (hC : Rd w T C l2 h2) :
    Calls Try.prog 9 #[.slice A T.length cap, .slice C T.length cap'] w fun e w' => e = .returned (.bool true) ∧ ∃ m, w' = w.drewN m :=
  same_ints A C T.length cap cap' (fun i => (T.getD i 0 : Int)) w hn (fun i hi => by
    obtain ⟨g, e, _, _, hc⟩ := hA i hi
    exact ⟨g, 0, e, by rw [Nat.zero_add]; exact hc⟩) (fun i hi => by
    obtain ⟨g, e, _, _, hc⟩ := hC i hi
    exact ⟨g, 0, e, by rw [Nat.zero_add]; exact hc⟩)
abbrev B3 (w5 : World) (a1 a2 a3 : Addr) (v1 v2 v3 : Value) (w : World) : Prop :=
  Hid (Below w5.heap.size w5 w) ∧ w.cell? a1 = some v1 ∧ w.cell? a2 = some v2 ∧ w.cell? a3 = some v3
theorem b3_on {w5 w w' : World} {a1 a2 a3 : Addr} {v1 v2 v3 : Value} (k : B3 w5 a1 a2 a3 v1 v2 v3 w) (hb : Below w.heap.size w w') : B3 w5 a1 a2 a3 v1 v2 v3 w' :=
  ⟨Lib.hid (k.1.out.trans (hb.mono k.1.out.size)), cell_on k.2.1 hb, cell_on k.2.2.1 hb, cell_on k.2.2.2 hb⟩
theorem b3_drew {w5 w : World} {a1 a2 a3 : Addr} {v1 v2 v3 : Value} (k : B3 w5 a1 a2 a3 v1 v2 v3 w) : B3 w5 a1 a2 a3 v1 v2 v3 w.drew := b3_on k ⟨rfl, rfl, rfl, Nat.le_refl _, fun _ _ => rfl⟩
theorem row_forms {w : World} {B k : Nat} {e : TypeId} {v : Value} {xs : List Value} (hx : xs.length = k) (ho : w.ownsRow B e 1 v k xs) : ∃ (A : Option Addr) (cap : Nat), v = .slice A k cap ∧ ∀ j u, xs[j]? = some u → ∃ g, A = some ⟨g, 0, none⟩ ∧ g < w.heap.size ∧ w.cell? ⟨g, j, none⟩ = some u := by
  rcases ho.2 with ⟨rfl, h0⟩ | ⟨g, cap, cur, rfl, hB, h1, h2⟩
  · subst h0
    have hnil : xs = [] := List.length_eq_zero_iff.1 hx
    subst hnil
    exact ⟨none, 0, rfl, fun j u hj => by simp at hj⟩
  · refine ⟨some ⟨g, 0, none⟩, cap, rfl, fun j u hj => ⟨g, rfl, (Array.getElem?_eq_some_iff.1 h1).1, ?_⟩⟩
    have hl := (List.getElem?_eq_some_iff.1 hj).1
    exact (ho.cellAt j (by omega)).trans hj
set_option maxRecDepth 100000 in
set_option maxHeartbeats 16000000 in
theorem walk (p : Pnt) (A : Option Addr) (cap : Nat) (ps : List Pnt) (hl : ps.length ≤ 1048576) (n : Int) (w : World) (hP : PtsAt w w.heap.size A ps) :
    Calls Try.prog 3 #[.agg #[.int .i64 p.x, .int .i64 p.y, .bool p.raw], .slice A ps.length cap, .int .i64 n] w fun e w' => e = .returned (.bool true) ∧ Below w.heap.size w w' := by
  have HP := Lib.hid hP
  clear hP
  go_enter Try.func3, Try.ntmps3
  go_wp2_with (fail)
  refine (speaks3_any _).mono ?_
  rintro e w' ⟨rfl, rfl⟩
  go_wp2_with (fail)
  obtain ⟨N, hN⟩ : ∃ N, N = ps.length := ⟨_, rfl⟩
  obtain ⟨W0, hW0⟩ : ∃ W0, W0 = w.alloc (.cells #[.int .i64 p.x, .int .i64 p.y, .bool p.raw] 23) := ⟨_, rfl⟩
  have hB0 : Below w.heap.size w W0 := by rw [hW0]; exact (Below.refl _ _).alloc (Nat.le_refl _) _
  have x0 : W0.cell? ⟨w.heap.size, 0, none⟩ = some (.int .i64 p.x) := by rw [hW0]; simp
  have x1 : W0.cell? ⟨w.heap.size, 1, none⟩ = some (.int .i64 p.y) := by rw [hW0]; simp
  have x2 : W0.cell? ⟨w.heap.size, 2, none⟩ = some (.bool p.raw) := by rw [hW0]; simp
  have hnums := numbers_any A cap ps (by omega) W0 ((HP.out.below hB0).up hB0.size)
  rw [← hN] at hnums hl ⊢
  have HB0 := Lib.hid hB0
  have HN := Lib.hid hN
  rw [← hW0]
  obtain ⟨b0, hb0⟩ : ∃ b0, b0 = w.heap.size := ⟨_, rfl⟩
  rw [← hb0] at x0 x1 x2 ⊢
  clear hB0 hN hW0 hb0
  refine hnums.mono ?_
  rintro e W1 ⟨v, rfl, ho, hb1⟩
  obtain ⟨A1, cp, rfl, hrow⟩ := row_forms (by simp [HN.out]) ho
  obtain ⟨q, hq⟩ : ∃ q : Nat → Pnt, q = fun i => ps.getD i p := ⟨_, rfl⟩
  have hcell : ∀ i, i < N → ∃ g, A1 = some ⟨g, 0, none⟩ ∧ g < W1.heap.size ∧ W1.cell? ⟨g, i, none⟩ = some (.complex .f64 (q i).re (q i).im) := fun i h => by
    refine hrow i _ ?_
    have h2 : i < ps.length := by have := HN.out; omega
    rw [hq]
    simp [cpx, h2]
  have hSl : ∀ w', Below W1.heap.size W1 w' → SlOf w' w'.heap.size A1 N (fun i => .complex .f64 (q i).re (q i).im) := fun w' h i hi => by
    obtain ⟨g, e, hg, hc⟩ := hcell i hi
    exact ⟨g, 0, e, by have := h.size; omega, by rw [Nat.zero_add]; exact (h.cell (p := ⟨g, i, none⟩) hg).trans hc⟩
  obtain ⟨T, hT⟩ : ∃ T, T = sprList p.re p.im (fun i => (q i).re) (fun i => (q i).im) N n := ⟨_, rfl⟩
  have hspr := fun w' (h : Below W1.heap.size W1 w') => spread_all N cp A1 p.re p.im (fun i => (q i).re) (fun i => (q i).im) w' (by omega) n (hSl w' h)
  have hrspr := fun w' (h : Below W1.heap.size W1 w') => rspread_all N cp A1 p.re p.im (fun i => (q i).re) (fun i => (q i).im) w' (by omega) n (hSl w' h)
  rw [← hT] at hspr hrspr
  have HSPR := Lib.hid hspr
  have HRSPR := Lib.hid hrspr
  have HTL : Hid (T.length ≤ 1048576) := Lib.hid (by rw [hT]; exact Nat.le_trans (sprList_len _ _ _ _ _ _) hl)
  have HB1 := Lib.hid (HB0.out.trans (hb1.mono HB0.out.size))
  have hS : B3 W1 ⟨b0, 0, none⟩ ⟨b0, 1, none⟩ ⟨b0, 2, none⟩ (.int .i64 p.x) (.int .i64 p.y) (.bool p.raw) W1 := ⟨Lib.hid (Below.refl _ _), cell_on x0 hb1, cell_on x1 hb1, cell_on x2 hb1⟩
  clear hnums ho hb1 hrow hcell hSl hspr hrspr hq x0 x1 x2 hT
  go_wp2_with (fail)
  refine (number_any p _).mono ?_
  rintro e wa ⟨rfl, hb⟩
  have hSa := b3_on hS hb
  clear hS hb
  go_wp2_with (fail)
  refine (HRSPR.out _ hSa.1.out).mono ?_
  rintro e wb ⟨v4, rfl, ho, hb⟩
  obtain ⟨A4, c4, rfl, hr4⟩ := rowT_rd ho
  have hlo := hSa.1.out.size
  have HRD4 := Lib.hid hr4
  have HWB := Lib.hid (hSa.1.out.trans (hb.mono hlo))
  have hSb : B3 wb ⟨b0, 0, none⟩ ⟨b0, 1, none⟩ ⟨b0, 2, none⟩ (.int .i64 p.x) (.int .i64 p.y) (.bool p.raw) wb := ⟨Lib.hid (Below.refl _ _), cell_on hSa.2.1 hb, cell_on hSa.2.2.1 hb, cell_on hSa.2.2.2 hb⟩
  have hspr := fun w' (h : Below wb.heap.size wb w') => HSPR.out w' (HWB.out.trans (h.mono HWB.out.size))
  have HSPB := Lib.hid hspr
  clear hSa hb ho hlo hr4 hspr
  go_wp2_with (fail)
  go_region_held3 (fun w' => B3 wb ⟨b0, 0, none⟩ ⟨b0, 1, none⟩ ⟨b0, 2, none⟩ (.int .i64 p.x) (.int .i64 p.y) (.bool p.raw) w') (first | assumption | exact b3_drew (by assumption))
    (first
      | (go_at_call 7; have hfst := hO5; refine (number_any p _).mono ?_; rintro e wm ⟨rfl, hbm⟩; have hSm := b3_on (by assumption) hbm)
      | (go_at_call 7; refine (number_any p _).mono ?_; rintro e wn ⟨rfl, hbn⟩; have hSn := b3_on (by assumption) hbn)
      | (go_at_call 8; have hfst := hO5; refine (HSPB.out _ (by exact hSm.1.out)).mono ?_; rintro e w6 ⟨v6, rfl, hO6, hb6⟩; have hS6 := b3_on (by assumption) hb6)
      | (go_at_call 8; refine (HSPB.out _ (by exact hSn.1.out)).mono ?_; rintro e w5 ⟨v5, rfl, hO5, hb5⟩; have hS5 := b3_on (by assumption) hb5))
  have hsz5 := hSn.1.out.size
  have hb56 : Below w5.heap.size w5 w6 := hbm.trans (hb6.mono hbm.size)
  obtain ⟨A5, c5, rfl, hr5⟩ := rowT_rd hO5
  obtain ⟨A6, c6, rfl, hr6⟩ := rowT_rd hO6
  have H4 := Lib.hid (HRD4.out.on hS6.1.out)
  have H5 := Lib.hid (hr5.on hb56)
  have H6 := Lib.hid hr6
  have O5 := Lib.hid (own_below1 hb56 hO5)
  have HBW6 := Lib.hid hS6.1.out
  have HSZ5 : Hid (∀ k, (Value.slice A5 T.length c5).ownBlock = some k → k < w5.heap.size) := Lib.hid (fun k e => (hO5.lt k e).2)
  have HSZ : Hid (wb.heap.size ≤ wn.heap.size ∧ wn.heap.size ≤ w5.heap.size ∧ w5.heap.size ≤ wm.heap.size) := Lib.hid ⟨hsz5, hb5.size, hbm.size⟩
  have s4 := fun W (h4 : Rd W T A4 wa.heap.size wb.heap.size) (h5 : Rd W T A5 wn.heap.size w5.heap.size) => same_rd A5 A4 T c5 c4 W (by have := HTL.out; omega) h5 h4
  have s6 := fun W (h4 : Rd W T A4 wa.heap.size wb.heap.size) (h6 : Rd W T A6 wm.heap.size w6.heap.size) => same_rd A6 A4 T c6 c4 W (by have := HTL.out; omega) h6 h4
  have S4 := Lib.hid s4
  have S6 := Lib.hid s6
  have hX0 := hSb.2.1
  have hX1 := hSb.2.2.1
  have hX2 := hSb.2.2.2
  have HX := Lib.hid (And.intro hX0 (And.intro hX1 hX2))
  clear hS6 hSm hSn hS5 hfst hO5 hO6 hb5 hb6 hbm hbn hb56 hsz5 hr5 hr6 s4 s6 hX0 hX1 hX2 hSb
  go_wp2_with (fail)
  refine (S4.out _ H4.out H5.out).mono ?_
  rintro e w' ⟨rfl, m1, rfl⟩
  go_wp2_with (fail)
  refine (S6.out (w6.drewN m1) (H4.out.on (show Below w6.heap.size w6 (w6.drewN m1) from ⟨rfl, rfl, rfl, Nat.le_refl _, fun _ _ => rfl⟩)) (H6.out.on (show Below w6.heap.size w6 (w6.drewN m1) from ⟨rfl, rfl, rfl, Nat.le_refl _, fun _ _ => rfl⟩))).mono ?_
  rintro e w' ⟨rfl, m2, rfl⟩
  obtain ⟨W7, hW7⟩ : ∃ W7, W7 = (w6.drewN m1).drewN m2 := ⟨_, rfl⟩
  have h67 : Below w6.heap.size w6 W7 := by rw [hW7]; exact ⟨rfl, rfl, rfl, Nat.le_refl _, fun _ _ => rfl⟩
  have H67 := Lib.hid h67
  have O7 := Lib.hid (own_below1 h67 O5.out)
  rw [← hW7]
  clear hW7 h67 O5
  go_wp2
  go_loopw [11] (fun iv wr => ∃ k : Nat, k ≤ T.length ∧ iv = .int .i64 (k : Int) ∧ Hid (∃ L, L.length = T.length ∧ wr.ownsRow wn.heap.size 3 1 (.slice A5 T.length c5) T.length L ∧ W7.grownBy wr (Value.slice A5 T.length c5).ownBlock)) (fun iv _ => T.length - (intOf iv).toNat)
  case atStart => exact ⟨0, Nat.zero_le _, rfl, Lib.hid ⟨outT T, by simp [outT], O7.out, ⟨rfl, rfl, rfl, Nat.le_refl _, fun _ _ _ => rfl⟩⟩⟩
  case round =>
    obtain ⟨k, hk, rfl, HL⟩ := hrel
    by_cases hlt : k < T.length
    · obtain ⟨L, hL, hown, hgr⟩ := HL.out
      obtain ⟨g, cp2, hv, hBg, hg⟩ := hown.form (by omega)
      injection hv with e1 e2 e3
      subst e1 e3
      have ck : wr.cell? ⟨g, k, none⟩ = some (L[k]'(by omega)) := by
        rw [hown.cellAt k (by omega)]
        exact List.getElem?_eq_getElem (by omega)
      have fk := hown.frozenAt k
      obtain ⟨s1, s2⟩ := hown.stored k (.int .i64 (-5))
      have HL2 : Hid (∃ L', L'.length = T.length ∧ (wr.setCell ⟨g, k, none⟩ (.int .i64 (-5))).ownsRow wn.heap.size 3 1 (.slice (some ⟨g, 0, none⟩) T.length c5) T.length L' ∧ W7.grownBy (wr.setCell ⟨g, k, none⟩ (.int .i64 (-5))) (Value.slice (some ⟨g, 0, none⟩) T.length c5).ownBlock) := Lib.hid ⟨_, by rw [List.length_set]; exact hL, s1, hgr.trans s2⟩
      have htl := HTL.out
      clear s1 s2 hown hgr
      go_wp2
      go_roundw
      case rel => exact ⟨k + 1, by omega, by first | rfl | go_num, HL2⟩
      case measure => simp [intOf]; omega
    · have hend : Hid (Below wb.heap.size wb wr ∧ Rd wr T A4 wa.heap.size wb.heap.size ∧ Rd wr T A6 wm.heap.size w6.heap.size) := Lib.hid (by
        obtain ⟨L, hL, hown, hgr⟩ := HL.out
        obtain ⟨z1, z2, z3⟩ := HSZ.out
        have hb7 : Below wb.heap.size wb W7 := HBW6.out.trans (H67.out.mono HBW6.out.size)
        have hbk : ∀ k, (Value.slice A5 T.length c5).ownBlock = some k → wn.heap.size ≤ k ∧ k < w5.heap.size := fun k e => by
          exact ⟨(hown.lt k e).1, HSZ5.out k e⟩
        refine ⟨hb7.grown hgr (Nat.le_trans (by omega) hb7.size) (fun k e => by have := (hbk k e).1; omega), fun i hi => ?_, fun i hi => ?_⟩
        · obtain ⟨g, e, h1, h2, h3⟩ := (H4.out.on H67.out) i hi
          refine ⟨g, e, h1, h2, (World.cell?_of_block (a := ⟨g, i, none⟩) (hgr.block g ?_ ?_)).trans h3⟩
          · have := hb7.size; omega
          · intro e'; have := (hbk g e'.symm).1; omega
        · obtain ⟨g, e, h1, h2, h3⟩ := (H6.out.on H67.out) i hi
          refine ⟨g, e, h1, h2, (World.cell?_of_block (a := ⟨g, i, none⟩) (hgr.block g ?_ ?_)).trans h3⟩
          · have := H67.out.size; omega
          · intro e'; have := (hbk g e'.symm).2; omega)
      have hE := hend.out
      have x0 := cell_on HX.out.1 hE.1
      have x1 := cell_on HX.out.2.1 hE.1
      have x2 := cell_on HX.out.2.2 hE.1
      have HB1W := Lib.hid (HB1.out.trans (HWB.out.mono HB1.out.size))
      clear hE HL
      go_wp2_with (fail)
      refine (S6.out _ hend.out.2.1 hend.out.2.2).mono ?_
      rintro e w' ⟨rfl, m3, rfl⟩
      go_wp2_with (fail)
      refine (number_any p _).mono ?_
      rintro e wx ⟨rfl, hbx⟩
      have hbx' : Below wr.heap.size wr wx := ⟨hbx.os, hbx.tape, hbx.output, hbx.size, hbx.block⟩
      have HX1 := Lib.hid (hend.out.1.trans (hbx'.mono hend.out.1.size))
      have H4x := Lib.hid (hend.out.2.1.on hbx')
      clear hbx hbx' x0 x1 x2
      go_wp2_with (fail)
      refine (HSPB.out _ HX1.out).mono ?_
      rintro e wy ⟨v9, rfl, ho9, hb9⟩
      obtain ⟨A9, c9, rfl, hr9⟩ := rowT_rd ho9
      have HR9 := Lib.hid hr9
      have H4y := Lib.hid (H4x.out.on hb9)
      have HYB := Lib.hid (HX1.out.trans (hb9.mono HX1.out.size))
      clear ho9 hb9 hr9
      go_wp2_with (fail)
      refine (same_rd A9 A4 T c9 c4 _ (by have := HTL.out; omega) HR9.out H4y.out).mono ?_
      rintro e w' ⟨rfl, m4, rfl⟩
      go_wp2
      go_ret
      exact ⟨rfl, HB1W.out.trans ((show Below wb.heap.size wb (wy.drewN m4) from ⟨HYB.out.os, HYB.out.tape, HYB.out.output, HYB.out.size, HYB.out.block⟩).mono HB1W.out.size)⟩

set_option maxRecDepth 100000 in
theorem contractUpto (H : Type) (enc : TypeId × Value → H) (W : World) (base : Nat) (args : Array Value) (ds gs : List (DataW H)) (before : List MemPlace)
    (hval : ∀ (j : Nat) t v, Try.f3.params[j]? = some t → args[j]? = some v → Value.okWide Try.prog W .any base t v)
    (hW : DataW.Whole enc Try.prog Try.f3.params.toList Rows.whereSpreadsSpec.vars false W args.toList ds gs before)
    (hz : (DataW.weightsEach Try.prog (Try.f3.params.toList ++ []) (ds ++ gs)).all (· ≤ reachBytes) = true) (hk : Rows.uptoSmall H (ds ++ gs) = true) :
    Calls Try.prog 3 args W fun e W' => ∃ v, e = .returned v ∧ Rows.whereSpreadsSpec.post enc Try.prog Try.f3 false true false false W args v W' := by
  have hW' := hW
  obtain ⟨p, q, hA0, hV, rfl, hfz, hnd⟩ := hW
  have hA : DataW.TrodAll enc Try.prog W 0 (fun _ => true) true Try.f3.params.toList args.toList ds p := hA0
  rw [Try.params3] at hA hval hz
  obtain ⟨v0, vs0, d0, ds0, p0, q0, hargs, rfl, rfl, h0, r0⟩ := trodAll_cons hA
  obtain ⟨v1, vs1, d1, ds1, p1, q1, rfl, rfl, rfl, h1, r1⟩ := trodAll_cons r0
  obtain ⟨v2, vs2, d2, ds2, p2, q2, rfl, rfl, rfl, h2, r2⟩ := trodAll_cons r1
  obtain ⟨rfl, rfl, rfl⟩ := trodAll_nil r2
  obtain rfl : args = #[v0, v1, v2] := by cases args; simp_all
  obtain ⟨rfl, rfl⟩ := trodVars_none hV
  obtain ⟨x0, rfl⟩ := open_point (hval 0 23 v0 rfl rfl) h0
  have hk1 : Rows.uptoBulk d1 ≤ 1048576 := by have h := of_decide_eq_true hk; simp only [List.append_nil, List.cons_append, List.nil_append, Rows.uptoBulkAll] at h; omega
  obtain ⟨A, cap, ps, rfl, hlen, hT⟩ := open_ptsU (hval 1 24 v1 rfl rfl) h1 hk1
  obtain ⟨x2, rfl, rfl, rfl, w2⟩ := open_int Try.underlying3 (hval 2 3 v2 rfl rfl) h2
  have b2 := i64_of_wf w2
  clear hA0
  refine (walk x0 A cap ps hlen x2 W hT).mono fun e W' ⟨he, hb⟩ => ?_
  subst he
  exact ⟨_, rfl, law_end hW' rfl rfl hb laidOut (by kernel_rfl) (by kernel_rfl) Try.underlying4⟩

theorem reads (os : Os) {H : Type} (enc : TypeId × Value → H) : ∃ places, DataW.whole enc Try.prog ((World.holding Try.prog os ⟨#[], #[], []⟩).forCall (fun _ _ => 0) ⟨#[], #[.agg #[.int .i64 0, .int .i64 0, .bool false], .slice none 0 0, .int .i64 0], []⟩).memory Try.f3.params.toList Rows.whereSpreadsSpec.vars false [Value.agg #[.int .i64 0, .int .i64 0, .bool false], Value.slice none 0 0, Value.int .i64 0] 8 = some ([.agg [.lit (.int .i64 0), .lit (.int .i64 0), .lit (.bool false)], .nil, .lit (.int .i64 0)], [], places) :=
  ⟨[], by kernel_rfl⟩

set_option maxRecDepth 100000 in
theorem lifted (os : Os) (started : os.Started) (H : Type) (enc : TypeId × Value → H) (F : Stop.Interp) :
    ReturnsInHanded {} Try.checked os 3 .any ((Rows.OpenSpec.upto Rows.whereSpreadsSpec).preRow enc Try.prog Try.f3 Rows.whereSpreadsUptoRow.domain false Rows.whereSpreadsUptoRow.laid) (((Rows.OpenSpec.upto Rows.whereSpreadsSpec).at F).post enc Try.prog Try.f3 false true false false) := by
  obtain ⟨places, hx⟩ := reads os enc
  have laid_met : laidMet Try.prog Rows.whereSpreadsUptoRow.laid ((World.holding Try.prog os ⟨#[], #[], []⟩).forCall (fun _ _ => 0) ⟨#[], #[.agg #[.int .i64 0, .int .i64 0, .bool false], .slice none 0 0, .int .i64 0], []⟩).memory := ⟨[], rfl, List.nodup_nil, fun _ _ h => by cases h⟩
  refine returnsInHanded_of_row (C := Try.checked) (s := Rows.OpenSpec.upto Rows.whereSpreadsSpec) own started (by kernel_rfl) Try.func3
    (witness_row_at (enc := enc) (C := Try.checked) false (World.holding Try.prog os ⟨#[], #[], []⟩) #[.agg #[.int .i64 0, .int .i64 0, .bool false], .slice none 0 0, .int .i64 0] rfl (by kernel_rfl) (by kernel_rfl) (by kernel_rfl)
      (OpenSpec.preRow_of_cond 8 hx (by kernel_rfl) (fun k hk => by cases hk; kernel_rfl) (by kernel_rfl) laid_met)) ?_
  intro W base args ds gs before hval hW _ hcond hz _ _ _
  exact contractUpto H enc W base args ds gs before hval hW hz (hcond _ rfl)

theorem said : Rows.WhereSpreadsUptoSaid :=
  OpenClaim.holds_of_cond 3 Try.f3 rfl rfl rfl rfl rfl rfl rfl ⟨rfl, rfl, rfl, rfl, rfl⟩ rfl rfl rfl rfl rfl (by kernel_rfl) Try.func3 (by kernel_rfl)
    (of_decide_eq_true (by kernel_rfl)) (by unfold Func.isWrapper; first | (rw [if_pos (by decide +kernel)]; kernel_rfl) | (rw [if_neg (by decide +kernel)]; exact ⟨rfl, rfl⟩))
    (fun os started H enc _ F => by rw [OpenClaim.pre_eq_preRow]; exact lifted os started H enc F)

end Go.Proofs.Ytjjmflkdfgneoaa.fnWhereSpreads
