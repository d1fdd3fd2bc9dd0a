/- WhereNears is true for every point and every list: the places by their distance are the document's; the list stays. No conditions. -/
import Derived.Test.YtegbdholdglghaaNearRef2
import Derived.Test.YtegbdholdglghaaOpenPts
import Derived.Test.YtegbdholdglghaaWhereFnsE
import Derived.BigQuiet
import Derived.Deep.RegionHeld3
import Derived.Deep.AppendLies

import Derived.Test.YtegbdholdglghaaLawEnd

import Derived.Test.YtegbdholdglghaaPlainKit

namespace Go.Proofs.Ytegbdholdglghaa.fnWhereNears
open Go.ChangeShapes Go.WideShapes Go.ChangeAt Go.RowKit Go.WideMaps Go.WideElems
open Go.ChangeMaps (open_string)

theorem cell_on {w w' : World} {a : Addr} {v : Value} (h : w.cell? a = some v) (hb : Below w.heap.size w w') : w'.cell? a = some v := by
  refine (hb.cell (p := a) ?_).trans h
  rcases Nat.lt_or_ge a.block w.heap.size with hlt | hge
  · exact hlt
  · have h0 := World.cell?_spot h
    obtain ⟨b, off, spot⟩ := a
    have hspot : spot = none := h0
    subst hspot
    simp [World.cell?, Array.getElem?_eq_none hge] at h
set_option maxHeartbeats 1000000 in
theorem same_ints (A C : Option Addr) (n cap cap' : Nat) (f : Nat → Int) (w : World) (hn : n ≤ 35184372088832) (hA : ∀ i, i < n → ∃ b off, A = some ⟨b, off, none⟩ ∧ w.cell? ⟨b, off + i, none⟩ = some (.int .i64 (f i))) (hC : ∀ i, i < n → ∃ b off, C = some ⟨b, off, none⟩ ∧ w.cell? ⟨b, off + i, none⟩ = some (.int .i64 (f i))) :
    Calls Try.prog 8 #[.slice A n cap, .slice C n cap'] w fun e w' => e = .returned (.bool true) ∧ ∃ m, w' = w.drewN m := by
  have HA := Lib.hid hA
  have HC := Lib.hid hC
  clear hA hC
  go_enter Try.func8, Try.ntmps8
  go_wp2
  go_loopw [5] (fun i wr => ∃ k : Nat, k ≤ n ∧ i = .int .i64 k ∧ ∃ m, wr = w.drewN m) (fun i _ => n - (intOf i).toNat)
  case atStart => exact ⟨0, Nat.zero_le _, rfl, 0, rfl⟩
  case round =>
    obtain ⟨k, hk, rfl, m, rfl⟩ := hrel
    by_cases hlt : k < n
    · obtain ⟨b, off, rfl, hc⟩ := HA.out k hlt
      obtain ⟨b', off', rfl, hc'⟩ := HC.out k hlt
      go_wp2_with (fail)
      go_quiet (fail)
      go_wp2
      go_roundw
      case rel => exact ⟨k + 1, by omega, by go_num, _, rfl⟩
      case measure => simp [intOf]; omega
    · go_wp2
      go_ret
      exact ⟨rfl, m, rfl⟩
abbrev B3 (w5 : World) (a1 a2 a3 : Addr) (v1 v2 v3 : Value) (w : World) : Prop :=
  Hid (Below w5.heap.size w5 w) ∧ w.cell? a1 = some v1 ∧ w.cell? a2 = some v2 ∧ w.cell? a3 = some v3
theorem b3_on {w5 w w' : World} {a1 a2 a3 : Addr} {v1 v2 v3 : Value} (k : B3 w5 a1 a2 a3 v1 v2 v3 w) (hb : Below w.heap.size w w') : B3 w5 a1 a2 a3 v1 v2 v3 w' :=
  ⟨Lib.hid (k.1.out.trans (hb.mono k.1.out.size)), cell_on k.2.1 hb, cell_on k.2.2.1 hb, cell_on k.2.2.2 hb⟩
theorem b3_drew {w5 w : World} {a1 a2 a3 : Addr} {v1 v2 v3 : Value} (k : B3 w5 a1 a2 a3 v1 v2 v3 w) : B3 w5 a1 a2 a3 v1 v2 v3 w.drew := b3_on k ⟨rfl, rfl, rfl, Nat.le_refl _, fun _ _ => rfl⟩
abbrev R4 (w5 : World) (a1 a2 a3 a4 : Addr) (v1 v2 v3 v4 : Value) (w : World) : Prop :=
  Hid (Below w5.heap.size w5 w) ∧ w.cell? a1 = some v1 ∧ w.cell? a2 = some v2 ∧ w.cell? a3 = some v3 ∧ w.cell? a4 = some v4
theorem r4_on {w5 w w' : World} {a1 a2 a3 a4 : Addr} {v1 v2 v3 v4 : Value} (k : R4 w5 a1 a2 a3 a4 v1 v2 v3 v4 w) (hb : Below w.heap.size w w') : R4 w5 a1 a2 a3 a4 v1 v2 v3 v4 w' :=
  ⟨Lib.hid (k.1.out.trans (hb.mono k.1.out.size)), cell_on k.2.1 hb, cell_on k.2.2.1 hb, cell_on k.2.2.2.1 hb, cell_on k.2.2.2.2 hb⟩
theorem r4_drew {w5 w : World} {a1 a2 a3 a4 : Addr} {v1 v2 v3 v4 : Value} (k : R4 w5 a1 a2 a3 a4 v1 v2 v3 v4 w) : R4 w5 a1 a2 a3 a4 v1 v2 v3 v4 w.drew := r4_on k ⟨rfl, rfl, rfl, Nat.le_refl _, fun _ _ => rfl⟩
theorem row_forms {w : World} {B k : Nat} {e : TypeId} {v : Value} {xs : List Value} (hx : xs.length = k) (ho : w.ownsRow B e 1 v k xs) : ∃ (A : Option Addr) (cap : Nat), v = .slice A k cap ∧ ∀ j u, xs[j]? = some u → ∃ g, A = some ⟨g, 0, none⟩ ∧ g < w.heap.size ∧ w.cell? ⟨g, j, none⟩ = some u := by
  rcases ho.2 with ⟨rfl, h0⟩ | ⟨g, cap, cur, rfl, hB, h1, h2⟩
  · subst h0
    have hnil : xs = [] := List.length_eq_zero_iff.1 hx
    subst hnil
    exact ⟨none, 0, rfl, fun j u hj => by simp at hj⟩
  · refine ⟨some ⟨g, 0, none⟩, cap, rfl, fun j u hj => ⟨g, rfl, (Array.getElem?_eq_some_iff.1 h1).1, ?_⟩⟩
    have hl := (List.getElem?_eq_some_iff.1 hj).1
    exact (ho.cellAt j (by omega)).trans hj
theorem dist_bounds (p q : Option (Int × Int)) (hp : ∀ x, p = some x → Pt x) (hq : ∀ x, q = some x → Pt x) : -1 ≤ distO p q ∧ distO p q ≤ 8000000 := by
  cases p with
  | none => exact ⟨by show (-1 : Int) ≤ -1; omega, by show (-1 : Int) ≤ 8000000; omega⟩
  | some x =>
    cases q with
    | none => exact ⟨by show (-1 : Int) ≤ -1; omega, by show (-1 : Int) ≤ 8000000; omega⟩
    | some y => exact ⟨by have := sq_lo x y; show -1 ≤ sq x y; omega, sq_hi (hp x rfl) (hq y rfl)⟩
set_option maxRecDepth 100000 in
set_option maxHeartbeats 8000000 in
theorem walk (p : Pnt) (A : Option Addr) (cap : Nat) (ps : List Pnt) (hl : ps.length ≤ 5864062014800) (w : World) (hP : PtsAt w w.heap.size A ps) :
    Calls Try.prog 3 #[.agg #[.int .i64 p.x, .int .i64 p.y, .bool p.raw], .slice A ps.length cap] w fun e w' => e = .returned (.bool true) ∧ Below w.heap.size w w' := by
  have HP := Lib.hid hP
  clear hP
  go_enter Try.func3, Try.ntmps3
  go_wp2_with (fail)
  refine (speaks3_any _).mono ?_
  rintro e w' ⟨rfl, rfl⟩
  go_wp2_with (fail)
  obtain ⟨N, hN⟩ : ∃ N, N = ps.length := ⟨_, rfl⟩
  obtain ⟨W0, hW0⟩ : ∃ W0, W0 = w.alloc (.cells #[.int .i64 p.x, .int .i64 p.y, .bool p.raw] 23) := ⟨_, rfl⟩
  have hB0 : Below w.heap.size w W0 := by rw [hW0]; exact (Below.refl _ _).alloc (Nat.le_refl _) _
  have x0 : W0.cell? ⟨w.heap.size, 0, none⟩ = some (.int .i64 p.x) := by rw [hW0]; simp
  have x1 : W0.cell? ⟨w.heap.size, 1, none⟩ = some (.int .i64 p.y) := by rw [hW0]; simp
  have x2 : W0.cell? ⟨w.heap.size, 2, none⟩ = some (.bool p.raw) := by rw [hW0]; simp
  have hnums := numbers_any A cap ps (by omega) W0 ((HP.out.below hB0).up hB0.size)
  rw [← hN] at hnums hl ⊢
  have HB0 := Lib.hid hB0
  have HN := Lib.hid hN
  rw [← hW0]
  obtain ⟨b0, hb0⟩ : ∃ b0, b0 = w.heap.size := ⟨_, rfl⟩
  rw [← hb0] at x0 x1 x2 ⊢
  clear hB0 hN hW0 hb0
  refine hnums.mono ?_
  rintro e W1 ⟨v, rfl, ho, hb1⟩
  obtain ⟨A1, cp, rfl, hrow⟩ := row_forms (by simp [HN.out]) ho
  obtain ⟨q, hq⟩ : ∃ q : Nat → Pnt, q = fun i => ps.getD i p := ⟨_, rfl⟩
  have hcell : ∀ i, i < N → ∃ g, A1 = some ⟨g, 0, none⟩ ∧ g < W1.heap.size ∧ W1.cell? ⟨g, i, none⟩ = some (.complex .f64 (q i).re (q i).im) := fun i h => by
    refine hrow i _ ?_
    have h2 : i < ps.length := by have := HN.out; omega
    rw [hq]
    simp [cpx, h2]
  have hqp : ∀ i (h : i < ps.length), ps[i] = q i := fun i h => by rw [hq]; simp [h]
  obtain ⟨dst, hdst⟩ : ∃ dst : Nat → Int, dst = fun i => distO (plc p.re p.im) (plc (q i).re (q i).im) := ⟨_, rfl⟩
  have hSl : ∀ w', Below W1.heap.size W1 w' → SlOf w' w'.heap.size A1 N (fun i => .complex .f64 (q i).re (q i).im) := fun w' h i hi => by
    obtain ⟨g, e, hg, hc⟩ := hcell i hi
    exact ⟨g, 0, e, by have := h.size; omega, by rw [Nat.zero_add]; exact (h.cell (p := ⟨g, i, none⟩) hg).trans hc⟩
  have hnear := fun w' (h : Below W1.heap.size W1 w') => near_is N cp A1 p.re p.im (fun i => (q i).re) (fun i => (q i).im) w' (by omega) (fun i => farI (dst i)) (by rw [hdst]) (hSl w' h)
  have hrnear := fun f hf w' (h : Below W1.heap.size W1 w') => rnear_any N cp A1 p.re p.im (fun i => (q i).re) (fun i => (q i).im) w' (by omega) dst (by rw [hdst]) (fun i => by
    have h1 := dist_bounds (plc p.re p.im) (plc (q i).re (q i).im) (fun _ h => plc_pt h) (fun _ h => plc_pt h)
    have h2 : dst i = distO (plc p.re p.im) (plc (q i).re (q i).im) := by rw [hdst]
    rw [h2]
    omega) f hf (hSl w' h)
  have HCELL := Lib.hid hcell
  have HNEAR := Lib.hid hnear
  have HRNEAR := Lib.hid hrnear
  have HQP := Lib.hid hqp
  have HB1 := Lib.hid (HB0.out.trans (hb1.mono HB0.out.size))
  have hS : B3 W1 ⟨b0, 0, none⟩ ⟨b0, 1, none⟩ ⟨b0, 2, none⟩ (.int .i64 p.x) (.int .i64 p.y) (.bool p.raw) W1 := ⟨Lib.hid (Below.refl _ _), cell_on x0 hb1, cell_on x1 hb1, cell_on x2 hb1⟩
  clear hnums ho hb1 hrow hcell hSl hnear hrnear hqp hdst hq x0 x1 x2
  go_wp2_with (fail)
  go_region_held3 (fun w' => B3 W1 ⟨b0, 0, none⟩ ⟨b0, 1, none⟩ ⟨b0, 2, none⟩ (.int .i64 p.x) (.int .i64 p.y) (.bool p.raw) w') (first | assumption | exact b3_drew (by assumption))
    (first
      | (go_at_call 10; refine (number_any p _).mono ?_; rintro e wn ⟨rfl, hbn⟩; have hSn := b3_on (by assumption) hbn)
      | (go_at_call 9; refine (HNEAR.out _ (by exact (hSn.1.out))).mono ?_; rintro e w2 ⟨rfl, f, hf, hfc, hb2⟩; have hS2 := b3_on (by assumption) hb2)
      | (go_at_call 11; refine (HRNEAR.out f hf _ (by exact (hSn.1.out))).mono ?_; rintro e w4 ⟨v4, rfl, ho4, hb4⟩; obtain ⟨A4, c4, rfl, hr4⟩ := row_forms (by simp [outL]) ho4; have hS4 := b3_on (by assumption) hb4)
      | (go_at_call 8; refine (same_ints _ _ N _ _ (fun i => (f i : Int)) _ (by omega) (fun i hi => ⟨_, 0, rfl, by rw [Nat.zero_add]; exact cell_on (cell_on (hfc i hi).1 hbn) hb4⟩) (fun i hi => by
          obtain ⟨g, e, _, hc⟩ := hr4 i (.int .i64 (f i : Int)) (by simp [outL, hi])
          exact ⟨g, 0, e, by rw [Nat.zero_add]; exact hc⟩)).mono ?_; rintro e w5 ⟨rfl, m5, rfl⟩; have hS5 := b3_on hS4 (show Below _ _ (World.drewN _ m5) from ⟨rfl, rfl, rfl, Nat.le_refl _, fun _ _ => rfl⟩)))
  have HW := Lib.hid hS5.1.out
  clear hS2 hSn hS4 hS5 hS hbn hb4 hr4 ho4 hf hfc hb2
  obtain ⟨W5, hW5⟩ : ∃ W5, W5 = w4.drewN m5 := ⟨_, rfl⟩
  rw [← hW5] at HW ⊢
  clear hW5
  go_wp2
  go_loopw [6] (fun iv wr => ∃ i : Nat, i ≤ N ∧ iv = .int .i64 (i : Int) ∧ Hid (Below W5.heap.size W5 wr)) (fun iv _ => N - (intOf iv).toNat)
  case atStart => exact ⟨0, Nat.zero_le _, rfl, Lib.hid (Below.refl _ _)⟩
  case round =>
    obtain ⟨i, hiN, rfl, HWR⟩ := hrel
    by_cases hlt : i < N
    · obtain ⟨g, rfl, hg, c1⟩ := HCELL.out i hlt
      have c1' := cell_on (cell_on c1 HW.out) HWR.out
      have hip : i < ps.length := by have := HN.out; omega
      obtain ⟨bq, off, rfl, hbq, d1, d2, d3⟩ := HP.out i hip
      rw [HQP.out i hip] at d1 d2 d3
      have hbw : Below w.heap.size w wr := HB1.out.trans ((HW.out.trans (HWR.out.mono HW.out.size)).mono HB1.out.size)
      have d1' := (hbw.cell (p := ⟨bq, off + i * 3, none⟩) hbq).trans d1
      have d2' := (hbw.cell (p := ⟨bq, off + i * 3 + 1, none⟩) hbq).trans d2
      have d3' := (hbw.cell (p := ⟨bq, off + i * 3 + 2, none⟩) hbq).trans d3
      obtain ⟨z, hz⟩ : ∃ z, z = q i := ⟨_, rfl⟩
      rw [← hz] at c1' d1' d2' d3'
      have hR : R4 W5 ⟨g, i, none⟩ ⟨bq, off + i * 3, none⟩ ⟨bq, off + i * 3 + 1, none⟩ ⟨bq, off + i * 3 + 2, none⟩ (.complex .f64 z.re z.im) (.int .i64 z.x) (.int .i64 z.y) (.bool z.raw) wr := ⟨HWR, c1', d1', d2', d3'⟩
      have i1 : (i : Int) < (N : Int) := by omega
      clear c1 c1' d1 d2 d3 d1' d2' d3' hz hbw hip hbq hg
      go_wp2_with (fail)
      go_region_held3 (fun w' => R4 W5 ⟨g, i, none⟩ ⟨bq, off + i * 3, none⟩ ⟨bq, off + i * 3 + 1, none⟩ ⟨bq, off + i * 3 + 2, none⟩ (.complex .f64 z.re z.im) (.int .i64 z.x) (.int .i64 z.y) (.bool z.raw) w') (first | assumption | exact r4_drew (by assumption))
        (first | (go_at_call 10; refine (number_any z _).mono ?_; rintro e wn ⟨rfl, hbn⟩; have hSn := r4_on (by assumption) hbn))
      have HW2 := Lib.hid hSn.1.out
      have BB := fun (x : Nat) (w : World) => bits_call x w
      clear hR hSn hbn
      go_wp2
      go_roundw
      case rel => exact ⟨i + 1, by omega, by first | rfl | go_num, HW2⟩
      case measure => simp [intOf]; omega
    · obtain rfl : i = N := by omega
      go_wp2
      go_ret
      exact ⟨rfl, HB1.out.trans ((HW.out.trans (HWR.out.mono HW.out.size)).mono HB1.out.size)⟩

set_option maxRecDepth 100000 in
theorem contract (H : Type) (enc : TypeId × Value → H) (W : World) (base : Nat) (args : Array Value) (ds gs : List (DataW H)) (before : List MemPlace)
    (hval : ∀ (j : Nat) t v, Try.f3.params[j]? = some t → args[j]? = some v → Value.okWide Try.prog W .any base t v)
    (hW : DataW.Whole enc Try.prog Try.f3.params.toList Rows.whereNearsSpec.vars false W args.toList ds gs before)
    (hz : (DataW.weightsEach Try.prog (Try.f3.params.toList ++ []) (ds ++ gs)).all (· ≤ reachBytes) = true) :
    Calls Try.prog 3 args W fun e W' => ∃ v, e = .returned v ∧ Rows.whereNearsSpec.post enc Try.prog Try.f3 false true false false W args v W' := by
  have hW' := hW
  obtain ⟨p, q, hA0, hV, rfl, hfz, hnd⟩ := hW
  have hA : DataW.TrodAll enc Try.prog W 0 (fun _ => true) true Try.f3.params.toList args.toList ds p := hA0
  rw [Try.params3] at hA hval hz
  obtain ⟨v0, vs0, d0, ds0, p0, q0, hargs, rfl, rfl, h0, r0⟩ := trodAll_cons hA
  obtain ⟨v1, vs1, d1, ds1, p1, q1, rfl, rfl, rfl, h1, r1⟩ := trodAll_cons r0
  obtain ⟨rfl, rfl, rfl⟩ := trodAll_nil r1
  obtain rfl : args = #[v0, v1] := by cases args; simp_all
  obtain ⟨rfl, rfl⟩ := trodVars_none hV
  obtain ⟨x0, rfl⟩ := open_point (hval 0 23 v0 rfl rfl) h0
  have hw1 : ∀ m ∈ d1.weights Try.prog 24, m ≤ reachBytes := fun m hm => by
    have hall := List.all_eq_true.1 hz m (DataW.weights_mem_each (j := 1) (t := 24) rfl rfl m hm)
    simpa using hall
  obtain ⟨A, cap, ps, rfl, hlen, hT⟩ := open_pts (hval 1 24 v1 rfl rfl) h1 hw1
  clear hA0
  refine (walk x0 A cap ps hlen W hT).mono fun e W' ⟨he, hb⟩ => ?_
  subst he
  exact ⟨_, rfl, law_end hW' rfl rfl hb laidOut (by kernel_rfl) (by kernel_rfl) Try.underlying4⟩

theorem reads (os : Os) {H : Type} (enc : TypeId × Value → H) : ∃ places, DataW.whole enc Try.prog ((World.holding Try.prog os ⟨#[], #[], []⟩).forCall (fun _ _ => 0) ⟨#[], #[.agg #[.int .i64 0, .int .i64 0, .bool false], .slice none 0 0], []⟩).memory Try.f3.params.toList Rows.whereNearsSpec.vars false [Value.agg #[.int .i64 0, .int .i64 0, .bool false], Value.slice none 0 0] 8 = some ([.agg [.lit (.int .i64 0), .lit (.int .i64 0), .lit (.bool false)], .nil], [], places) :=
  ⟨[], by kernel_rfl⟩

set_option maxRecDepth 100000 in
theorem lifted (os : Os) (started : os.Started) (H : Type) (enc : TypeId × Value → H) (F : Stop.Interp) :
    ReturnsInHanded {} Try.checked os 3 .any ((OpenSpec.ofChange Rows.whereNearsSpec).preRow enc Try.prog Try.f3 Rows.whereNearsRow.domain false Rows.whereNearsRow.laid) (((OpenSpec.ofChange Rows.whereNearsSpec).at F).post enc Try.prog Try.f3 false true false false) := by
  obtain ⟨places, hx⟩ := reads os enc
  have laid_met : laidMet Try.prog Rows.whereNearsRow.laid ((World.holding Try.prog os ⟨#[], #[], []⟩).forCall (fun _ _ => 0) ⟨#[], #[.agg #[.int .i64 0, .int .i64 0, .bool false], .slice none 0 0], []⟩).memory := ⟨[], rfl, List.nodup_nil, fun _ _ h => by cases h⟩
  refine returnsInHanded_of_row (C := Try.checked) (s := OpenSpec.ofChange Rows.whereNearsSpec) own started (by kernel_rfl) Try.func3
    (witness_row_at (enc := enc) (C := Try.checked) false (World.holding Try.prog os ⟨#[], #[], []⟩) #[.agg #[.int .i64 0, .int .i64 0, .bool false], .slice none 0 0] rfl (by kernel_rfl) (by kernel_rfl) (by kernel_rfl)
      (OpenSpec.preRow_of_cond 8 hx (by kernel_rfl) (fun k hk => by cases hk) (by kernel_rfl) laid_met)) ?_
  intro W base args ds gs before hval hW _ _ hz _ _ _
  exact contract H enc W base args ds gs before hval hW hz

theorem said : Rows.WhereNearsSaid :=
  OpenClaim.holds_of_cond 3 Try.f3 rfl rfl rfl rfl rfl rfl rfl ⟨rfl, rfl, rfl, rfl, rfl⟩ rfl rfl rfl rfl rfl (by kernel_rfl) Try.func3 (by kernel_rfl)
    (of_decide_eq_true (by kernel_rfl)) (by unfold Func.isWrapper; first | (rw [if_pos (by decide +kernel)]; kernel_rfl) | (rw [if_neg (by decide +kernel)]; exact ⟨rfl, rfl⟩))
    (fun os started H enc _ F => by rw [OpenClaim.pre_eq_preRow]; exact lifted os started H enc F)

end Go.Proofs.Ytegbdholdglghaa.fnWhereNears
