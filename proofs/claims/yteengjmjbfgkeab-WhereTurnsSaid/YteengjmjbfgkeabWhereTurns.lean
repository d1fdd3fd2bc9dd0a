/- WhereTurns is true for every two points and every number of quarters: turning changes no distance, and four quarters are a whole turn. No conditions. -/
import Derived.Test.YteengjmjbfgkeabWhereFnsE
import Derived.Test.YteengjmjbfgkeabBoxes

import Derived.Test.YteengjmjbfgkeabLawEnd

import Derived.Test.YteengjmjbfgkeabPlainKit

namespace Go.Proofs.Yteengjmjbfgkeab.fnWhereTurns
open Go.ChangeShapes Go.WideShapes Go.ChangeAt Go.RowKit Go.WideMaps Go.WideElems
open Go.ChangeMaps (open_string)

theorem sq_comm (p q : Int × Int) : sq p q = sq q p := by
  have h : ∀ x y : Int, (x - y) * (x - y) = (y - x) * (y - x) := fun x y => by
    rw [show x - y = -(y - x) by omega, Int.neg_mul_neg]
  unfold sq
  rw [h p.1 q.1, h p.2 q.2]
theorem sq_rot (p q : Int × Int) (k : Nat) : sq (rot p k) (rot q k) = sq p q := by
  induction k with
  | zero => rfl
  | succ k ih =>
    rw [← ih]
    have h : ∀ x y : Int, (-x - -y) * (-x - -y) = (x - y) * (x - y) := fun x y => by
      rw [show -x - -y = -(x - y) by omega, Int.neg_mul_neg]
    show (-(rot p k).2 - -(rot q k).2) * (-(rot p k).2 - -(rot q k).2) + ((rot p k).1 - (rot q k).1) * ((rot p k).1 - (rot q k).1) = _
    rw [h]
    unfold sq
    omega
theorem dist_comm (p q : Option (Int × Int)) : distO p q = distO q p := by
  cases p <;> cases q <;> first | rfl | exact sq_comm _ _
theorem rot_add (p : Int × Int) (k m : Nat) : rot (rot p k) m = rot p (k + m) := by
  induction m with
  | zero => rfl
  | succ m ih => show (-(rot (rot p k) m).2, (rot (rot p k) m).1) = (-(rot p (k + m)).2, (rot p (k + m)).1); rw [ih]
theorem rot4 (p : Int × Int) : rot p 4 = p := by
  show (- -p.1, - -p.2) = p
  rw [Int.neg_neg, Int.neg_neg]
theorem rot_back (p : Int × Int) (q : Int) : rot (rot p (quartersN q)) (quartersN (4 - q.tmod 4)) = p := by
  have h := tmod_cases q
  rw [rot_add]
  have e : quartersN q + quartersN (4 - q.tmod 4) = 0 ∨ quartersN q + quartersN (4 - q.tmod 4) = 4 := by
    unfold quartersN at *
    omega
  rcases e with e | e <;> rw [e]
  · rfl
  · exact rot4 p
theorem plc_word {p : Int × Int} (h : Pt p) : plc (floatOfInt .f64 p.1) (floatOfInt .f64 p.2) = some p :=
  plc_of ⟨fl_of p.1 (by have := h.1; omega), h.1⟩ ⟨fl_of p.2 (by have := h.2; omega), h.2⟩
theorem neg_one_or (p q : Option (Int × Int)) : (distO p q = -1) ∨ ∃ x y, p = some x ∧ q = some y := by
  cases p with
  | none => exact .inl rfl
  | some x =>
    cases q with
    | none => exact .inl rfl
    | some y => exact .inr ⟨x, y, rfl, rfl⟩
set_option maxHeartbeats 1000000 in
theorem walk (a b : Pnt) (q : Int) (w : World) (_hq : -9223372036854775808 ≤ q ∧ q ≤ 9223372036854775807) :
    Calls Try.prog 5 #[.agg #[.int .i64 a.x, .int .i64 a.y, .bool a.raw], .agg #[.int .i64 b.x, .int .i64 b.y, .bool b.raw], .int .i64 q] w
      fun e w' => e = .returned (.bool true) ∧ Below w.heap.size w w' := by
  clear _hq
  obtain ⟨D, hD⟩ : ∃ D, D = distO (plc a.re a.im) (plc b.re b.im) := ⟨_, rfl⟩
  have hd := fun w => dist_any a.re a.im b.re b.im w
  have hr := fun w => dist_any b.re b.im a.re a.im w
  rw [dist_comm] at hr
  rw [← hD] at hd hr
  have HD := Lib.hid hd
  have HR := Lib.hid hr
  have hS := start_S w 23 a b
  clear hd hr
  rcases neg_one_or (plc a.re a.im) (plc b.re b.im) with hn | ⟨p, r, hp, hr⟩
  · rw [← hD] at hn
    clear hD
    subst hn
    go_enter Try.func5, Try.ntmps5
    go_wp2_with (fail)
    refine (speaks3_any _).mono ?_
    rintro e w' ⟨rfl, rfl⟩
    have kk := hS.out
    obtain ⟨kb, ⟨a0, a1, a2⟩, b0, b1, b2⟩ := hS.out
    go_wp2_with (fail)
    go_region_held3 (fun w' => Hid (Below w.heap.size w w') ∧ (w'.cell? ⟨w.heap.size, 0, none⟩ = some (.int .i64 a.x) ∧ w'.cell? ⟨w.heap.size, 1, none⟩ = some (.int .i64 a.y) ∧ w'.cell? ⟨w.heap.size, 2, none⟩ = some (.bool a.raw)) ∧ (w'.cell? ⟨w.heap.size + 1, 0, none⟩ = some (.int .i64 b.x) ∧ w'.cell? ⟨w.heap.size + 1, 1, none⟩ = some (.int .i64 b.y) ∧ w'.cell? ⟨w.heap.size + 1, 2, none⟩ = some (.bool b.raw))) (first | assumption | exact drew_S (by assumption))
      (first | (go_at_call 12; refine (number_S (by assumption) _).mono ?_; rintro e w' ⟨rfl, hS⟩))
    go_wp2_with (fail)
    refine (HD.out _).mono ?_
    rintro e w' ⟨rfl, rfl⟩
    go_wp2_with (fail)
    refine (HR.out _).mono ?_
    rintro e w' ⟨rfl, rfl⟩
    go_wp2
    go_ret
    exact ⟨rfl, end_S (by assumption)⟩
  · have hDs : D = sq p r := by rw [hD, hp, hr]; rfl
    have hD0 : 0 ≤ D := by rw [hDs]; exact sq_lo _ _
    have pp := plc_pt hp
    have pr := plc_pt hr
    have n1 := rot_pt pp (quartersN q)
    have n2 := rot_pt pr (quartersN q)
    obtain ⟨c, hc⟩ : ∃ c, c = floatOfInt .f64 (rot p (quartersN q)).1 := ⟨_, rfl⟩
    obtain ⟨d, hd⟩ : ∃ d, d = floatOfInt .f64 (rot p (quartersN q)).2 := ⟨_, rfl⟩
    obtain ⟨c', hc'⟩ : ∃ c', c' = floatOfInt .f64 (rot r (quartersN q)).1 := ⟨_, rfl⟩
    obtain ⟨d', hd'⟩ : ∃ d', d' = floatOfInt .f64 (rot r (quartersN q)).2 := ⟨_, rfl⟩
    have t1 := fun w => turn_yes a.re a.im p q w hp
    have t2 := fun w => turn_yes b.re b.im r q w hr
    rw [← hc, ← hd] at t1
    rw [← hc', ← hd'] at t2
    have k1 : plc c d = some (rot p (quartersN q)) := by rw [hc, hd]; exact plc_word n1
    have k2 : plc c' d' = some (rot r (quartersN q)) := by rw [hc', hd']; exact plc_word n2
    have t3 := fun w => dist_any c d c' d' w
    rw [k1, k2, show distO (some (rot p (quartersN q))) (some (rot r (quartersN q))) = D by rw [hDs]; exact sq_rot _ _ _] at t3
    have t4 := fun w => turn_yes c d _ (4 - q.tmod 4) w k1
    rw [rot_back] at t4
    obtain ⟨⟨f1, _⟩, f2, _⟩ := plc_some hp
    have e1 : compare p.1 p.1 = .eq := Int.compare_eq_eq.2 rfl
    have e2 : compare p.2 p.2 = .eq := Int.compare_eq_eq.2 rfl
    have o1 := fl_order (fl_of p.1 (by have := pp.1; omega)) f1
    have o2 := fl_order (fl_of p.2 (by have := pp.2; omega)) f2
    rw [e1] at o1
    rw [e2] at o2
    have T1 := Lib.hid t1
    have T2 := Lib.hid t2
    have T3 := Lib.hid t3
    have T4 := Lib.hid t4
    obtain ⟨u, hu⟩ : ∃ u, u = floatOfInt .f64 p.1 := ⟨_, rfl⟩
    obtain ⟨v, hv⟩ : ∃ v, v = floatOfInt .f64 p.2 := ⟨_, rfl⟩
    rw [← hu, ← hv] at T4
    rw [← hu] at o1
    rw [← hv] at o2
    have l0 := (tmod_cases q)
    have l1 : -4 < q.tmod 4 := by omega
    have l2 : q.tmod 4 < 4 := by have := quarters_lt q; omega
    have hDD : (D != D) = false := by simp
    have hDE : (D == D) = true := by simp
    clear l0 hu hv e1 e2 f1 f2 t1 t2 t3 t4 k1 k2 hc hd hc' hd' n1 n2 pp pr hp hr hD hDs
    go_enter Try.func5, Try.ntmps5
    go_wp2_with (fail)
    refine (speaks3_any _).mono ?_
    rintro e w' ⟨rfl, rfl⟩
    have kk := hS.out
    obtain ⟨kb, ⟨a0, a1, a2⟩, b0, b1, b2⟩ := hS.out
    go_wp2_with (fail)
    go_region_held3 (fun w' => Hid (Below w.heap.size w w') ∧ (w'.cell? ⟨w.heap.size, 0, none⟩ = some (.int .i64 a.x) ∧ w'.cell? ⟨w.heap.size, 1, none⟩ = some (.int .i64 a.y) ∧ w'.cell? ⟨w.heap.size, 2, none⟩ = some (.bool a.raw)) ∧ (w'.cell? ⟨w.heap.size + 1, 0, none⟩ = some (.int .i64 b.x) ∧ w'.cell? ⟨w.heap.size + 1, 1, none⟩ = some (.int .i64 b.y) ∧ w'.cell? ⟨w.heap.size + 1, 2, none⟩ = some (.bool b.raw))) (first | assumption | exact drew_S (by assumption))
      (first | (go_at_call 12; refine (number_S (by assumption) _).mono ?_; rintro e w' ⟨rfl, hS⟩))
    go_wp2_with (fail)
    refine (HD.out _).mono ?_
    rintro e w' ⟨rfl, rfl⟩
    go_wp2_with (fail)
    refine (HR.out _).mono ?_
    rintro e w' ⟨rfl, rfl⟩
    go_wp2_with (fail)
    refine (T1.out _).mono ?_
    rintro e w' ⟨rfl, rfl⟩
    go_wp2_with (fail)
    refine (T2.out _).mono ?_
    rintro e w' ⟨rfl, rfl⟩
    go_wp2_with (fail)
    refine (T3.out _).mono ?_
    rintro e w' ⟨rfl, rfl⟩
    go_wp2_with (fail)
    refine (T1.out _).mono ?_
    rintro e w' ⟨rfl, rfl⟩
    go_wp2_with (fail)
    refine (T4.out _).mono ?_
    rintro e w' ⟨rfl, rfl⟩
    go_wp2
    go_ret
    exact ⟨rfl, end_S (by assumption)⟩

theorem contract (H : Type) (enc : TypeId × Value → H) (W : World) (base : Nat) (args : Array Value) (ds gs : List (DataW H)) (before : List MemPlace)
    (hval : ∀ (j : Nat) t v, Try.f5.params[j]? = some t → args[j]? = some v → Value.okWide Try.prog W .any base t v)
    (hW : DataW.Whole enc Try.prog Try.f5.params.toList Rows.whereTurnsSpec.vars false W args.toList ds gs before)
    (hz : (DataW.weightsEach Try.prog (Try.f5.params.toList ++ []) (ds ++ gs)).all (· ≤ reachBytes) = true) :
    Calls Try.prog 5 args W fun e W' => ∃ v, e = .returned v ∧ Rows.whereTurnsSpec.post enc Try.prog Try.f5 false true false false W args v W' := by
  have hW' := hW
  obtain ⟨p, q, hA0, hV, rfl, hfz, hnd⟩ := hW
  have hA : DataW.TrodAll enc Try.prog W 0 (fun _ => true) true Try.f5.params.toList args.toList ds p := hA0
  rw [Try.params5] at hA hval hz
  obtain ⟨v0, vs0, d0, ds0, p0, q0, hargs, rfl, rfl, h0, r0⟩ := trodAll_cons hA
  obtain ⟨v1, vs1, d1, ds1, p1, q1, rfl, rfl, rfl, h1, r1⟩ := trodAll_cons r0
  obtain ⟨v2, vs2, d2, ds2, p2, q2, rfl, rfl, rfl, h2, r2⟩ := trodAll_cons r1
  obtain ⟨rfl, rfl, rfl⟩ := trodAll_nil r2
  obtain rfl : args = #[v0, v1, v2] := by cases args; simp_all
  obtain ⟨rfl, rfl⟩ := trodVars_none hV
  obtain ⟨x0, rfl⟩ := open_point (hval 0 23 v0 rfl rfl) h0
  obtain ⟨x1, rfl⟩ := open_point (hval 1 23 v1 rfl rfl) h1
  obtain ⟨x2, rfl, rfl, rfl, w2⟩ := open_int Try.underlying3 (hval 2 3 v2 rfl rfl) h2
  have b2 := i64_of_wf w2
  clear hA0
  refine (walk x0 x1 x2 W b2).mono fun e W' ⟨he, hb⟩ => ?_
  subst he
  exact ⟨_, rfl, law_end hW' rfl rfl hb laidOut (by kernel_rfl) (by kernel_rfl) Try.underlying4⟩

theorem reads (os : Os) {H : Type} (enc : TypeId × Value → H) : ∃ places, DataW.whole enc Try.prog ((World.holding Try.prog os ⟨#[], #[], []⟩).forCall (fun _ _ => 0) ⟨#[], #[.agg #[.int .i64 0, .int .i64 0, .bool false], .agg #[.int .i64 0, .int .i64 0, .bool false], .int .i64 0], []⟩).memory Try.f5.params.toList Rows.whereTurnsSpec.vars false [Value.agg #[.int .i64 0, .int .i64 0, .bool false], Value.agg #[.int .i64 0, .int .i64 0, .bool false], Value.int .i64 0] 8 = some ([.agg [.lit (.int .i64 0), .lit (.int .i64 0), .lit (.bool false)], .agg [.lit (.int .i64 0), .lit (.int .i64 0), .lit (.bool false)], .lit (.int .i64 0)], [], places) :=
  ⟨[], by kernel_rfl⟩

set_option maxRecDepth 100000 in
theorem lifted (os : Os) (started : os.Started) (H : Type) (enc : TypeId × Value → H) (F : Stop.Interp) :
    ReturnsInHanded {} Try.checked os 5 .any ((OpenSpec.ofChange Rows.whereTurnsSpec).preRow enc Try.prog Try.f5 Rows.whereTurnsRow.domain false Rows.whereTurnsRow.laid) (((OpenSpec.ofChange Rows.whereTurnsSpec).at F).post enc Try.prog Try.f5 false true false false) := by
  obtain ⟨places, hx⟩ := reads os enc
  have laid_met : laidMet Try.prog Rows.whereTurnsRow.laid ((World.holding Try.prog os ⟨#[], #[], []⟩).forCall (fun _ _ => 0) ⟨#[], #[.agg #[.int .i64 0, .int .i64 0, .bool false], .agg #[.int .i64 0, .int .i64 0, .bool false], .int .i64 0], []⟩).memory := ⟨[], rfl, List.nodup_nil, fun _ _ h => by cases h⟩
  refine returnsInHanded_of_row (C := Try.checked) (s := OpenSpec.ofChange Rows.whereTurnsSpec) own started (by kernel_rfl) Try.func5
    (witness_row_at (enc := enc) (C := Try.checked) false (World.holding Try.prog os ⟨#[], #[], []⟩) #[.agg #[.int .i64 0, .int .i64 0, .bool false], .agg #[.int .i64 0, .int .i64 0, .bool false], .int .i64 0] rfl (by kernel_rfl) (by kernel_rfl) (by kernel_rfl)
      (OpenSpec.preRow_of_cond 8 hx (by kernel_rfl) (fun k hk => by cases hk) (by kernel_rfl) laid_met)) ?_
  intro W base args ds gs before hval hW _ _ hz _ _ _
  exact contract H enc W base args ds gs before hval hW hz

theorem said : Rows.WhereTurnsSaid :=
  OpenClaim.holds_of_cond 5 Try.f5 rfl rfl rfl rfl rfl rfl rfl ⟨rfl, rfl, rfl, rfl, rfl⟩ rfl rfl rfl rfl rfl (by kernel_rfl) Try.func5 (by kernel_rfl)
    (of_decide_eq_true (by kernel_rfl)) (by unfold Func.isWrapper; first | (rw [if_pos (by decide +kernel)]; kernel_rfl) | (rw [if_neg (by decide +kernel)]; exact ⟨rfl, rfl⟩))
    (fun os started H enc _ F => by rw [OpenClaim.pre_eq_preRow]; exact lifted os started H enc F)

end Go.Proofs.Yteengjmjbfgkeab.fnWhereTurns
