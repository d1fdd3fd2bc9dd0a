/- WhereDists is true for every two points and every number of quarters: where.Dist and where.Turn answer what the reference's answer. No conditions. -/
import Derived.Test.YteengjmjbfgkeabWhereFnsE
import Derived.Test.YteengjmjbfgkeabBoxes

import Derived.Test.YteengjmjbfgkeabLawEnd

import Derived.Test.YteengjmjbfgkeabPlainKit

namespace Go.Proofs.Yteengjmjbfgkeab.fnWhereDists
open Go.ChangeShapes Go.WideShapes Go.ChangeAt Go.RowKit Go.WideMaps Go.WideElems
open Go.ChangeMaps (open_string)

set_option maxHeartbeats 1000000 in
theorem walk (a b : Pnt) (q : Int) (w : World) (_hq : -9223372036854775808 ≤ q ∧ q ≤ 9223372036854775807) :
    Calls Try.prog 3 #[.agg #[.int .i64 a.x, .int .i64 a.y, .bool a.raw], .agg #[.int .i64 b.x, .int .i64 b.y, .bool b.raw], .int .i64 q] w
      fun e w' => e = .returned (.bool true) ∧ Below w.heap.size w w' := by
  clear _hq
  obtain ⟨D, hD⟩ : ∃ D, D = distO (plc a.re a.im) (plc b.re b.im) := ⟨_, rfl⟩
  have hd := fun w => dist_any a.re a.im b.re b.im w
  have hr := fun w => refdist_any a.re a.im b.re b.im w
  rw [← hD] at hd hr
  obtain ⟨c, d, X, Y, ht, hrt, hwh⟩ : ∃ c d X Y, (∀ w, Calls Try.prog 16 #[.complex .f64 a.re a.im, .int .i64 q] w fun e w' => e = .returned (.complex .f64 c d) ∧ w = w') ∧
      (∀ w, Calls Try.prog 11 #[.complex .f64 a.re a.im, .int .i64 q] w fun e w' => e = .returned (.tuple #[.int .i64 X, .int .i64 Y]) ∧ w = w') ∧
      (∀ w, Calls Try.prog 15 #[.complex .f64 c d, .int .i64 X, .int .i64 Y] w fun e w' => e = .returned (.bool true) ∧ w = w') := by
    cases hp : plc a.re a.im with
    | none => exact ⟨0, 0, 0, 0, fun w => turn_no _ _ _ w hp, fun w => refturn_no _ _ _ w hp, fun w => whole_nought w⟩
    | some p => exact ⟨_, _, _, _, fun w => turn_yes _ _ p _ w hp, fun w => refturn_yes _ _ p _ w hp, fun w => whole_yes _ _ w⟩
  have HD := Lib.hid hd
  have HR := Lib.hid hr
  have HT := Lib.hid ht
  have HRT := Lib.hid hrt
  have HW := Lib.hid hwh
  have hDD : (D == D) = true := by simp
  have hS := start_S w 23 a b
  clear hD hd hr ht hrt hwh
  go_enter Try.func3, Try.ntmps3
  go_wp2_with (fail)
  refine (speaks3_any _).mono ?_
  rintro e w' ⟨rfl, rfl⟩
  go_wp2_with (fail)
  refine (number_S hS.out a).mono ?_
  rintro e w1 ⟨rfl, hS1⟩
  have K1 := Lib.hid hS1
  clear hS1 hS
  go_wp2_with (fail)
  refine (HRT.out _).mono ?_
  rintro e w' ⟨rfl, rfl⟩
  obtain ⟨kb, ⟨a0, a1, a2⟩, b0, b1, b2⟩ := K1.out
  go_wp2_with (fail)
  have kk := K1.out
  go_region_held3 (fun w' => Hid (Below w.heap.size w w') ∧ (w'.cell? ⟨w.heap.size, 0, none⟩ = some (.int .i64 a.x) ∧ w'.cell? ⟨w.heap.size, 1, none⟩ = some (.int .i64 a.y) ∧ w'.cell? ⟨w.heap.size, 2, none⟩ = some (.bool a.raw)) ∧ (w'.cell? ⟨w.heap.size + 1, 0, none⟩ = some (.int .i64 b.x) ∧ w'.cell? ⟨w.heap.size + 1, 1, none⟩ = some (.int .i64 b.y) ∧ w'.cell? ⟨w.heap.size + 1, 2, none⟩ = some (.bool b.raw))) (first | assumption | exact drew_S (by assumption))
    (first | (go_at_call 12; refine (number_S (by assumption) _).mono ?_; rintro e w' ⟨rfl, hS⟩) | (go_at_call 13; refine (HD.out _).mono ?_; rintro e w' ⟨rfl, rfl⟩) | (go_at_call 14; refine (HR.out _).mono ?_; rintro e w' ⟨rfl, rfl⟩) | (go_at_call 16; refine (HT.out _).mono ?_; rintro e w' ⟨rfl, rfl⟩) | (go_at_call 15; refine (HW.out _).mono ?_; rintro e w' ⟨rfl, rfl⟩))
  go_wp2
  go_ret
  exact ⟨rfl, end_S (by assumption)⟩

theorem contract (H : Type) (enc : TypeId × Value → H) (W : World) (base : Nat) (args : Array Value) (ds gs : List (DataW H)) (before : List MemPlace)
    (hval : ∀ (j : Nat) t v, Try.f3.params[j]? = some t → args[j]? = some v → Value.okWide Try.prog W .any base t v)
    (hW : DataW.Whole enc Try.prog Try.f3.params.toList Rows.whereDistsSpec.vars false W args.toList ds gs before)
    (hz : (DataW.weightsEach Try.prog (Try.f3.params.toList ++ []) (ds ++ gs)).all (· ≤ reachBytes) = true) :
    Calls Try.prog 3 args W fun e W' => ∃ v, e = .returned v ∧ Rows.whereDistsSpec.post enc Try.prog Try.f3 false true false false W args v W' := by
  have hW' := hW
  obtain ⟨p, q, hA0, hV, rfl, hfz, hnd⟩ := hW
  have hA : DataW.TrodAll enc Try.prog W 0 (fun _ => true) true Try.f3.params.toList args.toList ds p := hA0
  rw [Try.params3] at hA hval hz
  obtain ⟨v0, vs0, d0, ds0, p0, q0, hargs, rfl, rfl, h0, r0⟩ := trodAll_cons hA
  obtain ⟨v1, vs1, d1, ds1, p1, q1, rfl, rfl, rfl, h1, r1⟩ := trodAll_cons r0
  obtain ⟨v2, vs2, d2, ds2, p2, q2, rfl, rfl, rfl, h2, r2⟩ := trodAll_cons r1
  obtain ⟨rfl, rfl, rfl⟩ := trodAll_nil r2
  obtain rfl : args = #[v0, v1, v2] := by cases args; simp_all
  obtain ⟨rfl, rfl⟩ := trodVars_none hV
  obtain ⟨x0, rfl⟩ := open_point (hval 0 23 v0 rfl rfl) h0
  obtain ⟨x1, rfl⟩ := open_point (hval 1 23 v1 rfl rfl) h1
  obtain ⟨x2, rfl, rfl, rfl, w2⟩ := open_int Try.underlying3 (hval 2 3 v2 rfl rfl) h2
  have b2 := i64_of_wf w2
  clear hA0
  refine (walk x0 x1 x2 W b2).mono fun e W' ⟨he, hb⟩ => ?_
  subst he
  exact ⟨_, rfl, law_end hW' rfl rfl hb laidOut (by kernel_rfl) (by kernel_rfl) Try.underlying4⟩

theorem reads (os : Os) {H : Type} (enc : TypeId × Value → H) : ∃ places, DataW.whole enc Try.prog ((World.holding Try.prog os ⟨#[], #[], []⟩).forCall (fun _ _ => 0) ⟨#[], #[.agg #[.int .i64 0, .int .i64 0, .bool false], .agg #[.int .i64 0, .int .i64 0, .bool false], .int .i64 0], []⟩).memory Try.f3.params.toList Rows.whereDistsSpec.vars false [Value.agg #[.int .i64 0, .int .i64 0, .bool false], Value.agg #[.int .i64 0, .int .i64 0, .bool false], Value.int .i64 0] 8 = some ([.agg [.lit (.int .i64 0), .lit (.int .i64 0), .lit (.bool false)], .agg [.lit (.int .i64 0), .lit (.int .i64 0), .lit (.bool false)], .lit (.int .i64 0)], [], places) :=
  ⟨[], by kernel_rfl⟩

set_option maxRecDepth 100000 in
theorem lifted (os : Os) (started : os.Started) (H : Type) (enc : TypeId × Value → H) (F : Stop.Interp) :
    ReturnsInHanded {} Try.checked os 3 .any ((OpenSpec.ofChange Rows.whereDistsSpec).preRow enc Try.prog Try.f3 Rows.whereDistsRow.domain false Rows.whereDistsRow.laid) (((OpenSpec.ofChange Rows.whereDistsSpec).at F).post enc Try.prog Try.f3 false true false false) := by
  obtain ⟨places, hx⟩ := reads os enc
  have laid_met : laidMet Try.prog Rows.whereDistsRow.laid ((World.holding Try.prog os ⟨#[], #[], []⟩).forCall (fun _ _ => 0) ⟨#[], #[.agg #[.int .i64 0, .int .i64 0, .bool false], .agg #[.int .i64 0, .int .i64 0, .bool false], .int .i64 0], []⟩).memory := ⟨[], rfl, List.nodup_nil, fun _ _ h => by cases h⟩
  refine returnsInHanded_of_row (C := Try.checked) (s := OpenSpec.ofChange Rows.whereDistsSpec) own started (by kernel_rfl) Try.func3
    (witness_row_at (enc := enc) (C := Try.checked) false (World.holding Try.prog os ⟨#[], #[], []⟩) #[.agg #[.int .i64 0, .int .i64 0, .bool false], .agg #[.int .i64 0, .int .i64 0, .bool false], .int .i64 0] rfl (by kernel_rfl) (by kernel_rfl) (by kernel_rfl)
      (OpenSpec.preRow_of_cond 8 hx (by kernel_rfl) (fun k hk => by cases hk) (by kernel_rfl) laid_met)) ?_
  intro W base args ds gs before hval hW _ _ hz _ _ _
  exact contract H enc W base args ds gs before hval hW hz

theorem said : Rows.WhereDistsSaid :=
  OpenClaim.holds_of_cond 3 Try.f3 rfl rfl rfl rfl rfl rfl rfl ⟨rfl, rfl, rfl, rfl, rfl⟩ rfl rfl rfl rfl rfl (by kernel_rfl) Try.func3 (by kernel_rfl)
    (of_decide_eq_true (by kernel_rfl)) (by unfold Func.isWrapper; first | (rw [if_pos (by decide +kernel)]; kernel_rfl) | (rw [if_neg (by decide +kernel)]; exact ⟨rfl, rfl⟩))
    (fun os started H enc _ F => by rw [OpenClaim.pre_eq_preRow]; exact lifted os started H enc F)

end Go.Proofs.Yteengjmjbfgkeab.fnWhereDists
