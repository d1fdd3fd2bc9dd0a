/- WhereWays is true for every three points: the square of a way is at most twice the sum of the squares of the two parts of any way around. No conditions. -/
import Derived.Test.YteengjmjbfgkeabWhereFnsE
import Derived.Test.YteengjmjbfgkeabBoxes

import Derived.Test.YteengjmjbfgkeabLawEnd

import Derived.Test.YteengjmjbfgkeabPlainKit

namespace Go.Proofs.Yteengjmjbfgkeab.fnWhereWays
open Go.ChangeShapes Go.WideShapes Go.ChangeAt Go.RowKit Go.WideMaps Go.WideElems
open Go.ChangeMaps (open_string)

theorem sq_ways (p q r : Int × Int) : sq p r ≤ 2 * (sq p q + sq q r) := by
  unfold sq
  have h1 := self_pos ((p.1 - q.1) - (q.1 - r.1))
  have h2 := self_pos ((p.2 - q.2) - (q.2 - r.2))
  have e1 : p.1 - r.1 = (p.1 - q.1) + (q.1 - r.1) := by omega
  have e2 : p.2 - r.2 = (p.2 - q.2) + (q.2 - r.2) := by omega
  rw [e1, e2]
  obtain ⟨a, ha⟩ : ∃ a, a = p.1 - q.1 := ⟨_, rfl⟩
  obtain ⟨b, hb⟩ : ∃ b, b = q.1 - r.1 := ⟨_, rfl⟩
  obtain ⟨c, hc⟩ : ∃ c, c = p.2 - q.2 := ⟨_, rfl⟩
  obtain ⟨d, hd⟩ : ∃ d, d = q.2 - r.2 := ⟨_, rfl⟩
  rw [← ha, ← hb] at h1 ⊢
  rw [← hc, ← hd] at h2 ⊢
  have x1 : (a - b) * (a - b) = a * a - 2 * (a * b) + b * b := by rw [Int.sub_mul, Int.mul_sub, Int.mul_sub, Int.mul_comm b a]; omega
  have x2 : (c - d) * (c - d) = c * c - 2 * (c * d) + d * d := by rw [Int.sub_mul, Int.mul_sub, Int.mul_sub, Int.mul_comm d c]; omega
  have x3 : (a + b) * (a + b) = a * a + 2 * (a * b) + b * b := by rw [Int.add_mul, Int.mul_add, Int.mul_add, Int.mul_comm b a]; omega
  have x4 : (c + d) * (c + d) = c * c + 2 * (c * d) + d * d := by rw [Int.add_mul, Int.mul_add, Int.mul_add, Int.mul_comm d c]; omega
  omega
theorem dist_bounds (p q : Option (Int × Int)) (hp : ∀ x, p = some x → Pt x) (hq : ∀ x, q = some x → Pt x) : -1 ≤ distO p q ∧ distO p q ≤ 8000000 := by
  cases p with
  | none => exact ⟨by show (-1 : Int) ≤ -1; omega, by show (-1 : Int) ≤ 8000000; omega⟩
  | some x =>
    cases q with
    | none => exact ⟨by show (-1 : Int) ≤ -1; omega, by show (-1 : Int) ≤ 8000000; omega⟩
    | some y => exact ⟨by have := sq_lo x y; show -1 ≤ sq x y; omega, sq_hi (hp x rfl) (hq y rfl)⟩
theorem dist_ways (p q r : Option (Int × Int)) : distO p r < 0 ∨ distO p q < 0 ∨ distO q r < 0 ∨ distO p r ≤ 2 * (distO p q + distO q r) := by
  cases p with
  | none => left; show (-1 : Int) < 0; omega
  | some x =>
    cases r with
    | none => left; show (-1 : Int) < 0; omega
    | some z =>
      cases q with
      | none => right; left; show (-1 : Int) < 0; omega
      | some y => right; right; right; exact sq_ways x y z
set_option maxHeartbeats 1000000 in
theorem walk (a b c : Pnt) (w : World) :
    Calls Try.prog 9 #[.agg #[.int .i64 a.x, .int .i64 a.y, .bool a.raw], .agg #[.int .i64 b.x, .int .i64 b.y, .bool b.raw], .agg #[.int .i64 c.x, .int .i64 c.y, .bool c.raw]] w
      fun e w' => e = .returned (.bool true) ∧ Below w.heap.size w w' := by
  obtain ⟨X, hX⟩ : ∃ X, X = distO (plc a.re a.im) (plc c.re c.im) := ⟨_, rfl⟩
  obtain ⟨Y, hY⟩ : ∃ Y, Y = distO (plc a.re a.im) (plc b.re b.im) := ⟨_, rfl⟩
  obtain ⟨Z, hZ⟩ : ∃ Z, Z = distO (plc b.re b.im) (plc c.re c.im) := ⟨_, rfl⟩
  have hx := fun w => dist_any a.re a.im c.re c.im w
  have hy := fun w => dist_any a.re a.im b.re b.im w
  have hz := fun w => dist_any b.re b.im c.re c.im w
  have hw := dist_ways (plc a.re a.im) (plc b.re b.im) (plc c.re c.im)
  have bx := dist_bounds (plc a.re a.im) (plc c.re c.im) (fun _ h => plc_pt h) (fun _ h => plc_pt h)
  have by_ := dist_bounds (plc a.re a.im) (plc b.re b.im) (fun _ h => plc_pt h) (fun _ h => plc_pt h)
  have bz := dist_bounds (plc b.re b.im) (plc c.re c.im) (fun _ h => plc_pt h) (fun _ h => plc_pt h)
  rw [← hX] at hx hw bx
  rw [← hY] at hy hw by_
  rw [← hZ] at hz hw bz
  have HX := Lib.hid hx
  have HY := Lib.hid hy
  have HZ := Lib.hid hz
  have hS := start_T w 23 a b c
  obtain ⟨x1, x2⟩ := bx
  obtain ⟨y1, y2⟩ := by_
  obtain ⟨z1, z2⟩ := bz
  clear hX hY hZ hx hy hz
  have cases4 : X < 0 ∨ (0 ≤ X ∧ Y < 0) ∨ (0 ≤ X ∧ 0 ≤ Y ∧ Z < 0) ∨ (0 ≤ X ∧ 0 ≤ Y ∧ 0 ≤ Z ∧ X ≤ 2 * (Y + Z)) := by omega
  clear hw
  rcases cases4 with c1 | ⟨c1, c2⟩ | ⟨c1, c2, c3⟩ | ⟨c1, c2, c3, c4⟩
  all_goals
    go_enter Try.func9, Try.ntmps9
    go_wp2_with (fail)
    refine (speaks3_any _).mono ?_
    rintro e w' ⟨rfl, rfl⟩
    have kk := hS.out
    obtain ⟨kb, ⟨a0, a1, a2⟩, ⟨b0, b1, b2⟩, c0, c1', c2'⟩ := hS.out
    go_wp2_with (fail)
    go_region_held3 (fun w' => Hid (Below w.heap.size w w') ∧ (w'.cell? ⟨w.heap.size, 0, none⟩ = some (.int .i64 a.x) ∧ w'.cell? ⟨w.heap.size, 1, none⟩ = some (.int .i64 a.y) ∧ w'.cell? ⟨w.heap.size, 2, none⟩ = some (.bool a.raw)) ∧ (w'.cell? ⟨w.heap.size + 1, 0, none⟩ = some (.int .i64 b.x) ∧ w'.cell? ⟨w.heap.size + 1, 1, none⟩ = some (.int .i64 b.y) ∧ w'.cell? ⟨w.heap.size + 1, 2, none⟩ = some (.bool b.raw)) ∧ (w'.cell? ⟨w.heap.size + 1 + 1, 0, none⟩ = some (.int .i64 c.x) ∧ w'.cell? ⟨w.heap.size + 1 + 1, 1, none⟩ = some (.int .i64 c.y) ∧ w'.cell? ⟨w.heap.size + 1 + 1, 2, none⟩ = some (.bool c.raw))) (first | assumption | exact drew_T (by assumption))
      (first | (go_at_call 12; refine (number_T (by assumption) _).mono ?_; rintro e w' ⟨rfl, hS⟩) | (go_at_call 13; first | ((with_reducible refine (HX.out _).mono ?_); rintro e w' ⟨rfl, rfl⟩) | ((with_reducible refine (HY.out _).mono ?_); rintro e w' ⟨rfl, rfl⟩) | ((with_reducible refine (HZ.out _).mono ?_); rintro e w' ⟨rfl, rfl⟩)))
    go_wp2
    go_ret
    exact ⟨rfl, end_T (by assumption)⟩

theorem contract (H : Type) (enc : TypeId × Value → H) (W : World) (base : Nat) (args : Array Value) (ds gs : List (DataW H)) (before : List MemPlace)
    (hval : ∀ (j : Nat) t v, Try.f9.params[j]? = some t → args[j]? = some v → Value.okWide Try.prog W .any base t v)
    (hW : DataW.Whole enc Try.prog Try.f9.params.toList Rows.whereWaysSpec.vars false W args.toList ds gs before)
    (hz : (DataW.weightsEach Try.prog (Try.f9.params.toList ++ []) (ds ++ gs)).all (· ≤ reachBytes) = true) :
    Calls Try.prog 9 args W fun e W' => ∃ v, e = .returned v ∧ Rows.whereWaysSpec.post enc Try.prog Try.f9 false true false false W args v W' := by
  have hW' := hW
  obtain ⟨p, q, hA0, hV, rfl, hfz, hnd⟩ := hW
  have hA : DataW.TrodAll enc Try.prog W 0 (fun _ => true) true Try.f9.params.toList args.toList ds p := hA0
  rw [Try.params9] at hA hval hz
  obtain ⟨v0, vs0, d0, ds0, p0, q0, hargs, rfl, rfl, h0, r0⟩ := trodAll_cons hA
  obtain ⟨v1, vs1, d1, ds1, p1, q1, rfl, rfl, rfl, h1, r1⟩ := trodAll_cons r0
  obtain ⟨v2, vs2, d2, ds2, p2, q2, rfl, rfl, rfl, h2, r2⟩ := trodAll_cons r1
  obtain ⟨rfl, rfl, rfl⟩ := trodAll_nil r2
  obtain rfl : args = #[v0, v1, v2] := by cases args; simp_all
  obtain ⟨rfl, rfl⟩ := trodVars_none hV
  obtain ⟨x0, rfl⟩ := open_point (hval 0 23 v0 rfl rfl) h0
  obtain ⟨x1, rfl⟩ := open_point (hval 1 23 v1 rfl rfl) h1
  obtain ⟨x2, rfl⟩ := open_point (hval 2 23 v2 rfl rfl) h2
  clear hA0
  refine (walk x0 x1 x2 W).mono fun e W' ⟨he, hb⟩ => ?_
  subst he
  exact ⟨_, rfl, law_end hW' rfl rfl hb laidOut (by kernel_rfl) (by kernel_rfl) Try.underlying4⟩

theorem reads (os : Os) {H : Type} (enc : TypeId × Value → H) : ∃ places, DataW.whole enc Try.prog ((World.holding Try.prog os ⟨#[], #[], []⟩).forCall (fun _ _ => 0) ⟨#[], #[.agg #[.int .i64 0, .int .i64 0, .bool false], .agg #[.int .i64 0, .int .i64 0, .bool false], .agg #[.int .i64 0, .int .i64 0, .bool false]], []⟩).memory Try.f9.params.toList Rows.whereWaysSpec.vars false [Value.agg #[.int .i64 0, .int .i64 0, .bool false], Value.agg #[.int .i64 0, .int .i64 0, .bool false], Value.agg #[.int .i64 0, .int .i64 0, .bool false]] 8 = some ([.agg [.lit (.int .i64 0), .lit (.int .i64 0), .lit (.bool false)], .agg [.lit (.int .i64 0), .lit (.int .i64 0), .lit (.bool false)], .agg [.lit (.int .i64 0), .lit (.int .i64 0), .lit (.bool false)]], [], places) :=
  ⟨[], by kernel_rfl⟩

set_option maxRecDepth 100000 in
theorem lifted (os : Os) (started : os.Started) (H : Type) (enc : TypeId × Value → H) (F : Stop.Interp) :
    ReturnsInHanded {} Try.checked os 9 .any ((OpenSpec.ofChange Rows.whereWaysSpec).preRow enc Try.prog Try.f9 Rows.whereWaysRow.domain false Rows.whereWaysRow.laid) (((OpenSpec.ofChange Rows.whereWaysSpec).at F).post enc Try.prog Try.f9 false true false false) := by
  obtain ⟨places, hx⟩ := reads os enc
  have laid_met : laidMet Try.prog Rows.whereWaysRow.laid ((World.holding Try.prog os ⟨#[], #[], []⟩).forCall (fun _ _ => 0) ⟨#[], #[.agg #[.int .i64 0, .int .i64 0, .bool false], .agg #[.int .i64 0, .int .i64 0, .bool false], .agg #[.int .i64 0, .int .i64 0, .bool false]], []⟩).memory := ⟨[], rfl, List.nodup_nil, fun _ _ h => by cases h⟩
  refine returnsInHanded_of_row (C := Try.checked) (s := OpenSpec.ofChange Rows.whereWaysSpec) own started (by kernel_rfl) Try.func9
    (witness_row_at (enc := enc) (C := Try.checked) false (World.holding Try.prog os ⟨#[], #[], []⟩) #[.agg #[.int .i64 0, .int .i64 0, .bool false], .agg #[.int .i64 0, .int .i64 0, .bool false], .agg #[.int .i64 0, .int .i64 0, .bool false]] rfl (by kernel_rfl) (by kernel_rfl) (by kernel_rfl)
      (OpenSpec.preRow_of_cond 8 hx (by kernel_rfl) (fun k hk => by cases hk) (by kernel_rfl) laid_met)) ?_
  intro W base args ds gs before hval hW _ _ hz _ _ _
  exact contract H enc W base args ds gs before hval hW hz

theorem said : Rows.WhereWaysSaid :=
  OpenClaim.holds_of_cond 9 Try.f9 rfl rfl rfl rfl rfl rfl rfl ⟨rfl, rfl, rfl, rfl, rfl⟩ rfl rfl rfl rfl rfl (by kernel_rfl) Try.func9 (by kernel_rfl)
    (of_decide_eq_true (by kernel_rfl)) (by unfold Func.isWrapper; first | (rw [if_pos (by decide +kernel)]; kernel_rfl) | (rw [if_neg (by decide +kernel)]; exact ⟨rfl, rfl⟩))
    (fun os started H enc _ F => by rw [OpenClaim.pre_eq_preRow]; exact lifted os started H enc F)

end Go.Proofs.Yteengjmjbfgkeab.fnWhereWays
