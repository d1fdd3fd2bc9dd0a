/- SplitsPlans is true for every size and every wanted size: the program's splits are the document's. No conditions. -/
import Derived.Test.YtijefbpgpehmfaaSplSpk
import Derived.BigQuiet

import Derived.Test.YtijefbpgpehmfaaLawEnd

import Derived.Test.YtijefbpgpehmfaaPlainKit

namespace Go.Proofs.Ytijefbpgpehmfaa.fnSplitsPlans
open Go.ChangeShapes Go.WideShapes Go.ChangeAt Go.RowKit Go.WideMaps Go.WideElems
open Go.ChangeMaps (open_string)

set_option maxRecDepth 100000 in
set_option maxHeartbeats 4000000 in
theorem walk (n want : Int) (w : World) (hn : -9223372036854775808 ≤ n ∧ n ≤ 9223372036854775807) (hw : -9223372036854775808 ≤ want ∧ want ≤ 9223372036854775807) :
    Calls Try.prog 3 #[.int .i64 n, .int .i64 want] w fun e w' => e = .returned (.bool true) ∧ Below w.heap.size w w' := by
  have hsp := fun w => speaks18_any w
  by_cases hbig : 1099511627776 < n
  · go_enter Try.func3, Try.ntmps3
    go_wp2_with (fail)
    refine (hsp _).mono ?_
    rintro e w' ⟨rfl, hb⟩
    have HB1 := Lib.hid hb
    clear hb
    go_wp2_with (fail)
    refine (hsp _).mono ?_
    rintro e w2 ⟨rfl, hb⟩
    have HB2 := Lib.hid hb
    clear hb
    go_wp2
    go_ret
    exact ⟨rfl, HB1.out.trans (HB2.out.mono HB1.out.size)⟩
  · obtain ⟨K, hK⟩ : ∃ K, K = plN n want := ⟨_, rfl⟩
    obtain ⟨R, hR0⟩ : ∃ R, R = plR n want := ⟨_, rfl⟩
    have hlen := plR_len n want
    have hR := fun j h => plR_ints n want j h
    rw [← hR0, ← hK] at hR
    have hK2 := plN_le n want
    have hp := fun w => plan_int n want (by omega) hw.2 w
    have hq := fun w => rplan_int n want (by omega) hw.2 w
    rw [← hR0, ← hK] at hp hq
    rw [← hR0, ← hK] at hlen
    rw [← hK] at hK2
    have HR := Lib.hid hR
    clear hK hR0 hR
    go_enter Try.func3, Try.ntmps3
    go_wp2_with (fail)
    refine (hsp _).mono ?_
    rintro e w1 ⟨rfl, hb1⟩
    have HB1 := Lib.hid hb1
    clear hb1 hsp
    go_wp2_with (fail)
    refine (hp _).mono ?_
    rintro e w2 ⟨A, cap, rfl, hb2, hc⟩
    have HB2 := Lib.hid (HB1.out.trans (hb2.mono HB1.out.size))
    have HZ2 := Lib.hid hb2.size
    have HC := Lib.hid hc
    clear hb2 hc hp
    go_wp2_with (fail)
    refine (hq _).mono ?_
    rintro e w3 ⟨A', cap', rfl, hb3, hd⟩
    have HB3 := Lib.hid (HB2.out.trans (hb3.mono HB2.out.size))
    have HC3 : Hid (∀ (j : Nat) u, R[j]? = some u → ∃ g, A = some ⟨g, 0, none⟩ ∧ w3.cell? ⟨g, j, none⟩ = some u) := Lib.hid fun j u hj => by
      obtain ⟨g, e, hB, hc⟩ := HC.out j u hj
      have hlt := cell_lt18 hc
      exact ⟨g, e, (hb3.cell (p := ⟨g, j, none⟩) hlt).trans hc⟩
    have HD := Lib.hid hd
    clear hb3 hd hq HC
    go_wp2
    go_loopw [7] (fun i wr => ∃ k : Nat, k ≤ K ∧ i = .int .i64 k ∧ ∃ m, wr = w3.drewN m) (fun i _ => K - (intOf i).toNat)
    case atStart => exact ⟨0, Nat.zero_le _, rfl, 0, rfl⟩
    case round =>
      obtain ⟨k, hk, rfl, m, rfl⟩ := hrel
      by_cases hlt : k < K
      · obtain ⟨x0, e0⟩ := HR.out (2 * k) (by omega)
        obtain ⟨x1, e1⟩ := HR.out (2 * k + 1) (by omega)
        obtain ⟨g, rfl, h1⟩ := HC3.out _ _ e0
        obtain ⟨g2, e, h2⟩ := HC3.out _ _ e1
        injection e with e
        injection e with e
        subst e
        obtain ⟨g3, rfl, _, h3⟩ := HD.out _ _ e0
        obtain ⟨g4, e, _, h4⟩ := HD.out _ _ e1
        injection e with e
        injection e with e
        subst e
        rw [Nat.mul_comm] at h1 h2
        clear e0 e1
        go_wp2_with (fail)
        go_quiet (fail)
        go_wp2
        go_roundw
        case rel => exact ⟨k + 1, by omega, by go_num, _, rfl⟩
        case measure => simp [intOf]; omega
      · obtain rfl : k = K := by omega
        go_wp2
        go_ret
        exact ⟨rfl, below_drewN HB3.out m⟩

set_option maxRecDepth 100000 in
theorem contract (H : Type) (enc : TypeId × Value → H) (W : World) (base : Nat) (args : Array Value) (ds gs : List (DataW H)) (before : List MemPlace)
    (hval : ∀ (j : Nat) t v, Try.f3.params[j]? = some t → args[j]? = some v → Value.okWide Try.prog W .any base t v)
    (hW : DataW.Whole enc Try.prog Try.f3.params.toList Rows.splitsPlansSpec.vars false W args.toList ds gs before)
    (hz : (DataW.weightsEach Try.prog (Try.f3.params.toList ++ []) (ds ++ gs)).all (· ≤ reachBytes) = true) :
    Calls Try.prog 3 args W fun e W' => ∃ v, e = .returned v ∧ Rows.splitsPlansSpec.post enc Try.prog Try.f3 false true false false W args v W' := by
  have hW' := hW
  obtain ⟨p, q, hA0, hV, rfl, hfz, hnd⟩ := hW
  have hA : DataW.TrodAll enc Try.prog W 0 (fun _ => true) true Try.f3.params.toList args.toList ds p := hA0
  rw [Try.params3] at hA hval hz
  obtain ⟨v0, vs0, d0, ds0, p0, q0, hargs, rfl, rfl, h0, r0⟩ := trodAll_cons hA
  obtain ⟨v1, vs1, d1, ds1, p1, q1, rfl, rfl, rfl, h1, r1⟩ := trodAll_cons r0
  obtain ⟨rfl, rfl, rfl⟩ := trodAll_nil r1
  obtain rfl : args = #[v0, v1] := by cases args; simp_all
  obtain ⟨rfl, rfl⟩ := trodVars_none hV
  obtain ⟨x0, rfl, rfl, rfl, w0⟩ := open_int Try.underlying3 (hval 0 3 v0 rfl rfl) h0
  have b0 := i64_of_wf w0
  obtain ⟨x1, rfl, rfl, rfl, w1⟩ := open_int Try.underlying3 (hval 1 3 v1 rfl rfl) h1
  have b1 := i64_of_wf w1
  clear hA0
  refine (walk x0 x1 W b0 b1).mono fun e W' ⟨he, hb⟩ => ?_
  subst he
  exact ⟨_, rfl, law_end hW' rfl rfl hb laidOut (by kernel_rfl) (by kernel_rfl) Try.underlying4⟩

theorem reads (os : Os) {H : Type} (enc : TypeId × Value → H) : ∃ places, DataW.whole enc Try.prog ((World.holding Try.prog os ⟨#[], #[], []⟩).forCall (fun _ _ => 0) ⟨#[], #[.int .i64 0, .int .i64 0], []⟩).memory Try.f3.params.toList Rows.splitsPlansSpec.vars false [Value.int .i64 0, Value.int .i64 0] 8 = some ([.lit (.int .i64 0), .lit (.int .i64 0)], [], places) :=
  ⟨[], by kernel_rfl⟩

set_option maxRecDepth 100000 in
theorem lifted (os : Os) (started : os.Started) (H : Type) (enc : TypeId × Value → H) (F : Stop.Interp) :
    ReturnsInHanded {} Try.checked os 3 .any ((OpenSpec.ofChange Rows.splitsPlansSpec).preRow enc Try.prog Try.f3 Rows.splitsPlansRow.domain false Rows.splitsPlansRow.laid) (((OpenSpec.ofChange Rows.splitsPlansSpec).at F).post enc Try.prog Try.f3 false true false false) := by
  obtain ⟨places, hx⟩ := reads os enc
  have laid_met : laidMet Try.prog Rows.splitsPlansRow.laid ((World.holding Try.prog os ⟨#[], #[], []⟩).forCall (fun _ _ => 0) ⟨#[], #[.int .i64 0, .int .i64 0], []⟩).memory := ⟨[], rfl, List.nodup_nil, fun _ _ h => by cases h⟩
  refine returnsInHanded_of_row (C := Try.checked) (s := OpenSpec.ofChange Rows.splitsPlansSpec) own started (by kernel_rfl) Try.func3
    (witness_row_at (enc := enc) (C := Try.checked) false (World.holding Try.prog os ⟨#[], #[], []⟩) #[.int .i64 0, .int .i64 0] rfl (by kernel_rfl) (by kernel_rfl) (by kernel_rfl)
      (OpenSpec.preRow_of_cond 8 hx (by kernel_rfl) (fun k hk => by cases hk) (by kernel_rfl) laid_met)) ?_
  intro W base args ds gs before hval hW _ _ hz _ _ _
  exact contract H enc W base args ds gs before hval hW hz

theorem said : Rows.SplitsPlansSaid :=
  OpenClaim.holds_of_cond 3 Try.f3 rfl rfl rfl rfl rfl rfl rfl ⟨rfl, rfl, rfl, rfl, rfl⟩ rfl rfl rfl rfl rfl (by kernel_rfl) Try.func3 (by kernel_rfl)
    (of_decide_eq_true (by kernel_rfl)) (by unfold Func.isWrapper; first | (rw [if_pos (by decide +kernel)]; kernel_rfl) | (rw [if_neg (by decide +kernel)]; exact ⟨rfl, rfl⟩))
    (fun os started H enc _ F => by rw [OpenClaim.pre_eq_preRow]; exact lifted os started H enc F)

end Go.Proofs.Ytijefbpgpehmfaa.fnSplitsPlans
