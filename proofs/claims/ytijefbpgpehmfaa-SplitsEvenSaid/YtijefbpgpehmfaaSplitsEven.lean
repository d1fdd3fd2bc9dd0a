/- SplitsEven is true for every size and every wanted size: the splits follow one another without a gap, all of one size but the last. No conditions. -/
import Derived.Test.YtijefbpgpehmfaaSplSpk
import Derived.BigQuiet

import Derived.Test.YtijefbpgpehmfaaLawEnd

import Derived.Test.YtijefbpgpehmfaaPlainKit

namespace Go.Proofs.Ytijefbpgpehmfaa.fnSplitsEven
open Go.ChangeShapes Go.WideShapes Go.ChangeAt Go.RowKit Go.WideMaps Go.WideElems
open Go.ChangeMaps (open_string)

/-- the size of a split never falls short of what is wanted -/
theorem plW_ge (n : Nat) (want : Int) : max want 1 ≤ (plW n want : Int) := by unfold plW; omega
set_option maxRecDepth 100000 in
set_option maxHeartbeats 8000000 in
theorem walk (n want : Int) (w : World) (hn : -9223372036854775808 ≤ n ∧ n ≤ 9223372036854775807) (hw : -9223372036854775808 ≤ want ∧ want ≤ 9223372036854775807) :
    Calls Try.prog 6 #[.int .i64 n, .int .i64 want] w fun e w' => e = .returned (.bool true) ∧ Below w.heap.size w w' := by
  have hsp := fun w => speaks18_any w
  by_cases hbig : 1099511627776 < n
  · go_enter Try.func6, Try.ntmps6
    go_wp2_with (fail)
    refine (hsp _).mono ?_
    rintro e w' ⟨rfl, hb⟩
    have HB1 := Lib.hid hb
    clear hb
    go_wp2
    go_ret
    exact ⟨rfl, HB1.out⟩
  · by_cases hno : n < 1
    · have hp := fun w => plan_no n want w hno
      go_enter Try.func6, Try.ntmps6
      go_wp2_with (fail)
      refine (hsp _).mono ?_
      rintro e w' ⟨rfl, hb⟩
      have HB1 := Lib.hid hb
      clear hb
      go_wp2_with (fail)
      refine (hp _).mono ?_
      rintro e w' ⟨rfl, rfl⟩
      go_wp2
      go_ret
      exact ⟨rfl, HB1.out⟩
    · obtain ⟨m, rfl⟩ : ∃ m : Nat, n = (m : Int) := ⟨n.toNat, by omega⟩
      have hm1 : 1 ≤ m := by omega
      obtain ⟨W, hW⟩ : ∃ W, W = plW m want := ⟨_, rfl⟩
      obtain ⟨K, hK⟩ : ∃ K, K = plK m W := ⟨_, rfl⟩
      have hp := fun w => (plan_any m want hm1 (by omega) hw.2 w).mono fun e w' hp => planIs_of (by rw [plRow_len]; omega) hp
      rw [← hW, ← hK] at hp
      have hWp : 1 ≤ W := by rw [hW]; exact plW_pos m want
      have hWw : max want 1 ≤ (W : Int) := by rw [hW]; exact plW_ge m want
      have hK1 : 1 ≤ K := by rw [hK]; exact Nat.le_add_left 1 _
      have hK2 : K ≤ 256 := by rw [hK, hW]; exact plK_le m want hm1
      have hlt : ∀ k, k < K ↔ k * W < m := fun k => by rw [hK]; exact pl_lt m W k hWp hm1
      have HLT := Lib.hid hlt
      have he := fun k h => plRow_even m W K k h
      have ho := fun k h => plRow_odd m W K k h
      have HE := Lib.hid he
      have HO := Lib.hid ho
      have HWW := Lib.hid hWw
      clear hW hK hlt he ho hWw
      go_enter Try.func6, Try.ntmps6
      go_wp2_with (fail)
      refine (hsp _).mono ?_
      rintro e w1 ⟨rfl, hb1⟩
      have HB1 := Lib.hid hb1
      clear hb1 hsp
      go_wp2_with (fail)
      refine (hp _).mono ?_
      rintro e w2 ⟨A, cap, rfl, hb2, hc⟩
      have HB2 := Lib.hid (HB1.out.trans (hb2.mono HB1.out.size))
      obtain ⟨g, rfl, -, -⟩ := hc _ _ (HE.out 0 hK1)
      have HC : Hid (∀ k, k < K → w2.cell? ⟨g, k * 2, none⟩ = some (.int .i64 ((k * W : Nat) : Int)) ∧ w2.cell? ⟨g, k * 2 + 1, none⟩ = some (.int .i64 ((min ((k + 1) * W) m : Nat) : Int))) := Lib.hid fun k hk => by
        obtain ⟨g1, e1, _, h1⟩ := hc _ _ (HE.out k hk)
        obtain ⟨g2, e2, _, h2⟩ := hc _ _ (HO.out k hk)
        injection e1 with e1
        injection e1 with e1
        injection e2 with e2
        injection e2 with e2
        subst e1 e2
        rw [Nat.mul_comm]
        exact ⟨h1, h2⟩
      clear hb2 hc hp HE HO
      go_wp2
      go_loopw [6, 7, 8] (fun at_ i _ wr => ∃ k : Nat, k ≤ K ∧ i = .int .i64 k ∧ at_ = .int .i64 ((min (k * W) m : Nat) : Int) ∧ ∃ q, wr = w2.drewN q) (fun _ i _ _ => K - (intOf i).toNat)
      case atStart => exact ⟨0, Nat.zero_le _, rfl, by simp, 0, rfl⟩
      case round =>
        obtain ⟨k, hk, rfl, rfl, q, rfl⟩ := hrel
        have h0 := (HC.out 0 hK1).2
        simp only [Nat.zero_mul, Nat.zero_add, Nat.one_mul] at h0
        obtain ⟨t0, ht0⟩ : ∃ t0, t0 = min W m := ⟨_, rfl⟩
        rw [← ht0] at h0
        by_cases hlt : k < K
        · obtain ⟨h1, h2⟩ := HC.out k hlt
          have c1 := (HLT.out k).1 hlt
          have c2 := HLT.out (k + 1)
          rw [Nat.add_mul, Nat.one_mul] at c2 h2
          have c3 : 0 < k → W ≤ k * W := fun h => Nat.le_mul_of_pos_left W h
          rw [show min (k * W) m = k * W by omega]
          obtain ⟨a, ha⟩ : ∃ a, a = k * W := ⟨_, rfl⟩
          rw [← ha] at h1 h2 c1 c2 c3 ⊢
          have HA := Lib.hid ha
          have f5 : k = 0 → a = 0 := fun h => by rw [ha, h, Nat.zero_mul]
          clear ha
          obtain ⟨t, ht⟩ : ∃ t, t = min (a + W) m := ⟨_, rfl⟩
          rw [← ht] at h2
          have f1 : a < t := by omega
          have f2 : 0 < k → t - a ≤ t0 := fun h => by have := c3 h; omega
          have f3 : k + 1 < K → t - a = t0 := fun h => by have := c2.1 h; omega
          have HT : Hid (min ((k + 1) * W) m = t) := Lib.hid (by rw [Nat.add_mul, Nat.one_mul, ← HA.out]; exact ht.symm)
          have f4 : k = 0 → t = t0 := fun h => by have := f5 h; omega
          obtain ⟨d, hd⟩ : ∃ d, d = t - a := ⟨_, rfl⟩
          have hw64 : wrap64 ((t : Int) - (a : Int)) = (d : Int) := by rw [show (t : Int) - (a : Int) = (d : Int) by omega]; exact IntWalk.wrap64_in _ (by omega)
          have g1 : 1 ≤ d := by omega
          have f6 : k = 0 → d = t := fun h => by have := f5 h; omega
          rw [← hd] at f2 f3
          clear c1 c2 c3 ht ht0 f5
          have cases3 : (k = 0 ∧ k + 1 < K) ∨ (k = 0 ∧ ¬ k + 1 < K) ∨ (0 < k ∧ k + 1 < K) ∨ (0 < k ∧ ¬ k + 1 < K) := by omega
          rcases cases3 with ⟨q1, q2⟩ | ⟨q1, q2⟩ | ⟨q1, q2⟩ | ⟨q1, q2⟩
          · subst q1
            have f5 := f4 rfl
            rw [f6 rfl] at hw64 g1
            rw [Nat.zero_mul] at h1
            rw [← f5] at h0
            clear f2 f3 f4 h2 hd f1 f5 f6
            go_wp2_with (fail)
            go_quiet (fail)
            go_wp2
            go_roundw
            case rel => exact ⟨0 + 1, by omega, by go_num, by rw [HT.out], _, rfl⟩
            case measure => simp [intOf]; omega
          · subst q1
            have f5 := f4 rfl
            rw [f6 rfl] at hw64 g1
            rw [Nat.zero_mul] at h1
            rw [← f5] at h0
            clear f2 f3 f4 h2 hd f1 f5 f6
            go_wp2_with (fail)
            go_quiet (fail)
            go_wp2
            go_roundw
            case rel => exact ⟨0 + 1, by omega, by go_num, by rw [HT.out], _, rfl⟩
            case measure => simp [intOf]; omega
          · have g2 := f2 q1
            have g3 := f3 q2
            clear f2 f3 f4 hd f1 f6
            go_wp2_with (fail)
            go_quiet (fail)
            go_wp2
            go_roundw
            case rel => exact ⟨k + 1, by omega, by go_num, by rw [HT.out], _, rfl⟩
            case measure => simp [intOf]; omega
          · have g2 := f2 q1
            skip
            clear f2 f3 f4 hd f1 f6
            go_wp2_with (fail)
            go_quiet (fail)
            go_wp2
            go_roundw
            case rel => exact ⟨k + 1, by omega, by go_num, by rw [HT.out], _, rfl⟩
            case measure => simp [intOf]; omega
        · obtain rfl : k = K := by omega
          have hmk : m ≤ k * W := by
            have h1 := (HLT.out k).2
            omega
          rw [show min (k * W) m = m by omega]
          by_cases h1 : k = 1
          · subst h1
            go_wp2
            go_ret
            exact ⟨rfl, below_drewN HB2.out q⟩
          · have hWm : W < m := by
              have h2 := (HLT.out 1).1 (by omega)
              omega
            have h3 : max want 1 ≤ (t0 : Int) := by have := HWW.out; omega
            clear hmk ht0
            go_wp2
            all_goals
              go_ret
              refine ⟨?_, below_drewN HB2.out q⟩
              first | rfl | (simp; omega)

set_option maxRecDepth 100000 in
theorem contract (H : Type) (enc : TypeId × Value → H) (W : World) (base : Nat) (args : Array Value) (ds gs : List (DataW H)) (before : List MemPlace)
    (hval : ∀ (j : Nat) t v, Try.f6.params[j]? = some t → args[j]? = some v → Value.okWide Try.prog W .any base t v)
    (hW : DataW.Whole enc Try.prog Try.f6.params.toList Rows.splitsEvenSpec.vars false W args.toList ds gs before)
    (hz : (DataW.weightsEach Try.prog (Try.f6.params.toList ++ []) (ds ++ gs)).all (· ≤ reachBytes) = true) :
    Calls Try.prog 6 args W fun e W' => ∃ v, e = .returned v ∧ Rows.splitsEvenSpec.post enc Try.prog Try.f6 false true false false W args v W' := by
  have hW' := hW
  obtain ⟨p, q, hA0, hV, rfl, hfz, hnd⟩ := hW
  have hA : DataW.TrodAll enc Try.prog W 0 (fun _ => true) true Try.f6.params.toList args.toList ds p := hA0
  rw [Try.params6] at hA hval hz
  obtain ⟨v0, vs0, d0, ds0, p0, q0, hargs, rfl, rfl, h0, r0⟩ := trodAll_cons hA
  obtain ⟨v1, vs1, d1, ds1, p1, q1, rfl, rfl, rfl, h1, r1⟩ := trodAll_cons r0
  obtain ⟨rfl, rfl, rfl⟩ := trodAll_nil r1
  obtain rfl : args = #[v0, v1] := by cases args; simp_all
  obtain ⟨rfl, rfl⟩ := trodVars_none hV
  obtain ⟨x0, rfl, rfl, rfl, w0⟩ := open_int Try.underlying3 (hval 0 3 v0 rfl rfl) h0
  have b0 := i64_of_wf w0
  obtain ⟨x1, rfl, rfl, rfl, w1⟩ := open_int Try.underlying3 (hval 1 3 v1 rfl rfl) h1
  have b1 := i64_of_wf w1
  clear hA0
  refine (walk x0 x1 W b0 b1).mono fun e W' ⟨he, hb⟩ => ?_
  subst he
  exact ⟨_, rfl, law_end hW' rfl rfl hb laidOut (by kernel_rfl) (by kernel_rfl) Try.underlying4⟩

theorem reads (os : Os) {H : Type} (enc : TypeId × Value → H) : ∃ places, DataW.whole enc Try.prog ((World.holding Try.prog os ⟨#[], #[], []⟩).forCall (fun _ _ => 0) ⟨#[], #[.int .i64 0, .int .i64 0], []⟩).memory Try.f6.params.toList Rows.splitsEvenSpec.vars false [Value.int .i64 0, Value.int .i64 0] 8 = some ([.lit (.int .i64 0), .lit (.int .i64 0)], [], places) :=
  ⟨[], by kernel_rfl⟩

set_option maxRecDepth 100000 in
theorem lifted (os : Os) (started : os.Started) (H : Type) (enc : TypeId × Value → H) (F : Stop.Interp) :
    ReturnsInHanded {} Try.checked os 6 .any ((OpenSpec.ofChange Rows.splitsEvenSpec).preRow enc Try.prog Try.f6 Rows.splitsEvenRow.domain false Rows.splitsEvenRow.laid) (((OpenSpec.ofChange Rows.splitsEvenSpec).at F).post enc Try.prog Try.f6 false true false false) := by
  obtain ⟨places, hx⟩ := reads os enc
  have laid_met : laidMet Try.prog Rows.splitsEvenRow.laid ((World.holding Try.prog os ⟨#[], #[], []⟩).forCall (fun _ _ => 0) ⟨#[], #[.int .i64 0, .int .i64 0], []⟩).memory := ⟨[], rfl, List.nodup_nil, fun _ _ h => by cases h⟩
  refine returnsInHanded_of_row (C := Try.checked) (s := OpenSpec.ofChange Rows.splitsEvenSpec) own started (by kernel_rfl) Try.func6
    (witness_row_at (enc := enc) (C := Try.checked) false (World.holding Try.prog os ⟨#[], #[], []⟩) #[.int .i64 0, .int .i64 0] rfl (by kernel_rfl) (by kernel_rfl) (by kernel_rfl)
      (OpenSpec.preRow_of_cond 8 hx (by kernel_rfl) (fun k hk => by cases hk) (by kernel_rfl) laid_met)) ?_
  intro W base args ds gs before hval hW _ _ hz _ _ _
  exact contract H enc W base args ds gs before hval hW hz

theorem said : Rows.SplitsEvenSaid :=
  OpenClaim.holds_of_cond 6 Try.f6 rfl rfl rfl rfl rfl rfl rfl ⟨rfl, rfl, rfl, rfl, rfl⟩ rfl rfl rfl rfl rfl (by kernel_rfl) Try.func6 (by kernel_rfl)
    (of_decide_eq_true (by kernel_rfl)) (by unfold Func.isWrapper; first | (rw [if_pos (by decide +kernel)]; kernel_rfl) | (rw [if_neg (by decide +kernel)]; exact ⟨rfl, rfl⟩))
    (fun os started H enc _ F => by rw [OpenClaim.pre_eq_preRow]; exact lifted os started H enc F)

end Go.Proofs.Ytijefbpgpehmfaa.fnSplitsEven
