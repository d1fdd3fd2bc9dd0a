/- RpcPatience: who ticks each moment is told to send again every so often, at the right moment that the call is lost, and nothing after that, whatever the input. -/
import Derived.Test.YtcjpllojgmaofaaRpcDesk

import Derived.Test.YtcjpllojgmaofaaLawEnd

import Derived.Test.YtcjpllojgmaofaaPlainKit

namespace Go.Proofs.Ytcjpllojgmaofaa.fnRpcPatience
open Go.ChangeShapes Go.WideShapes Go.ChangeAt Go.RowKit Go.WideMaps Go.WideElems
open Go.ChangeMaps (open_string)

/-- what a caller that ticks each moment is: behind the i-th tick -/
def patC (wait most t : Int) (i : Int) : Clr := ⟨wait, most, 1, decide (i < most), t, if i < most then t + i - i % wait else t + (most - 1) - (most - 1) % wait⟩
def patA (wait most : Int) (i : Int) : Int := if i < most ∧ i % wait = 0 then 1 else if i = most then 2 else 0
theorem mod_step {n w : Int} (hw : 1 ≤ w) (hn : 1 ≤ n) : (n % w = 0 → (n - 1) % w = w - 1) ∧ (¬ n % w = 0 → (n - 1) % w = n % w - 1) := by
  have h1 := Int.emod_nonneg n (b := w) (by omega)
  have h2 := Int.emod_lt_of_pos n (b := w) (by omega)
  have e : n - 1 = w * (n / w) + (n % w - 1) := by have := Int.mul_ediv_add_emod n w; omega
  constructor
  · intro h
    have e2 : n - 1 = (w - 1) + w * (n / w - 1) := by rw [Int.mul_sub]; omega
    rw [e2, Int.add_mul_emod_self_left, Int.emod_eq_of_lt (by omega) (by omega)]
  · intro h
    rw [show n - 1 = (n % w - 1) + w * (n / w) by omega, Int.add_mul_emod_self_left, Int.emod_eq_of_lt (by omega) (by omega)]
theorem mom_id {n : Int} (h : 0 ≤ n) (h2 : n ≤ 1099511627776) : mom n = n := by unfold mom; omega
theorem pat_tick (wait most t i : Int) (hw : 1 ≤ wait ∧ wait ≤ 50) (hm : 1 ≤ most ∧ most ≤ 200) (ht : 0 ≤ t ∧ t ≤ 549755813888) (hi : 1 ≤ i) (hi2 : i ≤ most + wait) :
    tickA (patC wait most t (i - 1)) (t + i) = patA wait most i ∧ tickC (patC wait most t (i - 1)) (t + i) = patC wait most t i := by
  have hmo : mom (t + i) = t + i := mom_id (by omega) (by omega)
  obtain ⟨s1, s2⟩ := mod_step (n := i) hw.1 hi
  have hp : (i - 1) % wait = (i - 1) % wait := rfl
  have h1 := Int.emod_nonneg i (b := wait) (by omega)
  have h2 := Int.emod_lt_of_pos i (b := wait) (by omega)
  have hA : tickA (patC wait most t (i - 1)) (t + i) = patA wait most i := by
    unfold tickA patA patC
    simp only [hmo, decide_eq_false_iff_not]
    by_cases h : i - 1 < most
    · rw [if_neg (by omega)]
      by_cases he : i = most
      · rw [if_pos (by omega), if_neg (by omega), if_pos he]
      · rw [if_neg (by omega), if_pos h]
        by_cases h0 : i % wait = 0
        · rw [if_pos (by rw [s1 h0]; omega), if_pos ⟨by omega, h0⟩]
        · rw [if_neg (by rw [s2 h0]; omega), if_neg (fun x => h0 x.2), if_neg he]
    · rw [if_pos h, if_neg (by omega), if_neg (by omega)]
  refine ⟨hA, ?_⟩
  unfold tickC
  rw [hA]
  by_cases h : i - 1 < most
  · by_cases he : i = most
    · have : patA wait most i = 2 := by unfold patA; rw [if_neg (by omega), if_pos he]
      rw [if_pos this]
      unfold patC
      simp only [Clr.mk.injEq, true_and]
      refine ⟨by simp; omega, ?_⟩
      rw [if_pos h, if_neg (by omega), he]
    · by_cases h0 : i % wait = 0
      · have : patA wait most i = 1 := by unfold patA; rw [if_pos ⟨by omega, h0⟩]
        rw [this, if_neg (by decide), if_pos rfl, hmo]
        unfold patC
        simp only [Clr.mk.injEq, true_and]
        refine ⟨by simp; omega, ?_⟩
        rw [if_pos (by omega), h0]
        omega
      · have : patA wait most i = 0 := by unfold patA; rw [if_neg (fun x => h0 x.2), if_neg he]
        rw [this, if_neg (by decide), if_neg (by decide)]
        unfold patC
        simp only [Clr.mk.injEq, true_and]
        refine ⟨by simp; omega, ?_⟩
        rw [if_pos h, if_pos (by omega), s2 h0]
        omega
  · have : patA wait most i = 0 := by unfold patA; rw [if_neg (by omega), if_neg (by omega)]
    rw [this, if_neg (by decide), if_neg (by decide)]
    unfold patC
    simp only [Clr.mk.injEq, true_and]
    refine ⟨by simp; omega, ?_⟩
    rw [if_neg h, if_neg (by omega)]
theorem pat_ok (wait most t i : Int) (hw : 1 ≤ wait ∧ wait ≤ 50) (hm : 1 ≤ most ∧ most ≤ 200) (ht : 0 ≤ t ∧ t ≤ 549755813888) (hi : 0 ≤ i) (hi2 : i ≤ most + wait) : ClrOk (patC wait most t i) := by
  unfold patC
  have h1 := Int.emod_nonneg i (b := wait) (by omega)
  have h2 := Int.emod_nonneg (most - 1) (b := wait) (by omega)
  have h3 : i % wait ≤ i := by
    have := Int.mul_ediv_add_emod i wait
    have h4 : 0 ≤ wait * (i / wait) := Int.mul_nonneg (by omega) (Int.ediv_nonneg hi (by omega))
    omega
  have h5 : (most - 1) % wait ≤ most - 1 := by
    have := Int.mul_ediv_add_emod (most - 1) wait
    have h4 : 0 ≤ wait * ((most - 1) / wait) := Int.mul_nonneg (by omega) (Int.ediv_nonneg (by omega) (by omega))
    omega
  refine ⟨⟨by simp; omega, by simp; omega⟩, ⟨by simp; omega, by simp; omega⟩, ⟨by simp; omega, by simp; omega⟩, ?_⟩
  simp only
  split <;> omega
set_option maxRecDepth 100000 in
set_option maxHeartbeats 4000000 in
theorem walk (a b c : Int) (w : World) :
    Calls Try.prog 7 #[.int .i64 a, .int .i64 b, .int .i64 c] w fun e w' => e = .returned (.bool true) ∧ Below w.heap.size w w' := by
  go_enter Try.func7, Try.ntmps7
  go_wp2_with (fail)
  refine (speaks_any _).mono ?_
  rintro e w1 ⟨rfl, hb⟩
  have HB := Lib.hid hb
  clear hb
  go_upto_region 3 with (fail)
  go_cut [33] (fun s33 wx => (∃ v : Bool, s33 = .bool v ∧ Hid (v = false → (1 ≤ a ∧ a ≤ 50) ∧ (1 ≤ b ∧ b ≤ 200) ∧ (0 ≤ c ∧ c ≤ 549755813888))) ∧ Hid (wx = w1))
  case first =>
    by_cases g1 : a < 1
    · go_wp2
      go_meet
      exact ⟨⟨true, rfl, Lib.hid (fun h => by cases h)⟩, Lib.hid rfl⟩
    by_cases g2 : 50 < a
    · go_wp2
      go_meet
      exact ⟨⟨true, rfl, Lib.hid (fun h => by cases h)⟩, Lib.hid rfl⟩
    by_cases g3 : b < 1
    · go_wp2
      go_meet
      exact ⟨⟨true, rfl, Lib.hid (fun h => by cases h)⟩, Lib.hid rfl⟩
    by_cases g4 : 200 < b
    · go_wp2
      go_meet
      exact ⟨⟨true, rfl, Lib.hid (fun h => by cases h)⟩, Lib.hid rfl⟩
    by_cases g5 : c < 0
    · go_wp2
      go_meet
      exact ⟨⟨true, rfl, Lib.hid (fun h => by cases h)⟩, Lib.hid rfl⟩
    by_cases g6 : 549755813888 < c
    · have g7 : decide (549755813888 < c) = true := by simpa using g6
      go_wp2
      go_meet
      exact ⟨⟨true, rfl, Lib.hid (fun h => by cases h)⟩, Lib.hid rfl⟩
    have g7 : decide (549755813888 < c) = false := by simpa using g6
    have G := Lib.hid (show (1 ≤ a ∧ a ≤ 50) ∧ (1 ≤ b ∧ b ≤ 200) ∧ (0 ≤ c ∧ c ≤ 549755813888) by omega)
    go_wp2
    go_meet
    exact ⟨⟨false, rfl, Lib.hid (fun _ => G.out)⟩, Lib.hid rfl⟩
  case rest =>
  obtain ⟨⟨v, rfl, HV⟩, hwx⟩ := hcut
  rw [hwx.out]
  clear hwx
  go_upto_if 33 with (fail)
  go_cut [0, 1, 2] (fun x y z wx => (∃ wait most t : Int, x = .int .i64 wait ∧ y = .int .i64 most ∧ z = .int .i64 t ∧ Hid ((1 ≤ wait ∧ wait ≤ 50) ∧ (1 ≤ most ∧ most ≤ 200) ∧ (0 ≤ t ∧ t ≤ 549755813888))) ∧ Hid (wx = w1))
  case first =>
    cases v
    · have HG0 := Lib.hid (HV.out rfl)
      clear HV
      go_wp2
      go_meet
      exact ⟨⟨a, b, c, rfl, rfl, rfl, Lib.hid (HG0.out)⟩, Lib.hid rfl⟩
    · go_wp2
      go_meet
      exact ⟨⟨3, 10, 7, rfl, rfl, rfl, Lib.hid (by omega)⟩, Lib.hid rfl⟩
  case rest =>
  obtain ⟨⟨wait, most, t, rfl, rfl, rfl, HG⟩, hwx⟩ := hcut
  rw [hwx.out]
  clear hwx HV
  go_wp2_with (fail)
  refine (clr_new (w0 := w) wait most w1 HB.out).mono ?_
  rintro e w2 ⟨rfl, H2⟩
  have H3 : Hid (ClrSt w w2 w1.heap.size (clrNew wait most)) := Lib.hid H2.out.1
  clear H2
  obtain ⟨p, hp⟩ : ∃ p, p = w1.heap.size := ⟨_, rfl⟩
  rw [← hp] at H3 ⊢
  clear hp HB
  go_wp2_with (fail)
  refine (start_any (w0 := w) p (clrNew wait most) t w2 ⟨Int.le_refl 0, show (0 : Int) < 9223372036854775807 by decide⟩ H3).mono ?_
  rintro e w3 ⟨rfl, H4⟩
  have H5 : Hid (ClrSt w w3 p (patC wait most t 0)) := Lib.hid (by
    have := H4.out.1
    have e : (⟨(clrNew wait most).wait, (clrNew wait most).most, (clrNew wait most).call + 1, true, mom t, mom t⟩ : Clr) = patC wait most t 0 := by
      obtain ⟨⟨a1, a2⟩, ⟨b1, b2⟩, d1, d2⟩ := HG.out
      have h1 : lenT wait = wait := by unfold lenT; omega
      have h2 : lenT most = most := by unfold lenT; omega
      have h3 : mom t = t := mom_id (by omega) (by omega)
      have h4 : decide ((0 : Int) < most) = true := by simp; omega
      unfold patC clrNew
      simp only [h1, h2, h3, h4, Clr.mk.injEq, true_and]
      refine ⟨by decide, ?_⟩
      rw [if_pos (by omega)]
      simp
    rw [e] at this
    exact this)
  clear H4 H3
  have hg := HG.out
  obtain ⟨⟨a1, a2⟩, ⟨b1, b2⟩, d1, d2⟩ := hg
  go_wp2
  go_loopw [8, 9] (fun i x wr => ∃ k : Nat, 1 ≤ k ∧ (k : Int) ≤ most + wait + 1 ∧ i = .int .i64 k ∧ Hid (ClrSt w wr p (patC wait most t ((k : Int) - 1)))) (fun i _ _ => (most + wait + 1 - intOf i).toNat)
  case atStart => exact ⟨1, by omega, by omega, rfl, H5⟩
  case round =>
    obtain ⟨k, hk1, hk2, rfl, HR⟩ := hrel
    clear H5
    by_cases hkn : (k : Int) ≤ most + wait
    · have hw1 : wrap64 (t + (k : Int)) = t + (k : Int) := IntWalk.wrap64_in _ ⟨by omega, by omega⟩
      have hk1' : (1 : Int) ≤ (k : Int) := by omega
      have HT : Hid (tickA (patC wait most t ((k : Int) - 1)) (t + k) = patA wait most k ∧ tickC (patC wait most t ((k : Int) - 1)) (t + k) = patC wait most t k) := Lib.hid (pat_tick wait most t k ⟨a1, a2⟩ ⟨b1, b2⟩ ⟨d1, d2⟩ hk1' hkn)
      have HO : Hid (ClrOk (patC wait most t ((k : Int) - 1))) := Lib.hid (pat_ok wait most t _ ⟨a1, a2⟩ ⟨b1, b2⟩ ⟨d1, d2⟩ (by omega) (by omega))
      go_wp2_with (fail)
      refine (tick_any (w0 := w) p _ (t + (k : Int)) wr HO.out HR).mono ?_
      rintro e w4 ⟨rfl, H6⟩
      rw [HT.out.1]
      have H7 : Hid (ClrSt w w4 p (patC wait most t (((k + 1 : Nat) : Int) - 1))) := Lib.hid (by
        have := H6.out.1
        rw [HT.out.2] at this
        rw [show (((k + 1 : Nat) : Int) - 1) = (k : Int) by omega]
        exact this)
      clear H6 HT HO HR
      have hmod := Int.emod_nonneg (k : Int) (b := wait) (by omega)
      by_cases h1 : (k : Int) < most
      · by_cases h0 : (k : Int) % wait = 0
        · have hA : patA wait most k = 1 := by unfold patA; rw [if_pos ⟨h1, h0⟩]
          have h0' : ((k : Int) % wait == 0) = true := by simpa using h0
          rw [hA]
          clear hA h0
          go_wp2
          go_round
          case rel => exact ⟨k + 1, by omega, by omega, by simp, H7⟩
          case measure => simp [intOf]; omega
        · have hA : patA wait most k = 0 := by unfold patA; rw [if_neg (fun x => h0 x.2), if_neg (by omega)]
          have h0' : ((k : Int) % wait == 0) = false := by simpa using h0
          have h2' : ((k : Int) == most) = false := by simp; omega
          rw [hA]
          clear hA h0
          go_wp2
          go_round
          case rel => exact ⟨k + 1, by omega, by omega, by simp, H7⟩
          case measure => simp [intOf]; omega
      · have h1' : decide ((k : Int) < most) = false := by simpa using h1
        by_cases h2 : (k : Int) = most
        · have hA : patA wait most k = 2 := by unfold patA; rw [if_neg (fun x => h1 x.1), if_pos h2]
          have h2' : ((k : Int) == most) = true := by simpa using h2
          rw [hA]
          clear hA h2
          go_wp2
          go_round
          case rel => exact ⟨k + 1, by omega, by omega, by simp, H7⟩
          case measure => simp [intOf]; omega
        · have hA : patA wait most k = 0 := by unfold patA; rw [if_neg (fun x => h1 x.1), if_neg h2]
          have h2' : ((k : Int) == most) = false := by simpa using h2
          rw [hA]
          clear hA h2
          go_wp2
          go_round
          case rel => exact ⟨k + 1, by omega, by omega, by simp, H7⟩
          case measure => simp [intOf]; omega
    · have HK := Lib.hid (show (k : Int) - 1 = most + wait by omega)
      have HP : Hid (ClrSt w wr p ⟨wait, most, 1, false, t, t + (most - 1) - (most - 1) % wait⟩) := Lib.hid (by
        have := HR.out
        rw [HK.out] at this
        have e : patC wait most t (most + wait) = ⟨wait, most, 1, false, t, t + (most - 1) - (most - 1) % wait⟩ := by
          unfold patC
          rw [if_neg (by omega), show decide (most + wait < most) = false by simp; omega]
        rw [e] at this
        exact this)
      clear HR HK
      go_wp2_with (fail)
      refine (got_any (w0 := w) p _ 1 wr HP).mono ?_
      rintro e w5 ⟨rfl, H8⟩
      simp only [gotB, gotC, Bool.false_and, Bool.false_eq_true, if_false] at H8 ⊢
      have H9 := Lib.hid H8.out.1
      clear H8 HP
      go_wp2_with (fail)
      refine (start_any (w0 := w) p _ 0 w5 ⟨show (0 : Int) ≤ 1 by decide, show (1 : Int) < 9223372036854775807 by decide⟩ H9).mono ?_
      rintro e w6 ⟨rfl, H10⟩
      have H11 := Lib.hid H10.out.1
      clear H10 H9
      go_wp2_with (fail)
      refine (got_any (w0 := w) p _ 2 w6 H11).mono ?_
      rintro e w7 ⟨rfl, H12⟩
      have H13 := Lib.hid H12.out.1.bel
      have hB : gotB ⟨wait, most, 1 + 1, true, mom 0, mom 0⟩ 2 = true := rfl
      rw [hB]
      clear H12 H11 hB
      go_wp2
      go_ret
      exact ⟨rfl, H13.out⟩

set_option maxRecDepth 100000 in
theorem contract (H : Type) (enc : TypeId × Value → H) (W : World) (base : Nat) (args : Array Value) (ds gs : List (DataW H)) (before : List MemPlace)
    (hval : ∀ (j : Nat) t v, Try.f7.params[j]? = some t → args[j]? = some v → Value.okWide Try.prog W .any base t v)
    (hW : DataW.Whole enc Try.prog Try.f7.params.toList Rows.rpcPatienceSpec.vars false W args.toList ds gs before)
    (hz : (DataW.weightsEach Try.prog (Try.f7.params.toList ++ []) (ds ++ gs)).all (· ≤ reachBytes) = true) :
    Calls Try.prog 7 args W fun e W' => ∃ v, e = .returned v ∧ Rows.rpcPatienceSpec.post enc Try.prog Try.f7 false true false false W args v W' := by
  have hW' := hW
  obtain ⟨p, q, hA0, hV, rfl, hfz, hnd⟩ := hW
  have hA : DataW.TrodAll enc Try.prog W 0 (fun _ => true) true Try.f7.params.toList args.toList ds p := hA0
  rw [Try.params7] at hA hval hz
  obtain ⟨v0, vs0, d0, ds0, p0, q0, hargs, rfl, rfl, h0, r0⟩ := trodAll_cons hA
  obtain ⟨v1, vs1, d1, ds1, p1, q1, rfl, rfl, rfl, h1, r1⟩ := trodAll_cons r0
  obtain ⟨v2, vs2, d2, ds2, p2, q2, rfl, rfl, rfl, h2, r2⟩ := trodAll_cons r1
  obtain ⟨rfl, rfl, rfl⟩ := trodAll_nil r2
  obtain rfl : args = #[v0, v1, v2] := by cases args; simp_all
  obtain ⟨rfl, rfl⟩ := trodVars_none hV
  obtain ⟨x0, rfl, rfl, rfl, w0⟩ := open_int Try.underlying3 (hval 0 3 v0 rfl rfl) h0
  have b0 := i64_of_wf w0
  obtain ⟨x1, rfl, rfl, rfl, w1⟩ := open_int Try.underlying3 (hval 1 3 v1 rfl rfl) h1
  have b1 := i64_of_wf w1
  obtain ⟨x2, rfl, rfl, rfl, w2⟩ := open_int Try.underlying3 (hval 2 3 v2 rfl rfl) h2
  have b2 := i64_of_wf w2
  clear hA0
  refine (walk x0 x1 x2 W).mono fun e W' ⟨he, hb⟩ => ?_
  subst he
  exact ⟨_, rfl, law_end hW' rfl rfl hb laidOut (by kernel_rfl) (by kernel_rfl) Try.underlying4⟩

theorem reads (os : Os) {H : Type} (enc : TypeId × Value → H) : ∃ places, DataW.whole enc Try.prog ((World.holding Try.prog os ⟨#[], #[], []⟩).forCall (fun _ _ => 0) ⟨#[], #[.int .i64 0, .int .i64 0, .int .i64 0], []⟩).memory Try.f7.params.toList Rows.rpcPatienceSpec.vars false [Value.int .i64 0, Value.int .i64 0, Value.int .i64 0] 8 = some ([.lit (.int .i64 0), .lit (.int .i64 0), .lit (.int .i64 0)], [], places) :=
  ⟨[], by kernel_rfl⟩

set_option maxRecDepth 100000 in
theorem lifted (os : Os) (started : os.Started) (H : Type) (enc : TypeId × Value → H) (F : Stop.Interp) :
    ReturnsInHanded {} Try.checked os 7 .any ((OpenSpec.ofChange Rows.rpcPatienceSpec).preRow enc Try.prog Try.f7 Rows.rpcPatienceRow.domain false Rows.rpcPatienceRow.laid) (((OpenSpec.ofChange Rows.rpcPatienceSpec).at F).post enc Try.prog Try.f7 false true false false) := by
  obtain ⟨places, hx⟩ := reads os enc
  have laid_met : laidMet Try.prog Rows.rpcPatienceRow.laid ((World.holding Try.prog os ⟨#[], #[], []⟩).forCall (fun _ _ => 0) ⟨#[], #[.int .i64 0, .int .i64 0, .int .i64 0], []⟩).memory := ⟨[], rfl, List.nodup_nil, fun _ _ h => by cases h⟩
  refine returnsInHanded_of_row (C := Try.checked) (s := OpenSpec.ofChange Rows.rpcPatienceSpec) own started (by kernel_rfl) Try.func7
    (witness_row_at (enc := enc) (C := Try.checked) false (World.holding Try.prog os ⟨#[], #[], []⟩) #[.int .i64 0, .int .i64 0, .int .i64 0] rfl (by kernel_rfl) (by kernel_rfl) (by kernel_rfl)
      (OpenSpec.preRow_of_cond 8 hx (by kernel_rfl) (fun k hk => by cases hk) (by kernel_rfl) laid_met)) ?_
  intro W base args ds gs before hval hW _ _ hz _ _ _
  exact contract H enc W base args ds gs before hval hW hz

theorem said : Rows.RpcPatienceSaid :=
  OpenClaim.holds_of_cond 7 Try.f7 rfl rfl rfl rfl rfl rfl rfl ⟨rfl, rfl, rfl, rfl, rfl⟩ rfl rfl rfl rfl rfl (by kernel_rfl) Try.func7 (by kernel_rfl)
    (of_decide_eq_true (by kernel_rfl)) (by unfold Func.isWrapper; first | (rw [if_pos (by decide +kernel)]; kernel_rfl) | (rw [if_neg (by decide +kernel)]; exact ⟨rfl, rfl⟩))
    (fun os started H enc _ F => by rw [OpenClaim.pre_eq_preRow]; exact lifted os started H enc F)

end Go.Proofs.Ytcjpllojgmaofaa.fnRpcPatience
