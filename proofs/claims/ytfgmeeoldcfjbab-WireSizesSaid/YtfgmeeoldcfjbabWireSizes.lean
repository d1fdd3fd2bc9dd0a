/- WireSizes is true for every two numbers: a number takes ten bytes at most, and the fewer the nearer it is to nought. No conditions. -/
import Derived.Test.YtfgmeeoldcfjbabWireSpeaks

import Derived.Test.YtfgmeeoldcfjbabLawEnd

import Derived.Test.YtfgmeeoldcfjbabPlainKit

namespace Go.Proofs.Ytfgmeeoldcfjbab.fnWireSizes
open Go.ChangeShapes Go.WideShapes Go.ChangeAt Go.RowKit Go.WideMaps Go.WideElems
open Go.ChangeMaps (open_string)

theorem zig_le_of {n m : Int} (h0 : 0 ≤ n) (h : n ≤ m) : Wire.zig n ≤ Wire.zig m := by unfold Wire.zig; rw [if_neg (by omega), if_neg (by omega)]; omega
theorem size_le {n m : Int} (h0 : 0 ≤ n) (h : n ≤ m) : (numS n).size ≤ (numS m).size := by
  have := Wire.vi_mono 10 _ _ (zig_le_of h0 h)
  unfold numS Wire.num
  show (Wire.vi 10 (Wire.zig n)).toArray.size ≤ (Wire.vi 10 (Wire.zig m)).toArray.size
  simpa using this
theorem size_one {n : Int} (h0 : -64 ≤ n) (h1 : n < 64) : (numS n).size = 1 := by
  have : Wire.zig n < 128 := by unfold Wire.zig; split <;> omega
  unfold numS Wire.num
  rw [Wire.vi_small 9 _ this]
  rfl
theorem one_size (n : Int) : (catS [numS n]).size = (numS n).size := by rw [catS_size]; simp [tot]

set_option maxHeartbeats 1000000 in
theorem walk (n m : Int) (w : World) (hn : -9223372036854775808 ≤ n ∧ n ≤ 9223372036854775807) (hm : -9223372036854775808 ≤ m ∧ m ≤ 9223372036854775807) :
    Calls Try.prog 4 #[.int .i64 n, .int .i64 m] w fun e w' => e = .returned (.bool true) ∧ Below w.heap.size w w' := by
  have HN := Lib.hid hn
  have HM := Lib.hid hm
  clear hn hm
  go_enter Try.func4, Try.ntmps4
  go_wp2_with (fail)
  refine (speaks2_any _).mono ?_
  rintro e w1 ⟨rfl, hb1⟩
  have B1 := Lib.hid hb1
  clear hb1
  have P0 := Lib.hid (two_first w1 28)
  have Q0 := Lib.hid (two_second w1 28)
  have B2 := Lib.hid (two_below B1.out 28 B1.out.size)
  go_wp2_with (fail)
  refine (int_pack _ _ n _ _ P0.out HN.out).mono ?_
  rintro e w2 ⟨rfl, hp, hg⟩
  have P1 := Lib.hid hp
  have Q1 := Lib.hid (Q0.out.grown hg (by omega) (by omega))
  have B3 := Lib.hid (below_grown B2.out hg B1.out.size B2.out.size)
  clear hp hg P0 Q0
  go_wp2_with (fail)
  refine (int_pack _ _ m _ _ Q1.out HM.out).mono ?_
  rintro e w3 ⟨rfl, hp, hg⟩
  have Q2 := Lib.hid hp
  have P2 := Lib.hid (P1.out.grown hg (by omega) (by omega))
  have B4 := Lib.hid (below_grown B3.out hg (Nat.le_succ_of_le B1.out.size) B3.out.size)
  clear hp hg P1 Q1
  go_wp2_with (fail)
  refine (bytes_pack _ _ _ _ P2.out (by have := numS_size n; simp [tot]; omega)).mono ?_
  rintro e w4 ⟨rfl, hb⟩
  have Q3 := Lib.hid (Q2.out.below hb (Nat.le_refl _))
  have B5 := Lib.hid (B4.out.trans (hb.mono B4.out.size))
  clear hb P2 Q2
  go_wp2_with (fail)
  refine (bytes_pack _ _ _ _ Q3.out (by have := numS_size m; simp [tot]; omega)).mono ?_
  rintro e w5 ⟨rfl, hb⟩
  have B6 := Lib.hid (B5.out.trans (hb.mono B5.out.size))
  clear hb Q3 B1 B2 B3 B4 B5
  have s1 := numS_size n
  have s2 := numS_size m
  have S3 := Lib.hid (one_size n)
  have S4 := Lib.hid (one_size m)
  obtain ⟨x, hx⟩ : ∃ x, x = catS [numS n] := ⟨_, rfl⟩
  obtain ⟨y, hy⟩ : ∃ y, y = catS [numS m] := ⟨_, rfl⟩
  have hxs : x.size = (numS n).size := by rw [hx]; exact S3.out
  have hys : y.size = (numS m).size := by rw [hy]; exact S4.out
  have hle : 0 ≤ n → n ≤ m → x.size ≤ y.size := fun a b => by rw [hxs, hys]; exact size_le a b
  have h1 : -64 ≤ n → n < 64 → x.size = 1 := fun a b => by rw [hxs]; exact size_one a b
  rw [← hx, ← hy]
  have hx1 : 1 ≤ x.size := by omega
  have hx2 : x.size ≤ 10 := by omega
  clear hx hy hxs hys s1 s2 S3 S4
  have HLE := Lib.hid hle
  have H1 := Lib.hid h1
  clear hle h1
  by_cases hr : -64 ≤ n ∧ n < 64
  · have h1 : ((x.size : Int) != 1) = false := by
      have := H1.out hr.1 hr.2
      rw [this]; rfl
    obtain ⟨r1, r2⟩ := hr
    by_cases h0 : n < 0
    · go_wp2
      go_ret
      exact ⟨rfl, B6.out⟩
    · by_cases hm : m < n
      · go_wp2
        go_ret
        exact ⟨rfl, B6.out⟩
      · have := HLE.out (by omega) (by omega)
        go_wp2
        go_ret
        exact ⟨rfl, B6.out⟩
  · have hr' : n < -64 ∨ 64 ≤ n := by omega
    clear hr
    by_cases h0 : n < 0
    · have : n < -64 := by omega
      clear hr'
      go_wp2
      go_ret
      exact ⟨rfl, B6.out⟩
    · have : 64 ≤ n := by omega
      clear hr'
      by_cases hm : m < n
      · go_wp2
        go_ret
        exact ⟨rfl, B6.out⟩
      · have := HLE.out (by omega) (by omega)
        go_wp2
        go_ret
        exact ⟨rfl, B6.out⟩

theorem contract (H : Type) (enc : TypeId × Value → H) (W : World) (base : Nat) (args : Array Value) (ds gs : List (DataW H)) (before : List MemPlace)
    (hval : ∀ (j : Nat) t v, Try.f4.params[j]? = some t → args[j]? = some v → Value.okWide Try.prog W .any base t v)
    (hW : DataW.Whole enc Try.prog Try.f4.params.toList Rows.wireSizesSpec.vars false W args.toList ds gs before)
    (hz : (DataW.weightsEach Try.prog (Try.f4.params.toList ++ []) (ds ++ gs)).all (· ≤ reachBytes) = true) :
    Calls Try.prog 4 args W fun e W' => ∃ v, e = .returned v ∧ Rows.wireSizesSpec.post enc Try.prog Try.f4 false true false false W args v W' := by
  have hW' := hW
  obtain ⟨p, q, hA0, hV, rfl, hfz, hnd⟩ := hW
  have hA : DataW.TrodAll enc Try.prog W 0 (fun _ => true) true Try.f4.params.toList args.toList ds p := hA0
  rw [Try.params4] at hA hval hz
  obtain ⟨v0, vs0, d0, ds0, p0, q0, hargs, rfl, rfl, h0, r0⟩ := trodAll_cons hA
  obtain ⟨v1, vs1, d1, ds1, p1, q1, rfl, rfl, rfl, h1, r1⟩ := trodAll_cons r0
  obtain ⟨rfl, rfl, rfl⟩ := trodAll_nil r1
  obtain rfl : args = #[v0, v1] := by cases args; simp_all
  obtain ⟨rfl, rfl⟩ := trodVars_none hV
  obtain ⟨x0, rfl, rfl, rfl, w0⟩ := open_int Try.underlying3 (hval 0 3 v0 rfl rfl) h0
  have b0 := i64_of_wf w0
  obtain ⟨x1, rfl, rfl, rfl, w1⟩ := open_int Try.underlying3 (hval 1 3 v1 rfl rfl) h1
  have b1 := i64_of_wf w1
  clear hA0
  refine (walk x0 x1 W b0 b1).mono fun e W' ⟨he, hb⟩ => ?_
  subst he
  exact ⟨_, rfl, law_end hW' rfl rfl hb laidOut (by kernel_rfl) (by kernel_rfl) Try.underlying4⟩

theorem reads (os : Os) {H : Type} (enc : TypeId × Value → H) : ∃ places, DataW.whole enc Try.prog ((World.holding Try.prog os ⟨#[], #[], []⟩).forCall (fun _ _ => 0) ⟨#[], #[.int .i64 0, .int .i64 0], []⟩).memory Try.f4.params.toList Rows.wireSizesSpec.vars false [Value.int .i64 0, Value.int .i64 0] 8 = some ([.lit (.int .i64 0), .lit (.int .i64 0)], [], places) :=
  ⟨[], by kernel_rfl⟩

set_option maxRecDepth 100000 in
theorem lifted (os : Os) (started : os.Started) (H : Type) (enc : TypeId × Value → H) (F : Stop.Interp) :
    ReturnsInHanded {} Try.checked os 4 .any ((OpenSpec.ofChange Rows.wireSizesSpec).preRow enc Try.prog Try.f4 Rows.wireSizesRow.domain false Rows.wireSizesRow.laid) (((OpenSpec.ofChange Rows.wireSizesSpec).at F).post enc Try.prog Try.f4 false true false false) := by
  obtain ⟨places, hx⟩ := reads os enc
  have laid_met : laidMet Try.prog Rows.wireSizesRow.laid ((World.holding Try.prog os ⟨#[], #[], []⟩).forCall (fun _ _ => 0) ⟨#[], #[.int .i64 0, .int .i64 0], []⟩).memory := ⟨[], rfl, List.nodup_nil, fun _ _ h => by cases h⟩
  refine returnsInHanded_of_row (C := Try.checked) (s := OpenSpec.ofChange Rows.wireSizesSpec) own started (by kernel_rfl) Try.func4
    (witness_row_at (enc := enc) (C := Try.checked) false (World.holding Try.prog os ⟨#[], #[], []⟩) #[.int .i64 0, .int .i64 0] rfl (by kernel_rfl) (by kernel_rfl) (by kernel_rfl)
      (OpenSpec.preRow_of_cond 8 hx (by kernel_rfl) (fun k hk => by cases hk) (by kernel_rfl) laid_met)) ?_
  intro W base args ds gs before hval hW _ _ hz _ _ _
  exact contract H enc W base args ds gs before hval hW hz

theorem said : Rows.WireSizesSaid :=
  OpenClaim.holds_of_cond 4 Try.f4 rfl rfl rfl rfl rfl rfl rfl ⟨rfl, rfl, rfl, rfl, rfl⟩ rfl rfl rfl rfl rfl (by kernel_rfl) Try.func4 (by kernel_rfl)
    (of_decide_eq_true (by kernel_rfl)) (by unfold Func.isWrapper; first | (rw [if_pos (by decide +kernel)]; kernel_rfl) | (rw [if_neg (by decide +kernel)]; exact ⟨rfl, rfl⟩))
    (fun os started H enc _ F => by rw [OpenClaim.pre_eq_preRow]; exact lifted os started H enc F)

end Go.Proofs.Ytfgmeeoldcfjbab.fnWireSizes
