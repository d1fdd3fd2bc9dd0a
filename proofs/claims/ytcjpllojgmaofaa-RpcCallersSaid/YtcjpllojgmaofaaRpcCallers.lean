/- RpcCallers: every script of a caller's moments is answered as the document says, whatever the input. -/
import Derived.Test.YtcjpllojgmaofaaRpcRefC
import Derived.Deep.CutBlock

import Derived.Test.YtcjpllojgmaofaaLawEnd

import Derived.Test.YtcjpllojgmaofaaPlainKit

namespace Go.Proofs.Ytcjpllojgmaofaa.fnRpcCallers
open Go.ChangeShapes Go.WideShapes Go.ChangeAt Go.RowKit Go.WideMaps Go.WideElems
open Go.ChangeMaps (open_string)

set_option maxRecDepth 100000 in
set_option maxHeartbeats 8000000 in
theorem walk (wait most : Int) (A : Option Addr) (len cap : Nat) (it : Nat → Ac) (W : World) (hl : len * 40 ≤ 140737488351232) (hS : Acts W W.heap.size A len it) :
    Calls Try.prog 4 #[.int .i64 wait, .int .i64 most, .slice A len cap] W fun e w' => e = .returned (.bool true) ∧ Below W.heap.size W w' := by
  have HS := Lib.hid hS
  have hl' : (len : Int) ≤ 9223372036854775807 := by omega
  clear hS hl
  go_enter Try.func4, Try.ntmps4
  go_wp2_with (fail)
  refine (speaks_any _).mono ?_
  rintro e w1 ⟨rfl, hb1⟩
  have HB1 := Lib.hid hb1
  clear hb1
  go_wp2_with (fail)
  refine (clr_new (w0 := W) wait most w1 HB1.out).mono ?_
  rintro e w2 ⟨rfl, h2⟩
  have H2 : Hid (ClrSt W w2 w1.heap.size (clrNew wait most)) := Lib.hid h2.out.1
  clear h2
  obtain ⟨p, hp⟩ : ∃ p, p = w1.heap.size := ⟨_, rfl⟩
  rw [← hp] at H2 ⊢
  clear hp HB1
  go_wp2_with (fail)
  refine (clamp1_any wait _).mono ?_
  rintro e w3 ⟨rfl, rfl⟩
  go_wp2_with (fail)
  refine (clamp1_any most _).mono ?_
  rintro e w3 ⟨rfl, rfl⟩
  have H3 : Hid (CP W (w2.alloc (.cells #[.int .i64 (lenT wait), .int .i64 (lenT most), .int .i64 0, .int .i64 0, .int .i64 0, .bool false] 48)) p w2.heap.size (clrNew wait most)) := Lib.hid (by
    have hb : Below w2.heap.size w2 (w2.alloc (.cells #[.int .i64 (lenT wait), .int .i64 (lenT most), .int .i64 0, .int .i64 0, .int .i64 0, .bool false] 48)) := (Below.refl _ w2).alloc (Nat.le_refl _) _
    refine ⟨H2.out.below hb, H2.out.bel.size, ⟨_, heap_alloc_new w2 _⟩, ?_, ?_, ?_, ?_, ?_, ?_⟩ <;> simp [clrNew])
  have HO : Hid (ClrOk (clrNew wait most)) := Lib.hid ⟨lenT_b wait, lenT_b most, by simp [clrNew], by simp [clrNew]⟩
  clear H2
  obtain ⟨q, hq⟩ : ∃ q, q = w2.heap.size := ⟨_, rfl⟩
  rw [← hq] at H3
  go_wp2
  rw [← hq]
  obtain ⟨w4, hw4⟩ : ∃ w4, w4 = w2.alloc (.cells #[.int .i64 (lenT wait), .int .i64 (lenT most), .int .i64 0, .int .i64 0, .int .i64 0, .bool false] 48) := ⟨_, rfl⟩
  rw [← hw4] at H3 ⊢
  clear hw4 hq
  go_loopw [9] (fun i wr => ∃ (k : Nat) (c : Clr), k ≤ len ∧ i = .int .i64 k ∧ Hid (CP W wr p q c ∧ ClrOk c ∧ 0 ≤ c.call ∧ c.call ≤ k)) (fun i _ => len - (intOf i).toNat)
  case atStart => exact ⟨0, clrNew wait most, by omega, rfl, Lib.hid ⟨H3.out, HO.out, Int.le_refl 0, Int.le_refl 0⟩⟩
  case round =>
    obtain ⟨k, c, hk, rfl, HR⟩ := hrel
    clear H3 HO
    by_cases hkn : k < len
    · have hkn' : (k : Int) < len := by omega
      obtain ⟨HW, b, off, rfl, hB, hc⟩ := HS.out k hkn
      obtain ⟨x, hx⟩ : ∃ x, x = it k := ⟨_, rfl⟩
      rw [← hx] at HW hc
      have hin := fun j u (hj : (acCells x)[j]? = some u) => (HR.out.1.clr.bel.cell (p := ⟨b, off + k * 4 + j, none⟩) hB).trans (hc j u hj)
      have i0 := hin 0 _ rfl
      have i1 := hin 1 _ rfl
      have i2 := hin 2 _ rfl
      have i3 := hin 3 _ rfl
      rw [Nat.add_zero] at i0
      have HBX := Lib.hid (HR.out.1.box x)
      have hr := r3_is x.k HW.k
      have HX := Lib.hid HW
      clear hin hc hB HW hx
      go_upto_region 9 with (fail)
      obtain ⟨g, hg⟩ : ∃ g, g = wr.heap.size := ⟨_, rfl⟩
      obtain ⟨wx, hwx⟩ : ∃ wx, wx = wr.alloc (.cells #[.int .i64 x.k, .int .i64 x.a, .int .i64 x.b, .string x.s] 32) := ⟨_, rfl⟩
      rw [← hwx, ← hg] at HBX ⊢
      have HOK := Lib.hid HR.out.2
      clear hg hwx i0 i1 i2 i3 HR
      obtain ⟨bt, x0, x1, x2, x3⟩ := HBX.out.box
      clear bt
      go_upto_block 2 with (fail)
      go_cut [] (fun wy => ∃ c' : Clr, Hid (CS W wy p q g c' c' x ∧ ClrOk c' ∧ 0 ≤ c'.call ∧ c'.call ≤ ((k + 1 : Nat) : Int)))
      case first =>
        obtain ⟨ra, r0, r1, r2, r4, r5, r6⟩ := HBX.out.ref
        have fz := bears_free ra
        have f2 := fz 2
        have f3 := fz 3
        have f4 := fz 4
        have f5 := fz 5
        clear ra fz hr
        have hcall := HOK.out.2
        rcases r3_cases x.k with h | h | h
        · have h1 : (r3 x.k == 0) = true := by simpa using h
          clear h
          have hw : wrap64 (c.call + 1) = c.call + 1 := IntWalk.wrap64_in _ ⟨by omega, by omega⟩
          go_wp2_with (fail)
          refine (clamp0_any x.a _).mono ?_
          rintro e w5 ⟨rfl, rfl⟩
          go_wp2_with (fail)
          obtain ⟨w5, hw5⟩ : ∃ w5, w5 = (((wx.setCell ⟨q, 2, none⟩ (.int .i64 (c.call + 1))).setCell ⟨q, 5, none⟩ (.bool true)).setCell ⟨q, 3, none⟩ (.int .i64 (mom x.a))).setCell ⟨q, 4, none⟩ (.int .i64 (mom x.a)) := ⟨_, rfl⟩
          have HN : Hid (CS W w5 p q g c ⟨c.wait, c.most, c.call + 1, true, mom x.a, mom x.a⟩ x) := Lib.hid (by
            rw [hw5]
            have q1 := HBX.out.setq 2 _ (HBX.out.ref.setCall (c.call + 1))
            have q2 := q1.setq 5 _ (q1.ref.setUnd true)
            have q3 := q2.setq 3 _ (q2.ref.setBegun (mom x.a))
            exact q3.setq 4 _ (q3.ref.setSent (mom x.a)))
          have HD := Lib.hid HN.out.drew
          rw [← hw5]
          clear hw5 HBX x0 x1 x2 x3 r0 r1 r2 r4 r5 r6 f2 f3 f4 f5 hw
          obtain ⟨bt, x0, x1, x2, x3⟩ := HN.out.box
          have r2 := HN.out.ref.c2
          clear bt
          have HF : Hid (ClrOk ⟨c.wait, c.most, c.call + 1, true, mom x.a, mom x.a⟩) := Lib.hid (by
            have := HOK.out.1
            exact ⟨this.w, this.m, mom_b _, mom_b _⟩)
          go_region_with (go_at_call 17; refine (cs_start (w0 := W) (q := q) (g := g) (c := c) (d := ⟨c.wait, c.most, c.call + 1, true, mom x.a, mom x.a⟩) (x := x) x.a (by omega) (by first | exact HD | assumption)).mono ?_; rintro e w6 ⟨rfl, H6⟩; have y2 := H6.out.ref.c2)
          all_goals
            go_wp2
            go_meet
            exact ⟨_, Lib.hid ⟨H6.out, HF.out, by simp only; omega, by simp only; omega⟩⟩
        · have h1 : (r3 x.k == 0) = false := by simp [h]
          have h2 : (r3 x.k == 1) = true := by simpa using h
          clear h
          go_wp2_with (fail)
          have HD := Lib.hid HBX.out.drew
          have HT := Lib.hid (ok_tick HOK.out.1 x.a)
          go_region_with (first
            | (go_at_call 18; with_reducible refine (cs_tick (w0 := W) (p := p) (q := q) (g := g) (c := c) (x := x) x.a HOK.out.1 (by first | assumption)).mono ?_; rintro e w6 ⟨rfl, H6⟩; have y1 := H6.out.box.c1)
            | (go_at_call 19; with_reducible refine (cs_rtick (w0 := W) (p := p) (q := q) (g := g) (d := c) (x := x) x.a HOK.out.1 (by first | assumption)).mono ?_; rintro e w7 ⟨rfl, H7⟩; have z1 := H7.out.box.c1))
          all_goals
            go_wp2
            go_meet
            exact ⟨tickC c x.a, Lib.hid ⟨by first | exact H7.out | exact H6.out, HT.out.1, by rw [HT.out.2]; omega, by rw [HT.out.2]; omega⟩⟩
        · have h1 : (r3 x.k == 0) = false := by simp [h]
          have h2 : (r3 x.k == 1) = false := by simp [h]
          clear h
          go_wp2_with (fail)
          have HD := Lib.hid HBX.out.drew
          have HT := Lib.hid (ok_got HOK.out.1 x.b)
          have HDN : Hid (∀ n, Hid (CS W (wx.drewN n) p q g c c x)) := Lib.hid (fun n => Lib.hid (HBX.out.left (HBX.out.clr.drewN n) (fun _ _ _ => rfl)))
          clear HD f2 f3 f4 f5
          cases hu : c.und
          · rw [hu] at r6
            have hG : gotB c x.b = false := by simp [gotB, hu]
            have HU := Lib.hid hu
            clear hu
            go_wp2_with (fail)
            go_quiet (fail)
            go_wp2_with (fail)
            refine (cs_got (w0 := W) (p := p) (q := q) (g := g) (c := c) (d := c) (x := x) x.b (HDN.out _)).mono ?_
            rintro e w6 ⟨rfl, H6⟩
            rw [hG]
            obtain ⟨ra, r0, r1, r2, r4, r5, r6⟩ := H6.out.ref
            rw [HU.out] at r6
            have f5 := bears_free ra 5
            clear ra
            have HE := Lib.hid (H6.out.setq 5 _ (H6.out.ref.setUnd false))
            have HC2 := Lib.hid (show gotC c x.b = { c with und := false } by unfold gotC; rw [hG]; obtain ⟨a1, a2, a3, a4, a5, a6⟩ := c; simp only at HU; rw [HU.out]; rfl)
            clear hG
            go_wp2
            go_meet
            exact ⟨gotC c x.b, Lib.hid ⟨by have := HE.out; rw [← HC2.out] at this; exact this, HT.out.1, by rw [HT.out.2]; omega, by rw [HT.out.2]; omega⟩⟩
          · rw [hu] at r6
            have HU := Lib.hid hu
            by_cases hb : c.call = x.b
            · have hG : gotB c x.b = true := by simp [gotB, hu, hb]
              have hb1 : (c.call == x.b) = true := by simpa using hb
              clear hu hb
              go_wp2_with (fail)
              go_quiet (fail)
              go_wp2_with (fail)
              refine (cs_got (w0 := W) (p := p) (q := q) (g := g) (c := c) (d := c) (x := x) x.b (HDN.out _)).mono ?_
              rintro e w6 ⟨rfl, H6⟩
              rw [hG]
              obtain ⟨ra, r0, r1, r2, r4, r5, r6⟩ := H6.out.ref
              rw [HU.out] at r6
              have f5 := bears_free ra 5
              clear ra
              have HE := Lib.hid (H6.out.setq 5 _ (H6.out.ref.setUnd false))
              have HC2 := Lib.hid (show gotC c x.b = { c with und := false } by unfold gotC; rw [hG]; rfl)
              clear hG
              go_wp2
              go_meet
              exact ⟨gotC c x.b, Lib.hid ⟨by have := HE.out; rw [← HC2.out] at this; exact this, HT.out.1, by rw [HT.out.2]; omega, by rw [HT.out.2]; omega⟩⟩
            · have hG : gotB c x.b = false := by simp [gotB, hb]
              have hb1 : (c.call == x.b) = false := by simpa using hb
              clear hu hb
              go_wp2_with (fail)
              go_quiet (fail)
              go_wp2_with (fail)
              refine (cs_got (w0 := W) (p := p) (q := q) (g := g) (c := c) (d := c) (x := x) x.b (HDN.out _)).mono ?_
              rintro e w6 ⟨rfl, H6⟩
              rw [hG]
              obtain ⟨ra, r0, r1, r2, r4, r5, r6⟩ := H6.out.ref
              rw [HU.out] at r6
              have f5 := bears_free ra 5
              clear ra
              have HE := Lib.hid (H6.out.setq 5 _ (H6.out.ref.setUnd true))
              have HC2 := Lib.hid (show gotC c x.b = { c with und := true } by unfold gotC; rw [hG]; obtain ⟨a1, a2, a3, a4, a5, a6⟩ := c; simp only at HU; rw [HU.out]; rfl)
              clear hG
              go_wp2
              go_meet
              exact ⟨gotC c x.b, Lib.hid ⟨by have := HE.out; rw [← HC2.out] at this; exact this, HT.out.1, by rw [HT.out.2]; omega, by rw [HT.out.2]; omega⟩⟩
      case rest =>
        obtain ⟨c', HC⟩ := hcut
        clear hr HBX HOK x0 x1 x2 x3
        go_wp2_with (fail)
        refine (cs_call (Lib.hid HC.out.1)).mono ?_
        rintro e w6 ⟨rfl, H6⟩
        have H7 := Lib.hid HC.out.2
        clear HC
        obtain ⟨ra, r0, r1, r2, r4, r5, r6⟩ := H6.out.ref
        clear ra
        go_wp2
        go_round
        case rel => exact ⟨k + 1, c', by omega, by simp, Lib.hid ⟨H6.out.off, H7.out⟩⟩
        case measure => simp [intOf]; omega
    · have HE := Lib.hid HR.out.1.clr.bel
      clear HR
      go_wp2
      go_ret
      exact ⟨rfl, HE.out⟩

set_option maxRecDepth 100000 in
theorem contract (H : Type) (enc : TypeId × Value → H) (W : World) (base : Nat) (args : Array Value) (ds gs : List (DataW H)) (before : List MemPlace)
    (hval : ∀ (j : Nat) t v, Try.f4.params[j]? = some t → args[j]? = some v → Value.okWide Try.prog W .any base t v)
    (hW : DataW.Whole enc Try.prog Try.f4.params.toList Rows.rpcCallersSpec.vars false W args.toList ds gs before)
    (hz : (DataW.weightsEach Try.prog (Try.f4.params.toList ++ []) (ds ++ gs)).all (· ≤ reachBytes) = true) :
    Calls Try.prog 4 args W fun e W' => ∃ v, e = .returned v ∧ Rows.rpcCallersSpec.post enc Try.prog Try.f4 false true false false W args v W' := by
  have hW' := hW
  obtain ⟨p, q, hA0, hV, rfl, hfz, hnd⟩ := hW
  have hA : DataW.TrodAll enc Try.prog W 0 (fun _ => true) true Try.f4.params.toList args.toList ds p := hA0
  rw [Try.params4] at hA hval hz
  obtain ⟨v0, vs0, d0, ds0, p0, q0, hargs, rfl, rfl, h0, r0⟩ := trodAll_cons hA
  obtain ⟨v1, vs1, d1, ds1, p1, q1, rfl, rfl, rfl, h1, r1⟩ := trodAll_cons r0
  obtain ⟨v2, vs2, d2, ds2, p2, q2, rfl, rfl, rfl, h2, r2⟩ := trodAll_cons r1
  obtain ⟨rfl, rfl, rfl⟩ := trodAll_nil r2
  obtain rfl : args = #[v0, v1, v2] := by cases args; simp_all
  obtain ⟨rfl, rfl⟩ := trodVars_none hV
  obtain ⟨x0, rfl, rfl, rfl, w0⟩ := open_int Try.underlying3 (hval 0 3 v0 rfl rfl) h0
  have b0 := i64_of_wf w0
  obtain ⟨x1, rfl, rfl, rfl, w1⟩ := open_int Try.underlying3 (hval 1 3 v1 rfl rfl) h1
  have b1 := i64_of_wf w1
  have hw2 : ∀ m ∈ d2.weights Try.prog 22, m ≤ reachBytes := fun m hm => by
    have hall := List.all_eq_true.1 hz m (DataW.weights_mem_each (j := 2) (t := 22) rfl rfl m hm)
    simpa using hall
  obtain ⟨A, len, cap, it, rfl, hl, hS⟩ := open_acts (hval 2 22 v2 rfl rfl) h2 hw2
  clear hA0
  refine (walk x0 x1 A len cap it W hl hS).mono fun e W' ⟨he, hb⟩ => ?_
  subst he
  exact ⟨_, rfl, law_end hW' rfl rfl hb laidOut (by kernel_rfl) (by kernel_rfl) Try.underlying4⟩

theorem reads (os : Os) {H : Type} (enc : TypeId × Value → H) : ∃ places, DataW.whole enc Try.prog ((World.holding Try.prog os ⟨#[], #[], []⟩).forCall (fun _ _ => 0) ⟨#[], #[.int .i64 0, .int .i64 0, .slice none 0 0], []⟩).memory Try.f4.params.toList Rows.rpcCallersSpec.vars false [Value.int .i64 0, Value.int .i64 0, Value.slice none 0 0] 8 = some ([.lit (.int .i64 0), .lit (.int .i64 0), .nil], [], places) :=
  ⟨[], by kernel_rfl⟩

set_option maxRecDepth 100000 in
theorem lifted (os : Os) (started : os.Started) (H : Type) (enc : TypeId × Value → H) (F : Stop.Interp) :
    ReturnsInHanded {} Try.checked os 4 .any ((OpenSpec.ofChange Rows.rpcCallersSpec).preRow enc Try.prog Try.f4 Rows.rpcCallersRow.domain false Rows.rpcCallersRow.laid) (((OpenSpec.ofChange Rows.rpcCallersSpec).at F).post enc Try.prog Try.f4 false true false false) := by
  obtain ⟨places, hx⟩ := reads os enc
  have laid_met : laidMet Try.prog Rows.rpcCallersRow.laid ((World.holding Try.prog os ⟨#[], #[], []⟩).forCall (fun _ _ => 0) ⟨#[], #[.int .i64 0, .int .i64 0, .slice none 0 0], []⟩).memory := ⟨[], rfl, List.nodup_nil, fun _ _ h => by cases h⟩
  refine returnsInHanded_of_row (C := Try.checked) (s := OpenSpec.ofChange Rows.rpcCallersSpec) own started (by kernel_rfl) Try.func4
    (witness_row_at (enc := enc) (C := Try.checked) false (World.holding Try.prog os ⟨#[], #[], []⟩) #[.int .i64 0, .int .i64 0, .slice none 0 0] rfl (by kernel_rfl) (by kernel_rfl) (by kernel_rfl)
      (OpenSpec.preRow_of_cond 8 hx (by kernel_rfl) (fun k hk => by cases hk) (by kernel_rfl) laid_met)) ?_
  intro W base args ds gs before hval hW _ _ hz _ _ _
  exact contract H enc W base args ds gs before hval hW hz

theorem said : Rows.RpcCallersSaid :=
  OpenClaim.holds_of_cond 4 Try.f4 rfl rfl rfl rfl rfl rfl rfl ⟨rfl, rfl, rfl, rfl, rfl⟩ rfl rfl rfl rfl rfl (by kernel_rfl) Try.func4 (by kernel_rfl)
    (of_decide_eq_true (by kernel_rfl)) (by unfold Func.isWrapper; first | (rw [if_pos (by decide +kernel)]; kernel_rfl) | (rw [if_neg (by decide +kernel)]; exact ⟨rfl, rfl⟩))
    (fun os started H enc _ F => by rw [OpenClaim.pre_eq_preRow]; exact lifted os started H enc F)

end Go.Proofs.Ytcjpllojgmaofaa.fnRpcCallers
