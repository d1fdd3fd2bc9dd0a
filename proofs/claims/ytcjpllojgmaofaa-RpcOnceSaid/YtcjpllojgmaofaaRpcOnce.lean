/- RpcOnce: however often and in whatever order calls arrive, each is new at most once, and its reply is the one it was given, whatever the input. -/
import Derived.Test.YtcjpllojgmaofaaRpcPairs
import Derived.Deep.CutBlock
import Derived.Laws.StructEq

import Derived.Test.YtcjpllojgmaofaaLawEnd

import Derived.Test.YtcjpllojgmaofaaPlainKit

namespace Go.Proofs.Ytcjpllojgmaofaa.fnRpcOnce
open Go.ChangeShapes Go.WideShapes Go.ChangeAt Go.RowKit Go.WideMaps Go.WideElems
open Go.ChangeMaps (open_string)

theorem infoPair : (Try.prog.info? 58).map (fun i => (i.zero, i.size, i.bytes)) = some (some (.agg #[.int .i64 0, .int .i64 0]), 2, 16) := by kernel_rfl
theorem mem_take_succ {B : List Pr} {j : Nat} {e x : Pr} (he : B[j]? = some e) : decide (x ∈ B.take (j + 1)) = (decide (x ∈ B.take j) || decide (e = x)) := by
  rw [List.take_add_one, he]
  by_cases h : x ∈ B.take j <;> by_cases h2 : e = x <;> simp [h, h2]
  exact fun e' => h2 e'.symm
theorem pair_eq (e x : Pr) (w : World) : (binOp .eql 58 (.agg #[.int .i64 e.1, .int .i64 e.2]) (.agg #[.int .i64 x.1, .int .i64 x.2])).run Try.prog w = .ok (.bool (decide (e = x))) w := by
  have ht : Try.prog.underlying 58 = some (.array 2 3) := Try.underlying58
  have he := Try.underlying3
  have hsz : ∀ w, (sizeOf 3).run Try.prog w = .ok 1 w := fun w => by kernel_rfl
  have pa : ∀ (a b : Int) (w : World), (part 3 #[.int .i64 a, .int .i64 b] 0).run Try.prog w = .ok (.int .i64 a) w := fun a b w => by simp [part, isAgg, run_underlying he]
  have pb : ∀ (a b : Int) (w : World), (part 3 #[.int .i64 a, .int .i64 b] 1).run Try.prog w = .ok (.int .i64 b) w := fun a b w => by simp [part, isAgg, run_underlying he]
  have pe : ∀ (d : Nat) (a b : Int) (w : World), (Op.equalIn (d + 1) 3 (.int .i64 a) (.int .i64 b)).run Try.prog w = .ok (a == b) w := fun d a b w => run_equalIn_int w d _ .i64 .i64 a b he
  rw [run_eql_struct]
  obtain ⟨d, hd⟩ : ∃ d : Nat, 10000 = d + 1 + 1 := ⟨9998, rfl⟩
  rw [hd, Op.equalIn]
  clear hd
  simp only [Sem.run_bind, run_underlying ht, Result.andThen_ok, hsz, Std.Legacy.Range.forIn_eq_forIn_range', Std.Legacy.Range.size, Nat.sub_zero, Nat.add_sub_cancel, Nat.div_one]
  have hr : List.range' 0 2 1 = [0, 1] := rfl
  obtain ⟨e1, e2⟩ := e
  obtain ⟨x1, x2⟩ := x
  simp only [hr, List.forIn_cons, List.forIn_nil, Sem.run_bind, Nat.zero_mul, Nat.one_mul, pa, pb, pe, Result.andThen_ok]
  by_cases h1 : e1 = x1 <;> by_cases h2 : e2 = x2 <;> simp [h1, h2, pa, pb, pe]
set_option maxRecDepth 100000 in
set_option maxHeartbeats 8000000 in
theorem walk (A : Option Addr) (len cap : Nat) (it : Nat → Pr) (W : World) (hl : len * 16 ≤ 140737488351232) (hS : Prs W W.heap.size A len it) :
    Calls Try.prog 5 #[.slice A len cap] W fun e w' => e = .returned (.bool true) ∧ Below W.heap.size W w' := by
  have HS := Lib.hid hS
  obtain ⟨i0, hi, hz0, hz1, hz2⟩ := info_parts infoPair
  have HFI := Lib.hid (And.intro hi (And.intro hz0 (And.intro hz1 hz2)))
  clear hi hz0 hz1 hz2
  have hl' : (len : Int) ≤ 9223372036854775807 := by omega
  clear hS
  go_enter Try.func5, Try.ntmps5
  go_wp2_with (fail)
  refine (speaks_any _).mono ?_
  rintro e w1 ⟨rfl, hb1⟩
  have H3 : Hid (OT W (w1.alloc (.cells #[.map none] 26)) w1.heap.size 0 (fun _ => none) (.slice none 0 0) []) := Lib.hid ⟨desk_new hb1, rfl, .inl ⟨rfl, rfl⟩⟩
  clear hb1
  obtain ⟨p, hp⟩ : ∃ p, p = w1.heap.size := ⟨_, rfl⟩
  rw [← hp] at H3
  go_upto_block 0 with (fail)
  rw [← hp]
  obtain ⟨w4, hw4⟩ : ∃ w4, w4 = w1.alloc (.cells #[.map none] 26) := ⟨_, rfl⟩
  rw [← hw4] at H3 ⊢
  clear hw4 hp
  go_wp2
  go_loopw [4, 5] (fun v i wr => ∃ (k n : Nat) (M : Known) (B : List Pr), k ≤ len ∧ n ≤ 3 * k ∧ B.length ≤ k ∧ i = .int .i64 k ∧ Hid (OT W wr p n M v B ∧ Inv M B)) (fun _ i _ => len - (intOf i).toNat)
  case atStart => exact ⟨0, 0, fun _ => none, [], by omega, by omega, by simp, rfl, Lib.hid ⟨H3.out, ⟨fun _ _ e => (by cases e), fun _ _ e => (by cases e)⟩⟩⟩
  case round =>
    obtain ⟨k, n, M, B, hk, hn3, hBk, rfl, HR⟩ := hrel
    clear H3
    by_cases hkn : k < len
    · have hkn' : (k : Int) < len := by omega
      obtain ⟨HW, b, off, rfl, hB, hc⟩ := HS.out k hkn
      obtain ⟨x, hx⟩ : ∃ x, x = it k := ⟨_, rfl⟩
      rw [← hx] at HW hc
      have hin := fun j u (hj : (prCells x)[j]? = some u) => (HR.out.1.d.bel.cell (p := ⟨b, off + k * 2 + j, none⟩) hB).trans (hc j u hj)
      have i0 := hin 0 _ rfl
      have i1 := hin 1 _ rfl
      rw [Nat.add_zero] at i0
      obtain ⟨a', c', hv⟩ : ∃ a' c', u4 = .slice a' B.length c' := by
        rcases HR.out.1.f.2 with ⟨h1, h2⟩ | ⟨g, o, cap, h1, _⟩
        · exact ⟨_, _, by rw [h1, h2]⟩
        · exact ⟨_, _, h1⟩
      subst hv
      have HBX := Lib.hid (HR.out.1.box x)
      have HI := Lib.hid HR.out.2
      have HX := Lib.hid HW
      clear hin hc hB HW hx
      go_upto_region 9 with (fail)
      obtain ⟨g, hg⟩ : ∃ g, g = wr.heap.size := ⟨_, rfl⟩
      obtain ⟨wx, hwx⟩ : ∃ wx, wx = wr.alloc (.cells #[.int .i64 x.1, .int .i64 x.2] 58) := ⟨_, rfl⟩
      rw [← hwx, ← hg] at HBX ⊢
      clear hg hwx i0 i1 HR
      obtain ⟨x0, x1⟩ := OS.cells HBX
      have HN := Lib.hid (show n < maxLen ∧ n + 1 < maxLen ∧ n + 2 < maxLen by unfold maxLen; omega)
      go_wp2_with (fail)
      refine (os_ask (w0 := W) (p := p) (g := g) (n := n) (M := M) (x := x) (B := B) x.1 x.2 HN.out.1 HX.out.1 HI.out.small HBX).mono ?_
      rintro e w6 ⟨rfl, H6⟩
      clear x0 x1 HBX
      obtain ⟨x0, x1⟩ := OS.cells H6
      go_upto_block 2 with (fail)
      go_cut [9] (fun s9 wy => s9 = .bool (decide (x ∈ B)) ∧ Hid (OS W wy p (n + 1) (askM M x.1 x.2) (.slice a' B.length c') B g x))
      case first =>
        have hBl := Lib.hid hBk
        obtain ⟨m, hm⟩ : ∃ m, m = B.length := ⟨_, rfl⟩
        have HM := Lib.hid hm
        rw [← hm] at H6 ⊢
        have hm9 : (m : Int) ≤ 9223372036854775807 := by omega
        clear hm
        go_wp2
        go_loopw [9, 10] (fun s i wr => ∃ j : Nat, j ≤ m ∧ i = .int .i64 j ∧ s = .bool (decide (x ∈ B.take j)) ∧ Hid (OS W wr p (n + 1) (askM M x.1 x.2) (.slice a' m c') B g x)) (fun _ i _ => m - (intOf i).toNat)
        case atStart => exact ⟨0, by omega, rfl, by simp, H6⟩
        case round =>
          obtain ⟨j, hj, rfl, rfl, HR⟩ := hrel
          clear H6 x0 x1
          by_cases hjm : j < m
          · have hjm' : (j : Int) < m := by omega
            obtain ⟨e, he⟩ : ∃ e, B[j]? = some e := ⟨_, List.getElem?_eq_getElem (by rw [← HM.out]; exact hjm)⟩
            have HE := Lib.hid he
            obtain ⟨g2, o, c2, hav, hb0, q0, q1⟩ : ∃ g2 o c2, Value.slice a' m c' = .slice (some ⟨g2, o, none⟩) m c2 ∧ g2 < wr.heap.size ∧ wr.cell? ⟨g2, o + j * 2, none⟩ = some (.int .i64 e.1) ∧ wr.cell? ⟨g2, o + j * 2 + 1, none⟩ = some (.int .i64 e.2) := by
              have hf := HR.out.t.f
              rcases hf.2 with ⟨h1, h2⟩ | ⟨g2, o, c2, h1, h2, h3, h4, h5⟩
              · have := HM.out; omega
              · have hc := fun i hi => cellsP_get B j e he i hi
                have w0 := h5.cell (j * 2 + 0) _ (hc 0 (by omega))
                have w1 := h5.cell (j * 2 + 1) _ (hc 1 (by omega))
                rw [← Nat.add_assoc] at w1
                rw [← HM.out] at h1
                exact ⟨g2, o, c2, h1, h5.lt, by simpa using w0, w1⟩
            injection hav with hav1 _ hav3
            subst hav1 hav3
            obtain ⟨x0, x1⟩ := OS.cells HR
            have HT := Lib.hid (mem_take_succ (x := x) he)
            have hpe := fun w => pair_eq e x w
            clear he hb0
            cases hd : decide (x ∈ B.take j)
            · go_wp2_with (fail)
              go_quiet (fail)
              go_wp2
              go_round
              case rel => exact ⟨j + 1, by omega, by simp, by rw [HT.out, hd]; rfl, Lib.hid (HR.out.below ⟨rfl, rfl, rfl, Nat.le_refl _, fun _ _ => rfl⟩)⟩
              case measure => simp [intOf]; omega
            · go_wp2_with (fail)
              go_quiet (fail)
              go_wp2
              go_round
              case rel => exact ⟨j + 1, by omega, by simp, by rw [HT.out, hd]; rfl, Lib.hid (HR.out.below ⟨rfl, rfl, rfl, Nat.le_refl _, fun _ _ => rfl⟩)⟩
              case measure => simp [intOf]; omega
          · have HT : Hid (B.take j = B) := Lib.hid (List.take_of_length_le (by have := HM.out; omega))
            rw [HT.out]
            clear HT
            have hmm := HM.out
            clear HM
            subst hmm
            go_wp2
            go_meet
            exact ⟨rfl, HR⟩
      case rest =>
        have H7 := hcut.2
        obtain ⟨rfl, right⟩ := hcut
        clear right
        clear H6 x0 x1
        rcases inv_cases HI.out x.1 x.2 with ⟨hA, hnot, hs⟩ | ⟨hA, hin, hs⟩ | ⟨hA, hs⟩
        · have hd : decide (x ∈ B) = false := by simpa using hnot
          rw [hA, hs, hd]
          have hM1 : askM M x.1 x.2 = upd M x.1 ⟨x.2, false, ⟨#[]⟩⟩ := by unfold askM; rw [if_pos hA]
          rw [hM1] at H7
          have HI2 := Lib.hid (inv_step HI.out x.1 x.2 hA)
          clear hM1 hnot hs hA hd
          go_upto_region 18 with (fail)
          have HD := Lib.hid H7.out.drew
          have hS0 := OS.cells HD
          clear H7
          go_region_held3 (fun w' => w'.cell? ⟨g, 0, none⟩ = some (.int .i64 x.1) ∧ w'.cell? ⟨g, 1, none⟩ = some (.int .i64 x.2)) (assumption)
            (first
              | (go_at_call 22; with_reducible refine (os_text (w0 := W) (p := p) (g := g) (x := x) (B := B) (by assumption)).mono ?_; rintro e w8 ⟨rfl, H8⟩; have hS8 := OS.cells H8)
              | (go_at_call 11; with_reducible refine (os_reply1 (w0 := W) (p := p) (g := g) (x := x) (B := B) (M := M) HN.out.2.1 HX.out.1 (by assumption)).mono ?_; rintro e w9 ⟨rfl, H9⟩; have hS9 := OS.cells H9)
              | (go_at_call 11; with_reducible refine (os_reply2 (w0 := W) (p := p) (g := g) (x := x) (B := B) (M := M) _ (by decide) HN.out.2.2 HX.out.1 (by assumption)).mono ?_; rintro e w10 ⟨rfl, H10⟩; have hS10 := OS.cells H10))
          all_goals
            obtain ⟨y0, y1⟩ := hS10
            have hA : Below w10.heap.size w10 (w10.alloc (.cells #[.int .i64 x.1, .int .i64 x.2] 58)) := (Below.refl _ w10).alloc (Nat.le_refl _) _
            have HA := Lib.hid hA
            have HFL := Lib.hid (H10.out.below hA).t.f
            have HSZ := Lib.hid (H10.out.below hA).t.d.bel.size
            have HBK := Lib.hid hBk
            clear hA H8 hS8 H9 hS9 HD hS0
            go_wp2_with (at_builtin; refine wpList_append_fly _ rfl _ _ 57 rfl 58 i0 (.agg #[.int .i64 0, .int .i64 0]) 2 16 W.heap.size B.length Try.underlying57 HFI.out.1 HFI.out.2.1 HFI.out.2.2.1 HFI.out.2.2.2 rfl (by decide) (.slice a' B.length c') (cellsP B) rfl HFL.out ⟨w10.heap.size, 0, none⟩ 1 (prCells x) rfl rfl ?c1 ?c2 ?c3 ?c4 ?c5 ?_)
            case c1 =>
              intro j u hj
              match j, hj with
              | 0, hj => simp at hj; subst hj; simp [Addr.add]
              | 1, hj => simp at hj; subst hj; simp [Addr.add]
            case c2 => intro u hu; simp at hu; rcases hu with rfl | rfl <;> rfl
            case c3 => unfold maxLen; omega
            case c4 => omega
            case c5 => exact HSZ.out
            intro a2 c2 w11 hf2 hg2 _
            have HT := Lib.hid (H10.out.t.app (y := x) HA.out hf2 hg2)
            clear hf2 hg2 y0 y1 HFL HSZ HA
            go_wp2
            go_round
            case rel => exact ⟨k + 1, n + 3, _, B ++ [x], by omega, by omega, by simp; omega, by simp, Lib.hid ⟨HT.out, HI2.out⟩⟩
            case measure => simp [intOf]; omega
        · have hd : decide (x ∈ B) = true := by simpa using hin
          rw [hA, hs, hd]
          have hM1 : askM M x.1 x.2 = M := by unfold askM; rw [hA]; rfl
          rw [hM1] at H7
          clear hM1 hin hs hA hd
          obtain ⟨x0, x1⟩ := OS.cells H7
          go_wp2_with (fail)
          refine (os_text (w0 := W) (p := p) (g := g) (M := M) (x := x) (B := B) H7).mono ?_
          rintro e w8 ⟨rfl, H8⟩
          clear x0 x1 H7
          go_wp2
          go_round
          case rel => exact ⟨k + 1, n + 1, M, B, by omega, by omega, by omega, by simp, Lib.hid ⟨H8.out.t, HI.out⟩⟩
          case measure => simp [intOf]; omega
        · rw [hA, hs]
          have hM1 : askM M x.1 x.2 = M := by unfold askM; rw [hA]; rfl
          rw [hM1] at H7
          clear hM1 hs hA
          go_wp2
          go_round
          case rel => exact ⟨k + 1, n + 1, M, B, by omega, by omega, by omega, by simp, Lib.hid ⟨H7.out.t, HI.out⟩⟩
          case measure => simp [intOf]; omega
    · have HE := Lib.hid HR.out.1.d.bel
      clear HR
      go_wp2
      go_ret
      exact ⟨rfl, HE.out⟩

set_option maxRecDepth 100000 in
theorem contract (H : Type) (enc : TypeId × Value → H) (W : World) (base : Nat) (args : Array Value) (ds gs : List (DataW H)) (before : List MemPlace)
    (hval : ∀ (j : Nat) t v, Try.f5.params[j]? = some t → args[j]? = some v → Value.okWide Try.prog W .any base t v)
    (hW : DataW.Whole enc Try.prog Try.f5.params.toList Rows.rpcOnceSpec.vars false W args.toList ds gs before)
    (hz : (DataW.weightsEach Try.prog (Try.f5.params.toList ++ []) (ds ++ gs)).all (· ≤ reachBytes) = true) :
    Calls Try.prog 5 args W fun e W' => ∃ v, e = .returned v ∧ Rows.rpcOnceSpec.post enc Try.prog Try.f5 false true false false W args v W' := by
  have hW' := hW
  obtain ⟨p, q, hA0, hV, rfl, hfz, hnd⟩ := hW
  have hA : DataW.TrodAll enc Try.prog W 0 (fun _ => true) true Try.f5.params.toList args.toList ds p := hA0
  rw [Try.params5] at hA hval hz
  obtain ⟨v0, vs0, d0, ds0, p0, q0, hargs, rfl, rfl, h0, r0⟩ := trodAll_cons hA
  obtain ⟨rfl, rfl, rfl⟩ := trodAll_nil r0
  obtain rfl : args = #[v0] := by cases args; simp_all
  obtain ⟨rfl, rfl⟩ := trodVars_none hV
  have hw0 : ∀ m ∈ d0.weights Try.prog 57, m ≤ reachBytes := fun m hm => by
    have hall := List.all_eq_true.1 hz m (DataW.weights_mem_each (j := 0) (t := 57) rfl rfl m hm)
    simpa using hall
  obtain ⟨A, len, cap, it, rfl, hl, hS⟩ := open_prs (hval 0 57 v0 rfl rfl) h0 hw0
  clear hA0
  refine (walk A len cap it W hl hS).mono fun e W' ⟨he, hb⟩ => ?_
  subst he
  exact ⟨_, rfl, law_end hW' rfl rfl hb laidOut (by kernel_rfl) (by kernel_rfl) Try.underlying4⟩

theorem reads (os : Os) {H : Type} (enc : TypeId × Value → H) : ∃ places, DataW.whole enc Try.prog ((World.holding Try.prog os ⟨#[], #[], []⟩).forCall (fun _ _ => 0) ⟨#[], #[.slice none 0 0], []⟩).memory Try.f5.params.toList Rows.rpcOnceSpec.vars false [Value.slice none 0 0] 8 = some ([.nil], [], places) :=
  ⟨[], by kernel_rfl⟩

set_option maxRecDepth 100000 in
theorem lifted (os : Os) (started : os.Started) (H : Type) (enc : TypeId × Value → H) (F : Stop.Interp) :
    ReturnsInHanded {} Try.checked os 5 .any ((OpenSpec.ofChange Rows.rpcOnceSpec).preRow enc Try.prog Try.f5 Rows.rpcOnceRow.domain false Rows.rpcOnceRow.laid) (((OpenSpec.ofChange Rows.rpcOnceSpec).at F).post enc Try.prog Try.f5 false true false false) := by
  obtain ⟨places, hx⟩ := reads os enc
  have laid_met : laidMet Try.prog Rows.rpcOnceRow.laid ((World.holding Try.prog os ⟨#[], #[], []⟩).forCall (fun _ _ => 0) ⟨#[], #[.slice none 0 0], []⟩).memory := ⟨[], rfl, List.nodup_nil, fun _ _ h => by cases h⟩
  refine returnsInHanded_of_row (C := Try.checked) (s := OpenSpec.ofChange Rows.rpcOnceSpec) own started (by kernel_rfl) Try.func5
    (witness_row_at (enc := enc) (C := Try.checked) false (World.holding Try.prog os ⟨#[], #[], []⟩) #[.slice none 0 0] rfl (by kernel_rfl) (by kernel_rfl) (by kernel_rfl)
      (OpenSpec.preRow_of_cond 8 hx (by kernel_rfl) (fun k hk => by cases hk) (by kernel_rfl) laid_met)) ?_
  intro W base args ds gs before hval hW _ _ hz _ _ _
  exact contract H enc W base args ds gs before hval hW hz

theorem said : Rows.RpcOnceSaid :=
  OpenClaim.holds_of_cond 5 Try.f5 rfl rfl rfl rfl rfl rfl rfl ⟨rfl, rfl, rfl, rfl, rfl⟩ rfl rfl rfl rfl rfl (by kernel_rfl) Try.func5 (by kernel_rfl)
    (of_decide_eq_true (by kernel_rfl)) (by unfold Func.isWrapper; first | (rw [if_pos (by decide +kernel)]; kernel_rfl) | (rw [if_neg (by decide +kernel)]; exact ⟨rfl, rfl⟩))
    (fun os started H enc _ F => by rw [OpenClaim.pre_eq_preRow]; exact lifted os started H enc F)

end Go.Proofs.Ytcjpllojgmaofaa.fnRpcOnce
