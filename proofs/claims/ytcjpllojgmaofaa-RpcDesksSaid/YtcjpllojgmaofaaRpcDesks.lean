/- RpcDesks: every script of calls at a desk is answered as the document says, whatever the input. -/
import Derived.Test.YtcjpllojgmaofaaRpcDS
import Derived.Deep.CutBlock

import Derived.Test.YtcjpllojgmaofaaLawEnd

import Derived.Test.YtcjpllojgmaofaaPlainKit

namespace Go.Proofs.Ytcjpllojgmaofaa.fnRpcDesks
open Go.ChangeShapes Go.WideShapes Go.ChangeAt Go.RowKit Go.WideMaps Go.WideElems
open Go.ChangeMaps (open_string)

set_option maxRecDepth 100000 in
set_option maxHeartbeats 8000000 in
theorem walk (A : Option Addr) (len cap : Nat) (it : Nat → Ac) (W : World) (hl : len * 40 ≤ 140737488351232) (hS : Acts W W.heap.size A len it) :
    Calls Try.prog 3 #[.slice A len cap] W fun e w' => e = .returned (.bool true) ∧ Below W.heap.size W w' := by
  have HS := Lib.hid hS
  have hl' : (len : Int) ≤ 9223372036854775807 := by omega
  clear hS
  go_enter Try.func3, Try.ntmps3
  go_wp2_with (fail)
  refine (speaks_any _).mono ?_
  rintro e w1 ⟨rfl, hb1⟩
  have H3 := Lib.hid (dt_new hb1)
  clear hb1
  obtain ⟨p, hp⟩ : ∃ p, p = w1.heap.size := ⟨_, rfl⟩
  obtain ⟨p2, hp2⟩ : ∃ p2, p2 = w1.heap.size + 1 := ⟨_, rfl⟩
  obtain ⟨q, hq⟩ : ∃ q, q = w1.heap.size + 2 := ⟨_, rfl⟩
  rw [← hp2, ← hq, ← hp] at H3
  go_upto_block 0 with (fail)
  simp only [World.size_alloc, Nat.add_assoc, Nat.reduceAdd]
  rw [← hp2, ← hq, ← hp]
  obtain ⟨w4, hw4⟩ : ∃ w4, w4 = ((w1.alloc (.cells #[.map none] 26)).alloc (.cells #[.map none] 26)).alloc (.cells #[.slice none 0 0] 30) := ⟨_, rfl⟩
  rw [← hw4] at H3 ⊢
  clear hw4 hq hp2 hp
  go_wp2
  go_loopw [6] (fun i wr => ∃ (k : Nat) (M : Known), k ≤ len ∧ i = .int .i64 k ∧ Hid (DT W wr p p2 q k k M M ∧ Small M)) (fun i _ => len - (intOf i).toNat)
  case atStart => exact ⟨0, fun _ => none, by omega, rfl, Lib.hid ⟨H3.out, fun _ _ e => by cases e⟩⟩
  case round =>
    obtain ⟨k, M, hk, rfl, HR⟩ := hrel
    clear H3
    by_cases hkn : k < len
    · have hkn' : (k : Int) < len := by omega
      have hk1 : k < maxLen := by unfold maxLen; omega
      have hk40 : (k + 1) * 40 ≤ 140737488351232 := by omega
      obtain ⟨HW, b, off, rfl, hB, hc⟩ := HS.out k hkn
      obtain ⟨x, hx⟩ : ∃ x, x = it k := ⟨_, rfl⟩
      rw [← hx] at HW hc
      have hin := fun j u (hj : (acCells x)[j]? = some u) => (HR.out.1.d.bel.cell (p := ⟨b, off + k * 4 + j, none⟩) hB).trans (hc j u hj)
      have i0 := hin 0 _ rfl
      have i1 := hin 1 _ rfl
      have i2 := hin 2 _ rfl
      have i3 := hin 3 _ rfl
      rw [Nat.add_zero] at i0
      have HBX := Lib.hid (HR.out.1.box x)
      have HSM := Lib.hid HR.out.2
      have hr := r3_is x.k HW.k
      have HX := Lib.hid HW
      clear hin hc hB HW hx
      go_upto_region 9 with (fail)
      obtain ⟨g, hg⟩ : ∃ g, g = wr.heap.size := ⟨_, rfl⟩
      obtain ⟨wx, hwx⟩ : ∃ wx, wx = wr.alloc (.cells #[.int .i64 x.k, .int .i64 x.a, .int .i64 x.b, .string x.s] 32) := ⟨_, rfl⟩
      rw [← hwx, ← hg] at HBX ⊢
      clear hg hwx i0 i1 i2 i3 HR
      obtain ⟨bt, x0, x1, x2, x3⟩ := HBX.out.box
      clear bt
      have hHL := Lib.hid hl
      have HK1 := Lib.hid hk1
      have HK40 := Lib.hid hk40
      clear hk1 hk40 hl
      rcases r3_cases x.k with h | h | h
      · have h1 : (r3 x.k == 0) = true := by simpa using h
        clear h
        go_wp2_with (fail)
        refine (ds_ask (g := g) (N := M) (x := x) (q := q) (p2 := p2) (w0 := W) (p := p) (n := k) (M := M) x.a x.b HK1.out HX.out.a HSM.out HBX).mono ?_
        rintro e w6 ⟨rfl, H6⟩
        obtain ⟨bt, x0, x1, x2, x3⟩ := H6.out.box
        have H6B := H6.out
        have H6C : Hid (DS W w6 p p2 q g (k + 1) k (askM M x.a x.b) M x) := Lib.hid H6B
        clear bt H6 H6B
        go_wp2_with (fail)
        refine (ds_rask (g := g) (M := askM M x.a x.b) (x := x) (q := q) (p2 := p2) (w0 := W) (p := p) (n := k + 1) (m := k) (N := M) x.a x.b HK40.out H6C).mono ?_
        rintro e w7 ⟨rfl, H7⟩
        have HSN := Lib.hid (small_ask HSM.out x.a x.b)
        clear x0 x1 x2 x3 H6C HBX
        go_wp2
        go_round
        case rel => exact ⟨k + 1, askM M x.a x.b, by omega, by simp, Lib.hid ⟨H7.out.t, HSN.out⟩⟩
        case measure => simp [intOf]; omega
      · have h1 : (r3 x.k == 0) = false := by simp [h]
        have h2 : (r3 x.k == 1) = true := by simpa using h
        clear h
        have HD := Lib.hid HBX.out.drew
        have HSN := Lib.hid (small_rep HSM.out x.a x.b x.s HX.out.s)
        go_upto_region 18 with (fail)
        have hS0 := DS.cells HD
        clear x0 x1 x2 x3 HBX
        go_region_held3 (fun w' => w'.cell? ⟨g, 1, none⟩ = some (.int .i64 x.a) ∧ w'.cell? ⟨g, 2, none⟩ = some (.int .i64 x.b) ∧ w'.cell? ⟨g, 3, none⟩ = some (.string x.s)) (assumption)
          (first
            | (go_at_call 11; with_reducible refine (ds_reply (w0 := W) (p := p) (p2 := p2) (q := q) (g := g) (n := k) (m := _) (M := M) (x := x) x.a x.b x.s HK1.out HX.out.a HX.out.s (by first | assumption)).mono ?_; rintro e w6 ⟨rfl, H6⟩; have hS6 := DS.cells H6)
            | (go_at_call 12; with_reducible refine (ds_rreply (w0 := W) (p := p) (p2 := p2) (q := q) (g := g) (n := _) (m := k) (N := M) (x := x) x.a x.b x.s HK40.out (by first | assumption)).mono ?_; rintro e w7 ⟨rfl, H7⟩; have hS7 := DS.cells H7))
        all_goals
          go_wp2
          go_round
          case rel => exact ⟨k + 1, repM M x.a x.b x.s, by omega, by simp, Lib.hid ⟨by first | exact H7.out.t | exact H6.out.t, HSN.out⟩⟩
          case measure => simp [intOf]; omega
      · have h1 : (r3 x.k == 0) = false := by simp [h]
        have h2 : (r3 x.k == 1) = false := by simp [h]
        clear h
        have HSN := Lib.hid (small_upd (k := x.a) (c := ⟨x.b, true, x.s⟩) HSM.out HX.out.s)
        go_wp2_with (fail)
        refine (ds_set (g := g) (N := M) (x := x) (q := q) (p2 := p2) (w0 := W) (p := p) (n := k) (M := M) x.a x.b x.s HK1.out HX.out.a HX.out.s HBX).mono ?_
        rintro e w6 ⟨rfl, H6⟩
        obtain ⟨bt, x0, x1, x2, x3⟩ := H6.out.box
        clear bt HBX
        go_wp2_with (fail)
        refine (ds_rset (g := g) (M := upd M x.a ⟨x.b, true, x.s⟩) (x := x) (q := q) (p2 := p2) (w0 := W) (p := p) (n := k + 1) (m := k) (N := M) x.a x.b x.s HK40.out H6).mono ?_
        rintro e w7 ⟨rfl, H7⟩
        clear x0 x1 x2 x3 H6
        go_wp2
        go_round
        case rel => exact ⟨k + 1, _, by omega, by simp, Lib.hid ⟨H7.out.t, HSN.out⟩⟩
        case measure => simp [intOf]; omega
    · have hd : Hid (DeskSt W wr p2 0 (fun _ => none)) := Lib.hid ⟨HR.out.1.d.bel, HR.out.1.olo, HR.out.1.oty, .inl ⟨HR.out.1.oc, rfl⟩⟩
      clear HR
      go_wp2_with (fail)
      refine (ask_any (w0 := W) p2 0 (fun _ => none) 1 (-9) wr (by unfold maxLen; omega) ⟨by omega, by omega⟩ (fun _ _ e => by cases e) hd).mono ?_
      rintro e w8 ⟨rfl, H8⟩
      have HE := Lib.hid H8.out.1.bel
      rw [show askN none (-9) = 0 from rfl]
      clear H8 hd
      go_wp2
      go_ret
      exact ⟨rfl, HE.out⟩

set_option maxRecDepth 100000 in
theorem contract (H : Type) (enc : TypeId × Value → H) (W : World) (base : Nat) (args : Array Value) (ds gs : List (DataW H)) (before : List MemPlace)
    (hval : ∀ (j : Nat) t v, Try.f3.params[j]? = some t → args[j]? = some v → Value.okWide Try.prog W .any base t v)
    (hW : DataW.Whole enc Try.prog Try.f3.params.toList Rows.rpcDesksSpec.vars false W args.toList ds gs before)
    (hz : (DataW.weightsEach Try.prog (Try.f3.params.toList ++ []) (ds ++ gs)).all (· ≤ reachBytes) = true) :
    Calls Try.prog 3 args W fun e W' => ∃ v, e = .returned v ∧ Rows.rpcDesksSpec.post enc Try.prog Try.f3 false true false false W args v W' := by
  have hW' := hW
  obtain ⟨p, q, hA0, hV, rfl, hfz, hnd⟩ := hW
  have hA : DataW.TrodAll enc Try.prog W 0 (fun _ => true) true Try.f3.params.toList args.toList ds p := hA0
  rw [Try.params3] at hA hval hz
  obtain ⟨v0, vs0, d0, ds0, p0, q0, hargs, rfl, rfl, h0, r0⟩ := trodAll_cons hA
  obtain ⟨rfl, rfl, rfl⟩ := trodAll_nil r0
  obtain rfl : args = #[v0] := by cases args; simp_all
  obtain ⟨rfl, rfl⟩ := trodVars_none hV
  have hw0 : ∀ m ∈ d0.weights Try.prog 22, m ≤ reachBytes := fun m hm => by
    have hall := List.all_eq_true.1 hz m (DataW.weights_mem_each (j := 0) (t := 22) rfl rfl m hm)
    simpa using hall
  obtain ⟨A, len, cap, it, rfl, hl, hS⟩ := open_acts (hval 0 22 v0 rfl rfl) h0 hw0
  clear hA0
  refine (walk A len cap it W hl hS).mono fun e W' ⟨he, hb⟩ => ?_
  subst he
  exact ⟨_, rfl, law_end hW' rfl rfl hb laidOut (by kernel_rfl) (by kernel_rfl) Try.underlying4⟩

theorem reads (os : Os) {H : Type} (enc : TypeId × Value → H) : ∃ places, DataW.whole enc Try.prog ((World.holding Try.prog os ⟨#[], #[], []⟩).forCall (fun _ _ => 0) ⟨#[], #[.slice none 0 0], []⟩).memory Try.f3.params.toList Rows.rpcDesksSpec.vars false [Value.slice none 0 0] 8 = some ([.nil], [], places) :=
  ⟨[], by kernel_rfl⟩

set_option maxRecDepth 100000 in
theorem lifted (os : Os) (started : os.Started) (H : Type) (enc : TypeId × Value → H) (F : Stop.Interp) :
    ReturnsInHanded {} Try.checked os 3 .any ((OpenSpec.ofChange Rows.rpcDesksSpec).preRow enc Try.prog Try.f3 Rows.rpcDesksRow.domain false Rows.rpcDesksRow.laid) (((OpenSpec.ofChange Rows.rpcDesksSpec).at F).post enc Try.prog Try.f3 false true false false) := by
  obtain ⟨places, hx⟩ := reads os enc
  have laid_met : laidMet Try.prog Rows.rpcDesksRow.laid ((World.holding Try.prog os ⟨#[], #[], []⟩).forCall (fun _ _ => 0) ⟨#[], #[.slice none 0 0], []⟩).memory := ⟨[], rfl, List.nodup_nil, fun _ _ h => by cases h⟩
  refine returnsInHanded_of_row (C := Try.checked) (s := OpenSpec.ofChange Rows.rpcDesksSpec) own started (by kernel_rfl) Try.func3
    (witness_row_at (enc := enc) (C := Try.checked) false (World.holding Try.prog os ⟨#[], #[], []⟩) #[.slice none 0 0] rfl (by kernel_rfl) (by kernel_rfl) (by kernel_rfl)
      (OpenSpec.preRow_of_cond 8 hx (by kernel_rfl) (fun k hk => by cases hk) (by kernel_rfl) laid_met)) ?_
  intro W base args ds gs before hval hW _ _ hz _ _ _
  exact contract H enc W base args ds gs before hval hW hz

theorem said : Rows.RpcDesksSaid :=
  OpenClaim.holds_of_cond 3 Try.f3 rfl rfl rfl rfl rfl rfl rfl ⟨rfl, rfl, rfl, rfl, rfl⟩ rfl rfl rfl rfl rfl (by kernel_rfl) Try.func3 (by kernel_rfl)
    (of_decide_eq_true (by kernel_rfl)) (by unfold Func.isWrapper; first | (rw [if_pos (by decide +kernel)]; kernel_rfl) | (rw [if_neg (by decide +kernel)]; exact ⟨rfl, rfl⟩))
    (fun os started H enc _ F => by rw [OpenClaim.pre_eq_preRow]; exact lifted os started H enc F)

end Go.Proofs.Ytcjpllojgmaofaa.fnRpcDesks
