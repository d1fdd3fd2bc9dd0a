/- NetHeld: a letter on a way that is cut stays till the way is mended, whatever the input. -/
import Derived.Test.YtggagebnjcpnoaaNetHold

import Derived.Test.YtggagebnjcpnoaaLawEnd

import Derived.Test.YtggagebnjcpnoaaPlainKit

namespace Go.Proofs.Ytggagebnjcpnoaa.fnNetHeld
open Go.ChangeShapes Go.WideShapes Go.ChangeAt Go.RowKit Go.WideMaps Go.WideElems
open Go.ChangeMaps (open_string)

open Go.Maps
/-- a net of four with one letter and a map of cut ways -/
structure Held (w0 w : World) (p g c m n : Nat) (a b : Int) (s : ByteArray) (D : DataW Unit) : Prop where
  bel : Below w0.heap.size w0 w
  one : OneAt w p g c 4 a b (.map (some m)) s
  own : Owns w m n D
  pm : ¬ p = m
  gm : ¬ g = m
  hp : w0.heap.size ≤ p
  hg : w0.heap.size ≤ g
  hm : w0.heap.size ≤ m
theorem Held.below {w0 w w' : World} {p g c m n : Nat} {a b : Int} {s : ByteArray} {D : DataW Unit} (h : Held w0 w p g c m n a b s D) (hb : Below w.heap.size w w') : Held w0 w' p g c m n a b s D :=
  ⟨h.bel.trans (hb.mono h.bel.size), h.one.below hb, h.own.below hb, h.pm, h.gm, h.hp, h.hg, h.hm⟩
theorem Held.turned {w0 w w' : World} {p g c m n n' : Nat} {a b : Int} {s : ByteArray} {D D' : DataW Unit} (h : Held w0 w p g c m n a b s D) (t : Tu w w' m) (ho : Owns w' m n' D') : Held w0 w' p g c m n' a b s D' :=
  ⟨t.below h.bel h.hm h.bel.size, h.one.tu t h.pm h.gm, ho, h.pm, h.gm, h.hp, h.hg, h.hm⟩
theorem node4_node {a : Int} (h : node4 a) : nodeB 4 a = true := by rcases h with rfl | rfl | rfl | rfl <;> decide
section
variable {w0 : World} {p g c m n : Nat} {a b : Int} {s : ByteArray} {D : DataW Unit}
theorem H_first (w : World) (h : One w0 w p 4 a b (.map none) s) (hp : w0.heap.size ≤ p) (ha : node4 a) (hb : node4 b) (hab : ¬ a = b) :
    Calls Try.prog 19 #[.pointer (some ⟨p, 0, none⟩), .int .i64 b, .int .i64 a, .bool true] w fun e w' => e = .returned (.int .i64 0) ∧ ∃ g c m, Hid (Held w0 w' p g c m 1 a b s ((DataW.map []).put (kk a b) (.agg []))) := by
  have hS := h.1
  obtain ⟨g, c, hg0, ho⟩ := h.get
  refine (part_first p 4 1 b a _ w ho.net hb ha (node4_node hb) (node4_node ha) (fun e => hab e.symm)).mono ?_
  rintro e w' ⟨rfl, m, hm, hown, hnet, t⟩
  have hlt := ho.net.lt
  have hgs := ho.gs
  have hblk := t.block g hgs ho.gp
  refine ⟨rfl, g, c, m, Lib.hid ⟨t.below hS.out hp hS.out.size, ⟨hnet, ho.gp, ho.cap, Nat.lt_of_lt_of_le hgs t.size, (cell_same hblk 0).trans ho.k0, (cell_same hblk 1).trans ho.k1, (cell_same hblk 2).trans ho.k2, (cell_same hblk 3).trans ho.k3, fun i => (frozen_same hblk i).trans (ho.kf i)⟩, ?_, by omega, by omega, hp, hg0, by have := hS.out.size; omega⟩⟩
  rw [kk_comm a b]
  exact hown
theorem H_parted (x y : Int) (v : Bool) (w : World) (h : Hid (Held w0 w p g c m n a b s D)) (hx : node4 x) (hy : node4 y) (hv : Hid (Maps.has D (kk x y) = v)) :
    Calls Try.prog 23 #[.pointer (some ⟨p, 0, none⟩), .int .i64 x, .int .i64 y] w fun e w' => e = .returned (.bool v) ∧ Hid (Held w0 w' p g c m n a b s D) :=
  (parted_own p m n x y D w h.out.one.net.c3 h.out.own hx hy).mono fun _ _ ⟨he, hb⟩ => ⟨by rw [he, hv.out], Lib.hid (h.out.below hb)⟩
theorem H_part (x y : Int) (w : World) (h : Hid (Held w0 w p g c m n a b s D)) (hx : node4 x) (hy : node4 y) (hxy : ¬ x = y) (hn : n ≤ 100) :
    Calls Try.prog 19 #[.pointer (some ⟨p, 0, none⟩), .int .i64 x, .int .i64 y, .bool true] w fun e w' => e = .returned (.int .i64 0) ∧ Hid (Held w0 w' p g c m (n + 1) a b s (D.put (kk x y) (.agg []))) :=
  (part_own p m n 4 1 x y _ D w h.out.one.net h.out.own (by unfold maxLen; omega) hx hy (node4_node hx) (node4_node hy) hxy).mono fun _ _ ⟨he, ho, t⟩ => ⟨he, Lib.hid (h.out.turned t ho)⟩
theorem H_mend (x y : Int) (w : World) (h : Hid (Held w0 w p g c m n a b s D)) (hx : node4 x) (hy : node4 y) (hxy : ¬ x = y) :
    Calls Try.prog 19 #[.pointer (some ⟨p, 0, none⟩), .int .i64 x, .int .i64 y, .bool false] w fun e w' => e = .returned (.int .i64 0) ∧ Hid (Held w0 w' p g c m n a b s (D.del (kk x y))) :=
  (part_mend p m n 4 1 x y _ D w h.out.one.net h.out.own hx hy (node4_node hx) (node4_node hy) hxy).mono fun _ _ ⟨he, ho, t⟩ => ⟨he, Lib.hid (h.out.turned t ho)⟩
theorem H_fly (w : World) (h : Hid (Held w0 w p g c m n a b s D)) (hs : s.size ≤ 1048576) :
    Calls Try.prog 21 #[.pointer (some ⟨p, 0, none⟩)] w fun e w' => (∃ k, e = .returned (.slice (some ⟨k, 0, none⟩) 1 1)) ∧ Hid (Held w0 w' p g c m n a b s D) :=
  (flying_one p g c 4 a b _ s w hs h.out.one).mono fun _ _ ⟨he, hb⟩ => ⟨⟨_, he⟩, Lib.hid (h.out.below hb)⟩
theorem H_gone (w : World) (h : Hid (Held w0 w p g c m n a b s D)) (hs : s.size ≤ 1048576) (ha : node4 a) (hb : node4 b) (hv : Hid (Maps.has D (kk a b) = true)) :
    Calls Try.prog 13 #[.pointer (some ⟨p, 0, none⟩), .int .i64 0] w fun e w' => e = .returned (.tuple #[.agg #[.int .i64 0, .int .i64 0, .int .i64 0, .string ⟨#[]⟩], .int .i64 140]) ∧ Hid (Held w0 w' p g c m n a b s D) :=
  (deliver_gone (w0 := w0) p g c 4 a b _ s w hs h.out.hp h.out.hg h.out.one (Lib.hid (Lib.hid h.out.bel)) (Lib.hid fun w2 hb2 => by
    have h2 := h.out.below hb2
    refine (parted_own p m n a b D w2 h2.one.net.c3 h2.own ha hb).mono ?_
    rintro e w' ⟨rfl, hb3⟩
    exact ⟨by rw [hv.out], hb3⟩)).mono fun _ _ ⟨he, hb⟩ => ⟨he, Lib.hid (h.out.below hb)⟩
theorem H_arrive (w : World) (h : Hid (Held w0 w p g c m n a b s D)) (hs : s.size ≤ 1048576) (ha : node4 a) (hb : node4 b) (hv : Hid (Maps.has D (kk a b) = false)) :
    Calls Try.prog 13 #[.pointer (some ⟨p, 0, none⟩), .int .i64 0] w fun e w' => e = .returned (.tuple #[.agg #[.int .i64 1, .int .i64 a, .int .i64 b, .string s], .int .i64 0]) ∧ Since w0 w' :=
  deliver_any (w0 := w0) p g c 4 a b _ s w hs h.out.hp h.out.hg h.out.one (Lib.hid (Lib.hid h.out.bel)) (Lib.hid fun w2 hb2 => by
    have h2 := h.out.below hb2
    refine (parted_own p m n a b D w2 h2.one.net.c3 h2.own ha hb).mono ?_
    rintro e w' ⟨rfl, hb3⟩
    exact ⟨by rw [hv.out], hb3⟩)
end
def Ok (a b : Int) (s : ByteArray) : Prop := node4 a ∧ node4 b ∧ ¬ a = b ∧ s.size ≤ 1048576
set_option maxRecDepth 100000 in
set_option maxHeartbeats 4000000 in
theorem walk (a0 b0 : Int) (s0 : ByteArray) (w : World) :
    Calls Try.prog 7 #[.int .i64 a0, .int .i64 b0, .string s0] w fun e w' => e = .returned (.bool true) ∧ Below w.heap.size w w' := by
  go_enter Try.func7, Try.ntmps7
  go_upto_region 3 with (go_at_call 8; refine (speaks_any _).mono ?_; rintro e w1 ⟨rfl, hb⟩; have h1 : Since w w1 := Lib.hid hb; clear hb)
  go_cut [38] (fun s38 wx => (∃ v : Bool, s38 = .bool v ∧ Hid (v = false → Ok a0 b0 s0)) ∧ Since w wx)
  case first =>
    by_cases q1 : a0 < 0
    · go_wp2
      go_meet
      exact ⟨⟨true, rfl, Lib.hid (fun h => by cases h)⟩, h1⟩
    by_cases q2 : 3 < a0
    · go_wp2
      go_meet
      exact ⟨⟨true, rfl, Lib.hid (fun h => by cases h)⟩, h1⟩
    by_cases q3 : b0 < 0
    · go_wp2
      go_meet
      exact ⟨⟨true, rfl, Lib.hid (fun h => by cases h)⟩, h1⟩
    by_cases q4 : 3 < b0
    · go_wp2
      go_meet
      exact ⟨⟨true, rfl, Lib.hid (fun h => by cases h)⟩, h1⟩
    by_cases q5 : (a0 == b0) = true
    · go_wp2
      go_meet
      exact ⟨⟨true, rfl, Lib.hid (fun h => by cases h)⟩, h1⟩
    have q5' : (a0 == b0) = false := by simpa using q5
    have q7 := Lib.hid (show ¬ a0 = b0 by simpa using q5)
    clear q5
    by_cases q6 : 1048576 < (s0.size : Int)
    · go_wp2
      go_meet
      exact ⟨⟨true, rfl, Lib.hid (fun h => by cases h)⟩, h1⟩
    · go_wp2
      go_meet
      exact ⟨⟨false, rfl, Lib.hid (fun _ => ⟨by unfold node4; omega, by unfold node4; omega, q7.out, by omega⟩)⟩, h1⟩
  case rest =>
    obtain ⟨⟨v, rfl, HV⟩, h2⟩ := hcut
    go_upto_if 38 with (fail)
    go_cut [0, 1, 2] (fun s0 s1 s2 wx => (∃ a b s, s0 = .int .i64 a ∧ s1 = .int .i64 b ∧ s2 = .string s ∧ Hid (Ok a b s)) ∧ Since w wx)
    case first =>
      cases v
      · have HK := Lib.hid (HV.out rfl)
        clear HV
        go_wp2
        go_meet
        exact ⟨⟨a0, b0, s0, rfl, rfl, rfl, HK⟩, h2⟩
      · clear HV
        go_wp2
        go_meet
        exact ⟨⟨1, 2, ⟨#[120]⟩, rfl, rfl, rfl, Lib.hid (by unfold Ok node4; decide)⟩, h2⟩
    case rest =>
      obtain ⟨⟨a, b, s, rfl, rfl, rfl, HOk⟩, h3⟩ := hcut
      rename_i wc
      have ha := Lib.hid HOk.out.1
      have hb := Lib.hid HOk.out.2.1
      have hab := Lib.hid HOk.out.2.2.1
      have hba : Hid (¬ b = a) := Lib.hid (fun e => hab.out e.symm)
      have hs := Lib.hid HOk.out.2.2.2
      have hnet : Hid (NetAt (wc.alloc (.cells #[.int .i64 4, .int .i64 0, .slice none 0 0, .map none] 65)) wc.heap.size 4 0 (.slice none 0 0) (.map none)) := by
        refine Lib.hid ⟨?_, ?_, ?_, ?_, ?_, ?_, ?_⟩ <;> simp
      have h4 : Since w (wc.alloc (.cells #[.int .i64 4, .int .i64 0, .slice none 0 0, .map none] 65)) := Lib.hid (h3.out.alloc h3.out.size _)
      have hp := Lib.hid h3.out.size
      clear HOk
      go_wp2_with (fail)
      refine (new_any 4 4 (by decide) wc).mono ?_
      rintro e w2 ⟨rfl, rfl⟩
      go_wp2_with (fail)
      refine (send_first (w0 := w) wc.heap.size 4 a b (.map none) s _ hs.out (node4_node ha.out) (node4_node hb.out) hnet.out h4 hp.out).mono ?_
      rintro e w3 ⟨rfl, h5⟩
      have H5 := Lib.hid h5
      clear h5 hnet h4
      go_wp2_with (fail)
      refine (H_first w3 H5.out hp.out ha.out hb.out hab.out).mono ?_
      rintro e w4 ⟨rfl, g, c, m, h6⟩
      have V1 : Hid (Maps.has ((DataW.map []).put (kk a b) (.agg []) : DataW Unit) (kk a b) = true) := Lib.hid (Maps.has_put_same ⟨[], rfl⟩ (kl_is _ _) _)
      have V2 : Hid (Maps.has ((DataW.map []).put (kk a b) (.agg []) : DataW Unit) (kk b a) = true) := by rw [kk_comm b a]; exact V1
      have V3 : Hid (Maps.has (((DataW.map []).put (kk a b) (.agg [])).del (kk a b) : DataW Unit) (kk a b) = false) := Lib.hid Maps.has_del_same
      clear H5
      go_wp2_with (fail)
      refine (H_parted a b true w4 h6 ha.out hb.out V1).mono ?_
      rintro e w5 ⟨rfl, h7⟩
      clear h6
      go_wp2_with (fail)
      refine (H_parted b a true w5 h7 hb.out ha.out V2).mono ?_
      rintro e w6 ⟨rfl, h8⟩
      clear h7
      go_wp2_with (fail)
      refine (H_gone w6 h8 hs.out ha.out hb.out V1).mono ?_
      rintro e w7 ⟨rfl, h9⟩
      clear h8 V1 V2
      go_wp2_with (fail)
      have h10 : Hid (Held w (w7.alloc (.cells #[.int .i64 0, .int .i64 0, .int .i64 0, .string ⟨#[]⟩] 36)) wc.heap.size g c m 1 a b s ((DataW.map []).put (kk a b) (.agg []))) := Lib.hid (h9.out.below ((Below.refl _ _).alloc (Nat.le_refl _) _))
      clear h9
      refine (H_fly _ h10 hs.out).mono ?_
      rintro e w8 ⟨⟨k8, rfl⟩, h11⟩
      clear h10
      go_wp2_with (fail)
      refine (H_mend a b w8 h11 ha.out hb.out hab.out).mono ?_
      rintro e w9 ⟨rfl, h12⟩
      clear h11
      go_wp2_with (fail)
      refine (H_parted a b false w9 h12 ha.out hb.out V3).mono ?_
      rintro e w10 ⟨rfl, h13⟩
      clear h12
      obtain ⟨D0, hD0⟩ : ∃ D0, D0 = (((DataW.map []).put (kk a b) (.agg [])).del (kk a b) : DataW Unit) := ⟨_, rfl⟩
      rw [← hD0] at V3 h13
      clear hD0 h1 h2 h3 HV
      go_wp2
      go_loopw [10] (fun i wr => ∃ (k n : Nat) (D : DataW Unit), k ≤ 4 ∧ i = .int .i64 k ∧ n ≤ 1 + k ∧ Hid (Held w wr wc.heap.size g c m n a b s D) ∧ Hid (Maps.has D (kk a b) = false)) (fun i _ => 4 - (intOf i).toNat)
      case atStart => exact ⟨0, 1, D0, by omega, rfl, by omega, h13, V3⟩
      case round =>
        obtain ⟨k, n, D, hk, rfl, hn, HH, HV⟩ := hrel
        clear h13 V3
        by_cases hlt : k < 4
        · have hk4 : Hid (node4 (k : Int)) := Lib.hid (by unfold node4; omega)
          by_cases qa : (k : Int) = a
          · have fa : ((k : Int) != a) = false := by simpa using qa
            clear qa
            go_wp2
            go_round
            case rel => exact ⟨k + 1, n, D, by omega, by simp, by omega, HH, HV⟩
            case measure => simp [intOf]; omega
          · have fa : ((k : Int) != a) = true := by simpa using qa
            have ea := Lib.hid qa
            clear qa
            by_cases qb : (k : Int) = b
            · have fb : ((k : Int) != b) = false := by simpa using qb
              clear qb
              go_wp2
              go_round
              case rel => exact ⟨k + 1, n, D, by omega, by simp, by omega, HH, HV⟩
              case measure => simp [intOf]; omega
            · have fb : ((k : Int) != b) = true := by simpa using qb
              have eb := Lib.hid qb
              clear qb
              go_wp2_with (fail)
              have hak : Hid (¬ a = (k : Int)) := Lib.hid (fun e => ea.out e.symm)
              refine (H_part a (k : Int) wr HH ha.out hk4.out hak.out (by omega)).mono ?_
              rintro e w11 ⟨rfl, h14⟩
              have HV2 : Hid (Maps.has (D.put (kk a (k : Int)) (.agg [])) (kk a b) = false) := Lib.hid ((Maps.has_put_other (kk_ne ha.out hb.out hk4.out eb.out ea.out) _).trans HV.out)
              clear HH HV hak ea eb hk4
              go_wp2
              go_round
              case rel => exact ⟨k + 1, n + 1, _, by omega, by simp, by omega, h14, HV2⟩
              case measure => simp [intOf]; omega
        · obtain rfl : k = 4 := by omega
          go_wp2_with (fail)
          refine (H_arrive wr HH hs.out ha.out hb.out HV).mono ?_
          rintro e w12 ⟨rfl, h15⟩
          go_wp2
          go_ret
          exact ⟨rfl, h15.out.alloc h15.out.size _⟩

theorem contract (H : Type) (enc : TypeId × Value → H) (W : World) (base : Nat) (args : Array Value) (ds gs : List (DataW H)) (before : List MemPlace)
    (hval : ∀ (j : Nat) t v, Try.f7.params[j]? = some t → args[j]? = some v → Value.okWide Try.prog W .any base t v)
    (hW : DataW.Whole enc Try.prog Try.f7.params.toList Rows.netHeldSpec.vars false W args.toList ds gs before)
    (hz : (DataW.weightsEach Try.prog (Try.f7.params.toList ++ []) (ds ++ gs)).all (· ≤ reachBytes) = true) :
    Calls Try.prog 7 args W fun e W' => ∃ v, e = .returned v ∧ Rows.netHeldSpec.post enc Try.prog Try.f7 false true false false W args v W' := by
  have hW' := hW
  obtain ⟨p, q, hA0, hV, rfl, hfz, hnd⟩ := hW
  have hA : DataW.TrodAll enc Try.prog W 0 (fun _ => true) true Try.f7.params.toList args.toList ds p := hA0
  rw [Try.params7] at hA hval hz
  obtain ⟨v0, vs0, d0, ds0, p0, q0, hargs, rfl, rfl, h0, r0⟩ := trodAll_cons hA
  obtain ⟨v1, vs1, d1, ds1, p1, q1, rfl, rfl, rfl, h1, r1⟩ := trodAll_cons r0
  obtain ⟨v2, vs2, d2, ds2, p2, q2, rfl, rfl, rfl, h2, r2⟩ := trodAll_cons r1
  obtain ⟨rfl, rfl, rfl⟩ := trodAll_nil r2
  obtain rfl : args = #[v0, v1, v2] := by cases args; simp_all
  obtain ⟨rfl, rfl⟩ := trodVars_none hV
  obtain ⟨x0, rfl, rfl, rfl, w0⟩ := open_int Try.underlying3 (hval 0 3 v0 rfl rfl) h0
  have b0 := i64_of_wf w0
  obtain ⟨x1, rfl, rfl, rfl, w1⟩ := open_int Try.underlying3 (hval 1 3 v1 rfl rfl) h1
  have b1 := i64_of_wf w1
  obtain ⟨x2, rfl, rfl, rfl, w2⟩ := open_string Try.underlying9 (hval 2 9 v2 rfl rfl) h2
  have b2 : x2.size ≤ 140737488351232 := by have := sized_string hz (j := 2) (t := 9) rfl rfl; simpa [reachBytes] using this
  clear hA0
  refine (walk x0 x1 x2 W).mono fun e W' ⟨he, hb⟩ => ?_
  subst he
  exact ⟨_, rfl, law_end hW' rfl rfl hb laidOut (by kernel_rfl) (by kernel_rfl) Try.underlying4⟩

theorem reads (os : Os) {H : Type} (enc : TypeId × Value → H) : ∃ places, DataW.whole enc Try.prog ((World.holding Try.prog os ⟨#[], #[], []⟩).forCall (fun _ _ => 0) ⟨#[], #[.int .i64 0, .int .i64 0, .string ⟨#[]⟩], []⟩).memory Try.f7.params.toList Rows.netHeldSpec.vars false [Value.int .i64 0, Value.int .i64 0, Value.string ⟨#[]⟩] 8 = some ([.lit (.int .i64 0), .lit (.int .i64 0), .lit (.string [])], [], places) :=
  ⟨[], by kernel_rfl⟩

set_option maxRecDepth 100000 in
theorem lifted (os : Os) (started : os.Started) (H : Type) (enc : TypeId × Value → H) (F : Stop.Interp) :
    ReturnsInHanded {} Try.checked os 7 .any ((OpenSpec.ofChange Rows.netHeldSpec).preRow enc Try.prog Try.f7 Rows.netHeldRow.domain false Rows.netHeldRow.laid) (((OpenSpec.ofChange Rows.netHeldSpec).at F).post enc Try.prog Try.f7 false true false false) := by
  obtain ⟨places, hx⟩ := reads os enc
  have laid_met : laidMet Try.prog Rows.netHeldRow.laid ((World.holding Try.prog os ⟨#[], #[], []⟩).forCall (fun _ _ => 0) ⟨#[], #[.int .i64 0, .int .i64 0, .string ⟨#[]⟩], []⟩).memory := ⟨[], rfl, List.nodup_nil, fun _ _ h => by cases h⟩
  refine returnsInHanded_of_row (C := Try.checked) (s := OpenSpec.ofChange Rows.netHeldSpec) own started (by kernel_rfl) Try.func7
    (witness_row_at (enc := enc) (C := Try.checked) false (World.holding Try.prog os ⟨#[], #[], []⟩) #[.int .i64 0, .int .i64 0, .string ⟨#[]⟩] rfl (by kernel_rfl) (by kernel_rfl) (by kernel_rfl)
      (OpenSpec.preRow_of_cond 8 hx (by kernel_rfl) (fun k hk => by cases hk) (by kernel_rfl) laid_met)) ?_
  intro W base args ds gs before hval hW _ _ hz _ _ _
  exact contract H enc W base args ds gs before hval hW hz

theorem said : Rows.NetHeldSaid :=
  OpenClaim.holds_of_cond 7 Try.f7 rfl rfl rfl rfl rfl rfl rfl ⟨rfl, rfl, rfl, rfl, rfl⟩ rfl rfl rfl rfl rfl (by kernel_rfl) Try.func7 (by kernel_rfl)
    (of_decide_eq_true (by kernel_rfl)) (by unfold Func.isWrapper; first | (rw [if_pos (by decide +kernel)]; kernel_rfl) | (rw [if_neg (by decide +kernel)]; exact ⟨rfl, rfl⟩))
    (fun os started H enc _ F => by rw [OpenClaim.pre_eq_preRow]; exact lifted os started H enc F)

end Go.Proofs.Ytggagebnjcpnoaa.fnNetHeld
