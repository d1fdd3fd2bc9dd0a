/- WireFrames is true for every two texts and every place, where the texts' values and letters are together at most 1048576: wire.Frame, Next and All answer what the reference's answer. No conditions beyond the card's own and that bound. -/
import Derived.Test.YteengjmjbfgkeaaDoorSealKit
import Derived.Test.YteengjmjbfgkeaaDoorWireSpeaks
import Derived.Test.YteengjmjbfgkeaaDoorRefAll

import Derived.Test.YteengjmjbfgkeaaDoorLawEnd

import Derived.Test.YteengjmjbfgkeaaDoorCrcLaid

namespace Go.Proofs.YteengjmjbfgkeaaDoor.fnWireFrames
open Go.ChangeShapes Go.WideShapes Go.ChangeAt Go.RowKit Go.WideMaps Go.WideElems
open Go.ChangeMaps (open_string)

theorem row_below {w w' : World} {B : Nat} {ao : Option Addr} {bs : List (List UInt8)} (h : TextRow w B ao bs) (hb : Below w.heap.size w w') : RowAt w' ao bs := fun i hi => by
  obtain ⟨g, e, _, hg, c⟩ := h i hi
  exact ⟨g, 0, e, by rw [Nat.zero_add]; exact (hb.cell (p := ⟨g, _, none⟩) hg).trans c⟩
theorem below_drew {w w1 w2 : World} (h : Below w.heap.size w w1) (hd : ∃ n, w2 = w1.drewN n) : Below w.heap.size w w2 := by
  obtain ⟨n, rfl⟩ := hd
  exact below_drewN h n
theorem all_len : ∀ (n : Nat) (l : List UInt8), l.length ≤ n → 12 * (allL l).1.length ≤ l.length
  | 0, l, h => by
    have : l = [] := List.eq_nil_of_length_eq_zero (by omega)
    rw [this, all_nil]
    simp
  | n + 1, l, h => by
    by_cases h3 : (nxAt l).2 = 3
    · rw [all_end h3]; simp
    by_cases h0 : (nxAt l).2 = 0
    · have h1 := (nx_ok_len h0).1
      have h2 := all_len n (l.drop ((nxAt l).1.length + 12)) (by rw [List.length_drop]; omega)
      rw [List.length_drop] at h2
      rw [all_more h0]
      simp only [List.length_cons]
      omega
    · rw [all_bad h3 h0]; simp
def Same3 (f : FuncId) (args : Array Value) (q : ByteArray) (n er : Int) (w : World) : Prop := Calls Tryd.prog f args w fun e w' => e = .returned (.tuple #[.string q, .int .i64 n, .int .i64 er]) ∧ Below w.heap.size w w'
theorem next_both (s : ByteArray) (at_ : Int) (hs : s.size ≤ 1048576) : ∃ q n er, (∀ w, Half w → Same3 23 #[.string s, .int .i64 at_] q n er w) ∧ (∀ w, Same3 24 #[.string s, .int .i64 at_] q n er w) := by
  by_cases h : at_ < 0 ∨ (s.size : Int) < at_
  · refine ⟨⟨#[]⟩, 0, 2, fun w _ => ?_, fun w => ?_⟩
    · refine (next_arg s at_ w h).mono ?_
      rintro e w' ⟨rfl, rfl⟩
      exact ⟨rfl, Below.refl _ _⟩
    · refine (rnext_arg s at_ w h).mono ?_
      rintro e w' ⟨rfl, rfl⟩
      exact ⟨rfl, Below.refl _ _⟩
  · obtain ⟨a, rfl⟩ : ∃ a : Nat, at_ = a := ⟨at_.toNat, by omega⟩
    exact ⟨_, _, _, fun w hh => next_any s a w (by omega) (by omega) hh, fun w => rnext_any s a w (by omega) (by omega)⟩
set_option maxRecDepth 100000 in
set_option maxHeartbeats 4000000 in
theorem walk (b s : ByteArray) (at_ : Int) (w : World) (hh : Half w) (hb : b.size ≤ 1048576) (hs : s.size ≤ 1048576) (_hn : -9223372036854775808 ≤ at_ ∧ at_ ≤ 9223372036854775807) :
    Calls Tryd.prog 6 #[.string b, .string s, .int .i64 at_] w fun e w' => e = .returned (.bool true) ∧ Below w.heap.size w w' := by
  obtain ⟨q, n, er, h1, h2⟩ := next_both s at_ hs
  obtain ⟨F, hF⟩ : ∃ F : ByteArray, F = ⟨(frameL b.data.toList).toArray⟩ := ⟨_, rfl⟩
  have f1 := fun (w : World) (hh : Half w) => frame_any b w hh hb
  have f2 := fun (w : World) => rframe_any b w hb
  rw [← hF] at f1 f2
  obtain ⟨bs, m, ar, hal⟩ : ∃ bs m ar, allL s.data.toList = (bs, m, ar) := ⟨_, _, _, rfl⟩
  have hml : bs.length ≤ 1048576 := by
    have h := all_len s.data.toList.length s.data.toList (Nat.le_refl _)
    have e : s.data.toList.length = s.size := by simp
    rw [hal] at h
    simp only at h
    omega
  have HH := Lib.hid hh
  have H1 := Lib.hid h1
  have H2 := Lib.hid h2
  have F1 := Lib.hid f1
  have F2 := Lib.hid f2
  have A1 := Lib.hid (fun (w : World) (hh : Half w) => all_any s w (by omega) hh)
  have A2 := Lib.hid (fun (w : World) => rall_any s w (by omega))
  have HAL := Lib.hid hal
  have HML := Lib.hid hml
  obtain ⟨k, hk⟩ : ∃ k, bs.length = k := ⟨_, rfl⟩
  have HK := Lib.hid hk
  have tn : (n != n) = false := by simp
  have te : (er != er) = false := by simp
  have tm : ((m : Int) == (m : Int)) = true := by simp
  have ta : (ar == ar) = true := by simp
  clear hF f1 f2 h1 h2 hh hal hml hk _hn
  go_enter Tryd.func6, Tryd.ntmps6
  go_wp2_with (fail)
  refine (speaks2_any _).mono ?_
  rintro e w1 ⟨rfl, hb1⟩
  have B1 := Lib.hid hb1
  clear hb1
  go_wp2_with (fail)
  refine (F1.out _ (HH.out.below B1.out HH.out.lt)).mono ?_
  rintro e w2 ⟨rfl, hb2⟩
  have B2 := Lib.hid (B1.out.trans (hb2.mono B1.out.size))
  clear hb2 B1
  go_wp2_with (fail)
  refine (F2.out _).mono ?_
  rintro e w3 ⟨rfl, hb3⟩
  have B3 := Lib.hid (B2.out.trans (hb3.mono B2.out.size))
  clear hb3 B2
  go_wp2_with (fail)
  refine (H1.out _ (HH.out.below B3.out HH.out.lt)).mono ?_
  rintro e w4 ⟨rfl, hb4⟩
  have B4 := Lib.hid (B3.out.trans (hb4.mono B3.out.size))
  clear hb4 B3
  go_wp2_with (fail)
  refine (H2.out _).mono ?_
  rintro e w5 ⟨rfl, hb5⟩
  have B5 := Lib.hid (B4.out.trans (hb5.mono B4.out.size))
  clear hb5 B4
  go_wp2_with (fail)
  refine (A1.out _ (HH.out.below B5.out HH.out.lt)).mono ?_
  rintro e w6 hp
  obtain ⟨ao, cp, rfl, hrow, hb⟩ := all_post HAL.out HK.out hp
  have B6 := Lib.hid (B5.out.trans (hb.mono B5.out.size))
  have R6 := Lib.hid hrow
  clear hp hrow hb B5
  go_wp2_with (fail)
  refine (A2.out _).mono ?_
  rintro e w7 hp
  obtain ⟨ao2, cp2, rfl, hrow2, hb⟩ := all_post HAL.out HK.out hp
  have B7 := Lib.hid (B6.out.trans (hb.mono B6.out.size))
  have R7 := Lib.hid (row_below R6.out hb)
  have R8 := Lib.hid hrow2.at_
  clear hp hrow2 hb B6 R6
  go_wp2_with (fail)
  refine (texts_same ao ao2 k cp cp2 bs w7 HK.out (by have := HK.out; have := HML.out; omega) R7.out R8.out).mono ?_
  rintro e w8 ⟨rfl, hd⟩
  have B8 := Lib.hid (below_drew B7.out hd)
  clear hd
  go_wp2
  go_ret
  exact ⟨rfl, B8.out⟩

theorem contractUpto (H : Type) (enc : TypeId × Value → H) (W : World) (base : Nat) (args : Array Value) (ds gs : List (DataW H)) (before : List MemPlace)
    (hval : ∀ (j : Nat) t v, Tryd.f6.params[j]? = some t → args[j]? = some v → Value.okWide Tryd.prog W .any base t v)
    (hW : DataW.Whole enc Tryd.prog Tryd.f6.params.toList Rows.wireFramesSpec.vars false W args.toList ds gs before) (hL : laidMetH Tryd.prog Rows.wireFramesRow.laid W)
    (hz : (DataW.weightsEach Tryd.prog (Tryd.f6.params.toList ++ []) (ds ++ gs)).all (· ≤ reachBytes) = true) (hk : Rows.uptoSmall H (ds ++ gs) = true) :
    Calls Tryd.prog 6 args W fun e W' => ∃ v, e = .returned v ∧ Rows.wireFramesSpec.post enc Tryd.prog Tryd.f6 false true false false W args v W' := by
  have hW' := hW
  obtain ⟨p, q, hA0, hV, rfl, hfz, hnd⟩ := hW
  have hA : DataW.TrodAll enc Tryd.prog W 0 (fun _ => true) true Tryd.f6.params.toList args.toList ds p := hA0
  rw [Tryd.params6] at hA hval hz
  obtain ⟨v0, vs0, d0, ds0, p0, q0, hargs, rfl, rfl, h0, r0⟩ := trodAll_cons hA
  obtain ⟨v1, vs1, d1, ds1, p1, q1, rfl, rfl, rfl, h1, r1⟩ := trodAll_cons r0
  obtain ⟨v2, vs2, d2, ds2, p2, q2, rfl, rfl, rfl, h2, r2⟩ := trodAll_cons r1
  obtain ⟨rfl, rfl, rfl⟩ := trodAll_nil r2
  obtain rfl : args = #[v0, v1, v2] := by cases args; simp_all
  obtain ⟨rfl, rfl⟩ := trodVars_none hV
  obtain ⟨x0, rfl, rfl, rfl, w0⟩ := open_string Tryd.underlying9 (hval 0 9 v0 rfl rfl) h0
  have b0 : x0.size ≤ 140737488351232 := by have := sized_string hz (j := 0) (t := 9) rfl rfl; simpa [reachBytes] using this
  obtain ⟨x1, rfl, rfl, rfl, w1⟩ := open_string Tryd.underlying9 (hval 1 9 v1 rfl rfl) h1
  have b1 : x1.size ≤ 140737488351232 := by have := sized_string hz (j := 1) (t := 9) rfl rfl; simpa [reachBytes] using this
  obtain ⟨x2, rfl, rfl, rfl, w2⟩ := open_int Tryd.underlying3 (hval 2 3 v2 rfl rfl) h2
  have b2 := i64_of_wf w2
  have hbulk : x1.size ≤ 1048576 ∧ x0.size ≤ 1048576 := by
    have h := of_decide_eq_true hk
    simp only [List.append_nil, List.cons_append, List.nil_append, Rows.uptoBulkAll, Rows.uptoBulk] at h
    have e0 : x0.data.toList.length = x0.size := by simp
    have e1 : x1.data.toList.length = x1.size := by simp
    omega
  clear hA0
  refine (walk x0 x1 x2 W (half_of hL) hbulk.2 hbulk.1 b2).mono fun e W' ⟨he, hb⟩ => ?_
  subst he
  exact ⟨_, rfl, law_end hW' rfl rfl hb laidOut (by kernel_rfl) (by kernel_rfl) Tryd.underlying4⟩

theorem reads (os : Os) {H : Type} (enc : TypeId × Value → H) : ∃ places, DataW.whole enc Tryd.prog ((laidWorld os).forCall (fun _ _ => 0) ⟨#[], #[.string ⟨#[]⟩, .string ⟨#[]⟩, .int .i64 0], []⟩).memory Tryd.f6.params.toList Rows.wireFramesSpec.vars false [Value.string ⟨#[]⟩, Value.string ⟨#[]⟩, Value.int .i64 0] 8 = some ([.lit (.string []), .lit (.string []), .lit (.int .i64 0)], [], places) :=
  ⟨[], by kernel_rfl⟩

set_option maxRecDepth 100000 in
theorem lifted (os : Os) (started : os.Started) (H : Type) (enc : TypeId × Value → H) (F : Stop.Interp) :
    ReturnsInHanded {} Tryd.checked os 6 .any ((Rows.OpenSpec.upto Rows.wireFramesSpec).preRow enc Tryd.prog Tryd.f6 Rows.wireFramesUptoRow.domain false Rows.wireFramesUptoRow.laid) (((Rows.OpenSpec.upto Rows.wireFramesSpec).at F).post enc Tryd.prog Tryd.f6 false true false false) := by
  obtain ⟨places, hx⟩ := reads os enc
  have laid_met : laidMet Tryd.prog Rows.wireFramesUptoRow.laid ((laidWorld os).forCall (fun _ _ => 0) ⟨#[], #[.string ⟨#[]⟩, .string ⟨#[]⟩, .int .i64 0], []⟩).memory := (laidMet_of_run' 8 (by kernel_rfl) (by kernel_rfl))
  refine returnsInHanded_of_row (C := Tryd.checked) (s := Rows.OpenSpec.upto Rows.wireFramesSpec) own started (by kernel_rfl) Tryd.func6
    (witness_row_at (enc := enc) (C := Tryd.checked) false (laidWorld os) #[.string ⟨#[]⟩, .string ⟨#[]⟩, .int .i64 0] rfl (by kernel_rfl) (by kernel_rfl) (by kernel_rfl)
      (OpenSpec.preRow_of_cond 8 hx (by kernel_rfl) (fun k hk => by cases hk; kernel_rfl) (by kernel_rfl) laid_met)) ?_
  intro W base args ds gs before hval hW _ hcond hz hL _ _
  exact contractUpto H enc W base args ds gs before hval hW hL hz (hcond _ rfl)

theorem said : Rows.WireFramesUptoSaid :=
  OpenClaim.holds_of_cond 6 Tryd.f6 rfl rfl rfl rfl rfl rfl rfl ⟨rfl, rfl, rfl, rfl, rfl⟩ rfl rfl rfl rfl rfl (by kernel_rfl) Tryd.func6 (by kernel_rfl)
    (of_decide_eq_true (by kernel_rfl)) (by unfold Func.isWrapper; first | (rw [if_pos (by decide +kernel)]; kernel_rfl) | (rw [if_neg (by decide +kernel)]; exact ⟨rfl, rfl⟩))
    (fun os started H enc _ F => by rw [OpenClaim.pre_eq_preRow]; exact lifted os started H enc F)

theorem plain (f : FuncId) (fn : Func) (hf : Tryd.pinned.checked.prog.funcNamed "mahout/mahoutlaw02.WireFrames" = some f) (hfn : Tryd.pinned.checked.prog.funcs[f]? = some fn) :
    ∀ (j : Nat) t, fn.params[j]? = some t → Tryd.pinned.checked.prog.wantsStandIn t = false := by
  obtain rfl : f = 6 := Option.some.inj ((show Tryd.prog.funcNamed "mahout/mahoutlaw02.WireFrames" = some 6 by kernel_rfl).symm.trans hf) |>.symm
  obtain rfl : fn = Tryd.f6 := (Option.some.inj (Tryd.func6.symm.trans hfn)).symm
  exact fun j t ht => by
    rw [Tryd.params6] at ht
    have hm : t ∈ [9, 9, 3] := by simpa using Array.mem_of_getElem? ht
    have hall : ([9, 9, 3].all fun u => !Tryd.prog.wantsStandIn u) = true := by kernel_rfl
    exact (show Tryd.prog.wantsStandIn t = false by simpa using List.all_eq_true.1 hall t hm)
/-- THE CARD -/
theorem card : Rows.WireFramesUptoCardSaid :=
  Claim7.holds_tied_plain_at .later [] _ _ _ _ said (fun _ h => by cases h) (by kernel_rfl) (fun _ h => by cases h) wireFramesUpto_row_tie rfl ⟨rfl, rfl⟩ (by kernel_rfl) rfl (fun f fn hf hfn => ⟨by kernel_rfl, plain f fn hf hfn⟩) (by kernel_rfl)

end Go.Proofs.YteengjmjbfgkeaaDoor.fnWireFrames
