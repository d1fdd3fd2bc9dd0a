/- CrcExtends is true for every two texts: a sum taken in two steps, and one put together by Join, are the sum of the two texts joined. No conditions beyond the card's own. -/
import Derived.Test.YtfgmeeoldcfjbaaDoorCrcFnsB

import Derived.Test.YtfgmeeoldcfjbaaDoorLawEnd

import Derived.Test.YtfgmeeoldcfjbaaDoorCrcLaid

namespace Go.Proofs.YtfgmeeoldcfjbaaDoor.fnCrcExtends
open Go.ChangeShapes Go.WideShapes Go.ChangeAt Go.RowKit Go.WideMaps Go.WideElems
open Go.ChangeMaps (open_string)

theorem data_append (s t : ByteArray) : (s ++ t).data.toList = s.data.toList ++ t.data.toList := by rw [ByteArray.data_append, Array.toList_append]
theorem walk (s t : ByteArray) (w : World) (hh : Half w) (hs : s.size ≤ 140737488351232) (ht : t.size ≤ 140737488351232) :
    Calls Tryd.prog 4 #[.string s, .string t] w fun e w' => e = .returned (.bool true) ∧ Below w.heap.size w w' := by
  have hm : s.size ≤ maxLen := by unfold maxLen; omega
  have hn : t.size ≤ maxLen := by unfold maxLen; omega
  have hmn : (s ++ t).size ≤ maxLen := by rw [ByteArray.size_append]; unfold maxLen; omega
  have e1 : Crc.ext (Crc.sum s.data.toList) t.data.toList = Crc.sum (s ++ t).data.toList := by rw [data_append]; exact Crc.ext_ext _ _ _
  have E2 := Lib.hid (show Crc.zs t.size (Crc.sum s.data.toList) ^^^ Crc.sum t.data.toList = Crc.sum (s ++ t).data.toList by rw [data_append]; exact Crc.join_eq _ _)
  have t1 : (U (Crc.sum (s ++ t).data.toList) != U (Crc.sum (s ++ t).data.toList)) = false := by simp
  by_cases hj : t.size ≤ 65536
  · go_enter Tryd.func4, Tryd.ntmps4
    go_wp2_with (first | (go_at_call 12; refine (speaks1_any _ hh).mono ?_; rintro e w' ⟨rfl, rfl⟩) | (go_at_call 13; first | (refine (sum_any s _ hh hm).mono ?_; rintro e w' ⟨rfl, rfl⟩) | (refine (sum_any t _ hh hn).mono ?_; rintro e w' ⟨rfl, rfl⟩) | (refine (sum_any (s ++ t) _ hh hmn).mono ?_; rintro e w' ⟨rfl, rfl⟩)) | (go_at_call 15; refine (extend_any _ _ _ hh hn).mono ?_; rintro e w' ⟨rfl, rfl⟩; rw [e1]) | (go_at_call 17; refine (join_yes _ _ _ _ hh hj).mono ?_; rintro e w' ⟨rfl, rfl⟩; rw [E2.out]))
    go_ret
    exact ⟨rfl, Below.refl _ _⟩
  · have hj' : (t.size : Int) < 0 ∨ 65536 < (t.size : Int) := by omega
    have HJ := Lib.hid hj'
    clear hj'
    go_enter Tryd.func4, Tryd.ntmps4
    go_wp2_with (first | (go_at_call 12; refine (speaks1_any _ hh).mono ?_; rintro e w' ⟨rfl, rfl⟩) | (go_at_call 13; first | (refine (sum_any s _ hh hm).mono ?_; rintro e w' ⟨rfl, rfl⟩) | (refine (sum_any t _ hh hn).mono ?_; rintro e w' ⟨rfl, rfl⟩) | (refine (sum_any (s ++ t) _ hh hmn).mono ?_; rintro e w' ⟨rfl, rfl⟩)) | (go_at_call 15; refine (extend_any _ _ _ hh hn).mono ?_; rintro e w' ⟨rfl, rfl⟩; rw [e1]) | (go_at_call 17; refine (join_no _ _ _ _ HJ.out).mono ?_; rintro e w' ⟨rfl, rfl⟩))
    go_ret
    exact ⟨rfl, Below.refl _ _⟩

theorem contract (H : Type) (enc : TypeId × Value → H) (W : World) (base : Nat) (args : Array Value) (ds gs : List (DataW H)) (before : List MemPlace)
    (hval : ∀ (j : Nat) t v, Tryd.f4.params[j]? = some t → args[j]? = some v → Value.okWide Tryd.prog W .any base t v)
    (hW : DataW.Whole enc Tryd.prog Tryd.f4.params.toList Rows.crcExtendsSpec.vars false W args.toList ds gs before) (hL : laidMetH Tryd.prog Rows.crcExtendsRow.laid W)
    (hz : (DataW.weightsEach Tryd.prog (Tryd.f4.params.toList ++ []) (ds ++ gs)).all (· ≤ reachBytes) = true) :
    Calls Tryd.prog 4 args W fun e W' => ∃ v, e = .returned v ∧ Rows.crcExtendsSpec.post enc Tryd.prog Tryd.f4 false true false false W args v W' := by
  have hW' := hW
  obtain ⟨p, q, hA0, hV, rfl, hfz, hnd⟩ := hW
  have hA : DataW.TrodAll enc Tryd.prog W 0 (fun _ => true) true Tryd.f4.params.toList args.toList ds p := hA0
  rw [Tryd.params4] at hA hval hz
  obtain ⟨v0, vs0, d0, ds0, p0, q0, hargs, rfl, rfl, h0, r0⟩ := trodAll_cons hA
  obtain ⟨v1, vs1, d1, ds1, p1, q1, rfl, rfl, rfl, h1, r1⟩ := trodAll_cons r0
  obtain ⟨rfl, rfl, rfl⟩ := trodAll_nil r1
  obtain rfl : args = #[v0, v1] := by cases args; simp_all
  obtain ⟨rfl, rfl⟩ := trodVars_none hV
  obtain ⟨x0, rfl, rfl, rfl, w0⟩ := open_string Tryd.underlying9 (hval 0 9 v0 rfl rfl) h0
  have b0 : x0.size ≤ 140737488351232 := by have := sized_string hz (j := 0) (t := 9) rfl rfl; simpa [reachBytes] using this
  obtain ⟨x1, rfl, rfl, rfl, w1⟩ := open_string Tryd.underlying9 (hval 1 9 v1 rfl rfl) h1
  have b1 : x1.size ≤ 140737488351232 := by have := sized_string hz (j := 1) (t := 9) rfl rfl; simpa [reachBytes] using this
  clear hA0
  refine (walk x0 x1 W (half_of hL) b0 b1).mono fun e W' ⟨he, hb⟩ => ?_
  subst he
  exact ⟨_, rfl, law_end hW' rfl rfl hb laidOut (by kernel_rfl) (by kernel_rfl) Tryd.underlying4⟩

theorem reads (os : Os) {H : Type} (enc : TypeId × Value → H) : ∃ places, DataW.whole enc Tryd.prog ((laidWorld os).forCall (fun _ _ => 0) ⟨#[], #[.string ⟨#[]⟩, .string ⟨#[]⟩], []⟩).memory Tryd.f4.params.toList Rows.crcExtendsSpec.vars false [Value.string ⟨#[]⟩, Value.string ⟨#[]⟩] 8 = some ([.lit (.string []), .lit (.string [])], [], places) :=
  ⟨[], by kernel_rfl⟩

set_option maxRecDepth 100000 in
theorem lifted (os : Os) (started : os.Started) (H : Type) (enc : TypeId × Value → H) (F : Stop.Interp) :
    ReturnsInHanded {} Tryd.checked os 4 .any ((OpenSpec.ofChange Rows.crcExtendsSpec).preRow enc Tryd.prog Tryd.f4 Rows.crcExtendsRow.domain false Rows.crcExtendsRow.laid) (((OpenSpec.ofChange Rows.crcExtendsSpec).at F).post enc Tryd.prog Tryd.f4 false true false false) := by
  obtain ⟨places, hx⟩ := reads os enc
  have laid_met : laidMet Tryd.prog Rows.crcExtendsRow.laid ((laidWorld os).forCall (fun _ _ => 0) ⟨#[], #[.string ⟨#[]⟩, .string ⟨#[]⟩], []⟩).memory := (laidMet_of_run' 8 (by kernel_rfl) (by kernel_rfl))
  refine returnsInHanded_of_row (C := Tryd.checked) (s := OpenSpec.ofChange Rows.crcExtendsSpec) own started (by kernel_rfl) Tryd.func4
    (witness_row_at (enc := enc) (C := Tryd.checked) false (laidWorld os) #[.string ⟨#[]⟩, .string ⟨#[]⟩] rfl (by kernel_rfl) (by kernel_rfl) (by kernel_rfl)
      (OpenSpec.preRow_of_cond 8 hx (by kernel_rfl) (fun k hk => by cases hk) (by kernel_rfl) laid_met)) ?_
  intro W base args ds gs before hval hW _ _ hz hL _ _
  exact contract H enc W base args ds gs before hval hW hL hz

theorem said : Rows.CrcExtendsSaid :=
  OpenClaim.holds_of_cond 4 Tryd.f4 rfl rfl rfl rfl rfl rfl rfl ⟨rfl, rfl, rfl, rfl, rfl⟩ rfl rfl rfl rfl rfl (by kernel_rfl) Tryd.func4 (by kernel_rfl)
    (of_decide_eq_true (by kernel_rfl)) (by unfold Func.isWrapper; first | (rw [if_pos (by decide +kernel)]; kernel_rfl) | (rw [if_neg (by decide +kernel)]; exact ⟨rfl, rfl⟩))
    (fun os started H enc _ F => by rw [OpenClaim.pre_eq_preRow]; exact lifted os started H enc F)

theorem plain (f : FuncId) (fn : Func) (hf : Tryd.pinned.checked.prog.funcNamed "mahout/mahoutlaw01.CrcExtends" = some f) (hfn : Tryd.pinned.checked.prog.funcs[f]? = some fn) :
    false = Tryd.pinned.checked.prog.looks [] ∧ ∀ (j : Nat) t, fn.params[j]? = some t → Tryd.pinned.checked.prog.wantsStandIn t = false := by
  obtain rfl : f = 4 := Option.some.inj ((show Tryd.prog.funcNamed "mahout/mahoutlaw01.CrcExtends" = some 4 by kernel_rfl).symm.trans hf) |>.symm
  obtain rfl : fn = Tryd.f4 := (Option.some.inj (Tryd.func4.symm.trans hfn)).symm
  exact ⟨by kernel_rfl, fun j t ht => by
    rw [Tryd.params4] at ht
    have hm : t ∈ [9, 9] := by simpa using Array.mem_of_getElem? ht
    have hall : ([9, 9].all fun u => !Tryd.prog.wantsStandIn u) = true := by kernel_rfl
    exact (show Tryd.prog.wantsStandIn t = false by simpa using List.all_eq_true.1 hall t hm)⟩
/-- THE CARD -/
theorem card : Rows.CrcExtendsCardSaid :=
  Claim7.holds_tied_plain_at .later [] _ _ _ _ said (fun _ h => by cases h) (by kernel_rfl) (fun _ h => by cases h) crcExtends_row_tie rfl ⟨rfl, rfl⟩ (by kernel_rfl) rfl plain (by kernel_rfl)

end Go.Proofs.YtfgmeeoldcfjbaaDoor.fnCrcExtends
