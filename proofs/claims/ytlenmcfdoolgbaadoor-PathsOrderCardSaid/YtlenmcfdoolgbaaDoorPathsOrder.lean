/- PathsOrder: the order of paths is the document's, and a total order in which what is within stands behind. -/
import Derived.Test.YtlenmcfdoolgbaaDoorPathS

import Derived.Test.YtlenmcfdoolgbaaDoorLawEnd

import Derived.Test.YtlenmcfdoolgbaaDoorPathLaid

namespace Go.Proofs.YtlenmcfdoolgbaaDoor.fnPathsOrder
open Go.ChangeShapes Go.WideShapes Go.ChangeAt Go.RowKit Go.WideMaps Go.WideElems
open Go.ChangeMaps (open_string)

theorem ord_zero (a b : ByteArray) : (Path.oi (ordOf a b) = 0) ↔ a = b := (Path.cp_zero (Ls a) (Ls b)).trans ⟨same_of, fun h => by rw [h]⟩
theorem ord_swap (a b : ByteArray) : Path.oi (ordOf b a) = - Path.oi (ordOf a b) := by
  unfold ordOf
  rw [Path.cp_swap (Ls b) (Ls a), Path.oi_swap]
theorem ord_le {a b c : ByteArray} (h1 : Path.oi (ordOf a b) ≤ 0) (h2 : Path.oi (ordOf b c) ≤ 0) : Path.oi (ordOf a c) ≤ 0 := by
  rw [Path.oi_le] at *
  exact Path.cp_le h1 h2
theorem ord_ge {a b : ByteArray} (h : Path.wi (Path.pp (Ls a)) (Path.pp (Ls b)) = true) : 0 ≤ Path.oi (ordOf a b) := Path.wi_ge h
theorem ord_bd (a b : ByteArray) : -1 ≤ Path.oi (ordOf a b) ∧ Path.oi (ordOf a b) ≤ 1 := by
  cases ordOf a b <;> decide
set_option maxHeartbeats 4000000 in
theorem walk (a b c : ByteArray) (w : World) (ha0 : a.size ≤ 140737488351232) (hb0 : b.size ≤ 140737488351232) (hc0 : c.size ≤ 140737488351232) :
    Calls Tryd.prog 5 #[.string a, .string b, .string c] w fun e w' => e = .returned (.bool true) ∧ Below w.heap.size w w' := by
  have ha : a.size ≤ maxLen := by unfold maxLen; omega
  have hb : b.size ≤ maxLen := by unfold maxLen; omega
  have hc : c.size ≤ maxLen := by unfold maxLen; omega
  clear ha0 hb0 hc0
  have h0 : Since w w := Lib.hid (Below.refl _ _)
  have CX := fun (w' : World) (h : Since w w') => compare_S a b ha hb w' h
  have CY := fun (w' : World) (h : Since w w') => compare_S b c hb hc w' h
  have CZ := fun (w' : World) (h : Since w w') => compare_S a c ha hc w' h
  have CB := fun (w' : World) (h : Since w w') => compare_S b a hb ha w' h
  have CR := fun (w' : World) (h : Since w w') => rcompare_S a b ha hb w' h
  have CW := fun (w' : World) (h : Since w w') => within_S a b ha hb w' h
  have CV := fun (w' : World) (h : Since w w') => rwithin_S a b ha hb w' h
  have hz := ord_zero a b
  have hsw := ord_swap a b
  have hle := @ord_le a b c
  have hge := @ord_ge a b
  have hbx := ord_bd a b
  have hby := ord_bd b c
  have hbz := ord_bd a c
  rw [hsw] at CB
  generalize Path.oi (ordOf a b) = x at *
  generalize Path.oi (ordOf b c) = y at *
  generalize Path.oi (ordOf a c) = z at *
  generalize Path.wi (Path.pp (Ls a)) (Path.pp (Ls b)) = u at *
  have HL := Lib.hid hle
  have HG := Lib.hid hge
  have HZ := Lib.hid hz
  clear hle hge hz hsw
  have hx3 : x = -1 ∨ x = 0 ∨ x = 1 := by omega
  clear hbx hby hbz
  rcases hx3 with rfl | rfl | rfl
  · have hne : ¬ a = b := fun h => absurd (HZ.out.2 h) (by decide)
    have t1 : (a.toList == b.toList) = false := by rw [eq_Ls]; exact decide_eq_false (fun h => hne (same_of h))
    cases u
    · rcases Int.lt_or_le 0 y with hy | hy
      · clear hne
        go_enter Tryd.func5, Tryd.ntmps5
        go_wp2_with (fail)
        refine (speaks_S _ (by assumption)).mono ?_; rintro e w1 ⟨rfl, h1⟩
        go_wp2_with (fail)
        refine (CX _ (by assumption)).mono ?_; rintro e w2 ⟨rfl, h2⟩
        go_wp2_with (fail)
        refine (CY _ (by assumption)).mono ?_; rintro e w3 ⟨rfl, h3⟩
        go_wp2_with (fail)
        refine (CZ _ (by assumption)).mono ?_; rintro e w4 ⟨rfl, h4⟩
        go_wp2_with (fail)
        refine (CR _ (by assumption)).mono ?_; rintro e w5 ⟨rfl, h5⟩
        go_wp2_with (fail)
        refine (CW _ (by assumption)).mono ?_; rintro e w6 ⟨rfl, h6⟩
        go_wp2_with (fail)
        refine (CV _ (by assumption)).mono ?_; rintro e w7 ⟨rfl, h7⟩
        go_wp2_with (fail)
        refine (CB _ (by assumption)).mono ?_; rintro e w8 ⟨rfl, h8⟩
        go_wp2_with (fail)
        refine (CW _ (by assumption)).mono ?_; rintro e w9 ⟨rfl, h9⟩
        go_wp2
        go_ret
        exact ⟨rfl, h9.out⟩
      · have hz := HL.out (by decide) hy
        clear hne
        go_enter Tryd.func5, Tryd.ntmps5
        go_wp2_with (fail)
        refine (speaks_S _ (by assumption)).mono ?_; rintro e w1 ⟨rfl, h1⟩
        go_wp2_with (fail)
        refine (CX _ (by assumption)).mono ?_; rintro e w2 ⟨rfl, h2⟩
        go_wp2_with (fail)
        refine (CY _ (by assumption)).mono ?_; rintro e w3 ⟨rfl, h3⟩
        go_wp2_with (fail)
        refine (CZ _ (by assumption)).mono ?_; rintro e w4 ⟨rfl, h4⟩
        go_wp2_with (fail)
        refine (CR _ (by assumption)).mono ?_; rintro e w5 ⟨rfl, h5⟩
        go_wp2_with (fail)
        refine (CW _ (by assumption)).mono ?_; rintro e w6 ⟨rfl, h6⟩
        go_wp2_with (fail)
        refine (CV _ (by assumption)).mono ?_; rintro e w7 ⟨rfl, h7⟩
        go_wp2_with (fail)
        refine (CB _ (by assumption)).mono ?_; rintro e w8 ⟨rfl, h8⟩
        go_wp2_with (fail)
        refine (CW _ (by assumption)).mono ?_; rintro e w9 ⟨rfl, h9⟩
        go_wp2
        go_ret
        exact ⟨rfl, h9.out⟩
    · exact absurd (HG.out rfl) (by decide)
  · have hab := HZ.out.1 rfl
    subst hab
    rcases Int.lt_or_le 0 y with hy | hy
    · cases u
      · go_enter Tryd.func5, Tryd.ntmps5
        go_wp2_with (fail)
        refine (speaks_S _ (by assumption)).mono ?_; rintro e w1 ⟨rfl, h1⟩
        go_wp2_with (fail)
        refine (CX _ (by assumption)).mono ?_; rintro e w2 ⟨rfl, h2⟩
        go_wp2_with (fail)
        refine (CY _ (by assumption)).mono ?_; rintro e w3 ⟨rfl, h3⟩
        go_wp2_with (fail)
        refine (CZ _ (by assumption)).mono ?_; rintro e w4 ⟨rfl, h4⟩
        go_wp2_with (fail)
        refine (CR _ (by assumption)).mono ?_; rintro e w5 ⟨rfl, h5⟩
        go_wp2_with (fail)
        refine (CW _ (by assumption)).mono ?_; rintro e w6 ⟨rfl, h6⟩
        go_wp2_with (fail)
        refine (CV _ (by assumption)).mono ?_; rintro e w7 ⟨rfl, h7⟩
        go_wp2_with (fail)
        refine (CB _ (by assumption)).mono ?_; rintro e w8 ⟨rfl, h8⟩
        go_wp2_with (fail)
        refine (CW _ (by assumption)).mono ?_; rintro e w9 ⟨rfl, h9⟩
        go_wp2
        go_ret
        exact ⟨rfl, h9.out⟩
      · go_enter Tryd.func5, Tryd.ntmps5
        go_wp2_with (fail)
        refine (speaks_S _ (by assumption)).mono ?_; rintro e w1 ⟨rfl, h1⟩
        go_wp2_with (fail)
        refine (CX _ (by assumption)).mono ?_; rintro e w2 ⟨rfl, h2⟩
        go_wp2_with (fail)
        refine (CY _ (by assumption)).mono ?_; rintro e w3 ⟨rfl, h3⟩
        go_wp2_with (fail)
        refine (CZ _ (by assumption)).mono ?_; rintro e w4 ⟨rfl, h4⟩
        go_wp2_with (fail)
        refine (CR _ (by assumption)).mono ?_; rintro e w5 ⟨rfl, h5⟩
        go_wp2_with (fail)
        refine (CW _ (by assumption)).mono ?_; rintro e w6 ⟨rfl, h6⟩
        go_wp2_with (fail)
        refine (CV _ (by assumption)).mono ?_; rintro e w7 ⟨rfl, h7⟩
        go_wp2_with (fail)
        refine (CB _ (by assumption)).mono ?_; rintro e w8 ⟨rfl, h8⟩
        go_wp2_with (fail)
        refine (CW _ (by assumption)).mono ?_; rintro e w9 ⟨rfl, h9⟩
        go_wp2
        go_ret
        exact ⟨rfl, h9.out⟩
    · have hz := HL.out (by decide) hy
      cases u
      · go_enter Tryd.func5, Tryd.ntmps5
        go_wp2_with (fail)
        refine (speaks_S _ (by assumption)).mono ?_; rintro e w1 ⟨rfl, h1⟩
        go_wp2_with (fail)
        refine (CX _ (by assumption)).mono ?_; rintro e w2 ⟨rfl, h2⟩
        go_wp2_with (fail)
        refine (CY _ (by assumption)).mono ?_; rintro e w3 ⟨rfl, h3⟩
        go_wp2_with (fail)
        refine (CZ _ (by assumption)).mono ?_; rintro e w4 ⟨rfl, h4⟩
        go_wp2_with (fail)
        refine (CR _ (by assumption)).mono ?_; rintro e w5 ⟨rfl, h5⟩
        go_wp2_with (fail)
        refine (CW _ (by assumption)).mono ?_; rintro e w6 ⟨rfl, h6⟩
        go_wp2_with (fail)
        refine (CV _ (by assumption)).mono ?_; rintro e w7 ⟨rfl, h7⟩
        go_wp2_with (fail)
        refine (CB _ (by assumption)).mono ?_; rintro e w8 ⟨rfl, h8⟩
        go_wp2_with (fail)
        refine (CW _ (by assumption)).mono ?_; rintro e w9 ⟨rfl, h9⟩
        go_wp2
        go_ret
        exact ⟨rfl, h9.out⟩
      · go_enter Tryd.func5, Tryd.ntmps5
        go_wp2_with (fail)
        refine (speaks_S _ (by assumption)).mono ?_; rintro e w1 ⟨rfl, h1⟩
        go_wp2_with (fail)
        refine (CX _ (by assumption)).mono ?_; rintro e w2 ⟨rfl, h2⟩
        go_wp2_with (fail)
        refine (CY _ (by assumption)).mono ?_; rintro e w3 ⟨rfl, h3⟩
        go_wp2_with (fail)
        refine (CZ _ (by assumption)).mono ?_; rintro e w4 ⟨rfl, h4⟩
        go_wp2_with (fail)
        refine (CR _ (by assumption)).mono ?_; rintro e w5 ⟨rfl, h5⟩
        go_wp2_with (fail)
        refine (CW _ (by assumption)).mono ?_; rintro e w6 ⟨rfl, h6⟩
        go_wp2_with (fail)
        refine (CV _ (by assumption)).mono ?_; rintro e w7 ⟨rfl, h7⟩
        go_wp2_with (fail)
        refine (CB _ (by assumption)).mono ?_; rintro e w8 ⟨rfl, h8⟩
        go_wp2_with (fail)
        refine (CW _ (by assumption)).mono ?_; rintro e w9 ⟨rfl, h9⟩
        go_wp2
        go_ret
        exact ⟨rfl, h9.out⟩
  · have hne : ¬ a = b := fun h => absurd (HZ.out.2 h) (by decide)
    have t1 : (a.toList == b.toList) = false := by rw [eq_Ls]; exact decide_eq_false (fun h => hne (same_of h))
    clear hne
    cases u
    · go_enter Tryd.func5, Tryd.ntmps5
      go_wp2_with (fail)
      refine (speaks_S _ (by assumption)).mono ?_; rintro e w1 ⟨rfl, h1⟩
      go_wp2_with (fail)
      refine (CX _ (by assumption)).mono ?_; rintro e w2 ⟨rfl, h2⟩
      go_wp2_with (fail)
      refine (CY _ (by assumption)).mono ?_; rintro e w3 ⟨rfl, h3⟩
      go_wp2_with (fail)
      refine (CZ _ (by assumption)).mono ?_; rintro e w4 ⟨rfl, h4⟩
      go_wp2_with (fail)
      refine (CR _ (by assumption)).mono ?_; rintro e w5 ⟨rfl, h5⟩
      go_wp2_with (fail)
      refine (CW _ (by assumption)).mono ?_; rintro e w6 ⟨rfl, h6⟩
      go_wp2_with (fail)
      refine (CV _ (by assumption)).mono ?_; rintro e w7 ⟨rfl, h7⟩
      go_wp2_with (fail)
      refine (CB _ (by assumption)).mono ?_; rintro e w8 ⟨rfl, h8⟩
      go_wp2_with (fail)
      refine (CW _ (by assumption)).mono ?_; rintro e w9 ⟨rfl, h9⟩
      go_wp2
      go_ret
      exact ⟨rfl, h9.out⟩
    · go_enter Tryd.func5, Tryd.ntmps5
      go_wp2_with (fail)
      refine (speaks_S _ (by assumption)).mono ?_; rintro e w1 ⟨rfl, h1⟩
      go_wp2_with (fail)
      refine (CX _ (by assumption)).mono ?_; rintro e w2 ⟨rfl, h2⟩
      go_wp2_with (fail)
      refine (CY _ (by assumption)).mono ?_; rintro e w3 ⟨rfl, h3⟩
      go_wp2_with (fail)
      refine (CZ _ (by assumption)).mono ?_; rintro e w4 ⟨rfl, h4⟩
      go_wp2_with (fail)
      refine (CR _ (by assumption)).mono ?_; rintro e w5 ⟨rfl, h5⟩
      go_wp2_with (fail)
      refine (CW _ (by assumption)).mono ?_; rintro e w6 ⟨rfl, h6⟩
      go_wp2_with (fail)
      refine (CV _ (by assumption)).mono ?_; rintro e w7 ⟨rfl, h7⟩
      go_wp2_with (fail)
      refine (CB _ (by assumption)).mono ?_; rintro e w8 ⟨rfl, h8⟩
      go_wp2_with (fail)
      refine (CW _ (by assumption)).mono ?_; rintro e w9 ⟨rfl, h9⟩
      go_wp2
      go_ret
      exact ⟨rfl, h9.out⟩

theorem contract (H : Type) (enc : TypeId × Value → H) (W : World) (base : Nat) (args : Array Value) (ds gs : List (DataW H)) (before : List MemPlace)
    (hval : ∀ (j : Nat) t v, Tryd.f5.params[j]? = some t → args[j]? = some v → Value.okWide Tryd.prog W .any base t v)
    (hW : DataW.Whole enc Tryd.prog Tryd.f5.params.toList Rows.pathsOrderSpec.vars false W args.toList ds gs before) (hL : laidMetH Tryd.prog Rows.pathsOrderRow.laid W)
    (hz : (DataW.weightsEach Tryd.prog (Tryd.f5.params.toList ++ []) (ds ++ gs)).all (· ≤ reachBytes) = true) :
    Calls Tryd.prog 5 args W fun e W' => ∃ v, e = .returned v ∧ Rows.pathsOrderSpec.post enc Tryd.prog Tryd.f5 false true false false W args v W' := by
  have hW' := hW
  obtain ⟨p, q, hA0, hV, rfl, hfz, hnd⟩ := hW
  have hA : DataW.TrodAll enc Tryd.prog W 0 (fun _ => true) true Tryd.f5.params.toList args.toList ds p := hA0
  rw [Tryd.params5] at hA hval hz
  obtain ⟨v0, vs0, d0, ds0, p0, q0, hargs, rfl, rfl, h0, r0⟩ := trodAll_cons hA
  obtain ⟨v1, vs1, d1, ds1, p1, q1, rfl, rfl, rfl, h1, r1⟩ := trodAll_cons r0
  obtain ⟨v2, vs2, d2, ds2, p2, q2, rfl, rfl, rfl, h2, r2⟩ := trodAll_cons r1
  obtain ⟨rfl, rfl, rfl⟩ := trodAll_nil r2
  obtain rfl : args = #[v0, v1, v2] := by cases args; simp_all
  obtain ⟨rfl, rfl⟩ := trodVars_none hV
  obtain ⟨x0, rfl, rfl, rfl, w0⟩ := open_string Tryd.underlying9 (hval 0 9 v0 rfl rfl) h0
  have b0 : x0.size ≤ 140737488351232 := by have := sized_string hz (j := 0) (t := 9) rfl rfl; simpa [reachBytes] using this
  obtain ⟨x1, rfl, rfl, rfl, w1⟩ := open_string Tryd.underlying9 (hval 1 9 v1 rfl rfl) h1
  have b1 : x1.size ≤ 140737488351232 := by have := sized_string hz (j := 1) (t := 9) rfl rfl; simpa [reachBytes] using this
  obtain ⟨x2, rfl, rfl, rfl, w2⟩ := open_string Tryd.underlying9 (hval 2 9 v2 rfl rfl) h2
  have b2 : x2.size ≤ 140737488351232 := by have := sized_string hz (j := 2) (t := 9) rfl rfl; simpa [reachBytes] using this
  clear hA0
  refine (walk x0 x1 x2 W b0 b1 b2).mono fun e W' ⟨he, hb⟩ => ?_
  subst he
  exact ⟨_, rfl, law_end hW' rfl rfl hb laidOut (by kernel_rfl) (by kernel_rfl) Tryd.underlying4⟩

theorem reads (os : Os) {H : Type} (enc : TypeId × Value → H) : ∃ places, DataW.whole enc Tryd.prog ((laidWorld os).forCall (fun _ _ => 0) ⟨#[], #[.string ⟨#[]⟩, .string ⟨#[]⟩, .string ⟨#[]⟩], []⟩).memory Tryd.f5.params.toList Rows.pathsOrderSpec.vars false [Value.string ⟨#[]⟩, Value.string ⟨#[]⟩, Value.string ⟨#[]⟩] 8 = some ([.lit (.string []), .lit (.string []), .lit (.string [])], [], places) :=
  ⟨[], by kernel_rfl⟩

set_option maxRecDepth 100000 in
theorem lifted (os : Os) (started : os.Started) (H : Type) (enc : TypeId × Value → H) (F : Stop.Interp) :
    ReturnsInHanded {} Tryd.checked os 5 .any ((OpenSpec.ofChange Rows.pathsOrderSpec).preRow enc Tryd.prog Tryd.f5 Rows.pathsOrderRow.domain false Rows.pathsOrderRow.laid) (((OpenSpec.ofChange Rows.pathsOrderSpec).at F).post enc Tryd.prog Tryd.f5 false true false false) := by
  obtain ⟨places, hx⟩ := reads os enc
  have laid_met : laidMet Tryd.prog Rows.pathsOrderRow.laid ((laidWorld os).forCall (fun _ _ => 0) ⟨#[], #[.string ⟨#[]⟩, .string ⟨#[]⟩, .string ⟨#[]⟩], []⟩).memory := (laidMet_of_run' 8 (by kernel_rfl) (by kernel_rfl))
  refine returnsInHanded_of_row (C := Tryd.checked) (s := OpenSpec.ofChange Rows.pathsOrderSpec) own started (by kernel_rfl) Tryd.func5
    (witness_row_at (enc := enc) (C := Tryd.checked) false (laidWorld os) #[.string ⟨#[]⟩, .string ⟨#[]⟩, .string ⟨#[]⟩] rfl (by kernel_rfl) (by kernel_rfl) (by kernel_rfl)
      (OpenSpec.preRow_of_cond 8 hx (by kernel_rfl) (fun k hk => by cases hk) (by kernel_rfl) laid_met)) ?_
  intro W base args ds gs before hval hW _ _ hz hL _ _
  exact contract H enc W base args ds gs before hval hW hL hz

theorem said : Rows.PathsOrderSaid :=
  OpenClaim.holds_of_cond 5 Tryd.f5 rfl rfl rfl rfl rfl rfl rfl ⟨rfl, rfl, rfl, rfl, rfl⟩ rfl rfl rfl rfl rfl (by kernel_rfl) Tryd.func5 (by kernel_rfl)
    (of_decide_eq_true (by kernel_rfl)) (by unfold Func.isWrapper; first | (rw [if_pos (by decide +kernel)]; kernel_rfl) | (rw [if_neg (by decide +kernel)]; exact ⟨rfl, rfl⟩))
    (fun os started H enc _ F => by rw [OpenClaim.pre_eq_preRow]; exact lifted os started H enc F)

theorem plain (f : FuncId) (fn : Func) (hf : Tryd.pinned.checked.prog.funcNamed "mahout/mahoutlaw06.PathsOrder" = some f) (hfn : Tryd.pinned.checked.prog.funcs[f]? = some fn) :
    ∀ (j : Nat) t, fn.params[j]? = some t → Tryd.pinned.checked.prog.wantsStandIn t = false := by
  obtain rfl : f = 5 := Option.some.inj ((show Tryd.prog.funcNamed "mahout/mahoutlaw06.PathsOrder" = some 5 by kernel_rfl).symm.trans hf) |>.symm
  obtain rfl : fn = Tryd.f5 := (Option.some.inj (Tryd.func5.symm.trans hfn)).symm
  exact fun j t ht => by
    rw [Tryd.params5] at ht
    have hm : t ∈ [9, 9, 9] := by simpa using Array.mem_of_getElem? ht
    have hall : ([9, 9, 9].all fun u => !Tryd.prog.wantsStandIn u) = true := by kernel_rfl
    exact (show Tryd.prog.wantsStandIn t = false by simpa using List.all_eq_true.1 hall t hm)
/-- THE CARD -/
theorem card : Rows.PathsOrderCardSaid :=
  Claim7.holds_tied_plain_at .later [] _ _ _ _ said (fun _ h => by cases h) (by kernel_rfl) (fun _ h => by cases h) pathsOrder_row_tie rfl ⟨rfl, rfl⟩ (by kernel_rfl) rfl (fun f fn hf hfn => ⟨by kernel_rfl, plain f fn hf hfn⟩) (by kernel_rfl)

end Go.Proofs.YtlenmcfdoolgbaaDoor.fnPathsOrder
