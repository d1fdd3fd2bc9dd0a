/- PathsWithin: being within is an order of paths, whatever the texts. -/
import Derived.Test.YtlenmcfdoolgbaaDoorPathS

import Derived.Test.YtlenmcfdoolgbaaDoorLawEnd

import Derived.Test.YtlenmcfdoolgbaaDoorPathLaid

namespace Go.Proofs.YtlenmcfdoolgbaaDoor.fnPathsWithin
open Go.ChangeShapes Go.WideShapes Go.ChangeAt Go.RowKit Go.WideMaps Go.WideElems
open Go.ChangeMaps (open_string)

set_option maxHeartbeats 4000000 in
theorem walk (a b c : ByteArray) (w : World) (ha0 : a.size ≤ 140737488351232) (hb0 : b.size ≤ 140737488351232) (hc0 : c.size ≤ 140737488351232) :
    Calls Tryd.prog 7 #[.string a, .string b, .string c] w fun e w' => e = .returned (.bool true) ∧ Below w.heap.size w w' := by
  have ha : a.size ≤ maxLen := by unfold maxLen; omega
  have hb : b.size ≤ maxLen := by unfold maxLen; omega
  have hc : c.size ≤ maxLen := by unfold maxLen; omega
  clear ha0 hb0 hc0
  have h0 : Since w w := Lib.hid (Below.refl _ _)
  have htr : ∀ {x y z : Option (List Path.Bs)}, Path.wi x y = true → Path.wi y z = true → Path.wi x z = true := Path.wi_trans
  have hself := Path.wi_self (Path.pp (Ls a))
  have hroot : (Path.pp (Ls a)).isSome = true → Path.wi (Path.pp (Ls a)) (Path.pp (Ls ⟨#[47]⟩)) = true := fun h => Path.wi_root h
  rcases hp : (Path.pp (Ls a)).isSome with _ | _
  · have e1 : Path.wi (Path.pp (Ls a)) (Path.pp (Ls a)) = false := by rw [hself, hp]
    have e2 : ckOf (Path.pp (Ls a)) = 60 := ckOf_none hp
    have hn : Path.pp (Ls a) = none := by simpa using hp
    have e3 : Path.wi (Path.pp (Ls a)) (Path.pp (Ls b)) = false := by rw [hn]; rfl
    clear htr hself hroot hp hn
    go_enter Tryd.func7, Tryd.ntmps7
    go_wp2_with (first
      | (go_at_call 8; refine (speaks_S _ (by assumption)).mono ?_; rintro e w' ⟨rfl, h1⟩)
      | (go_at_call 19; refine (within_S _ _ (by first | assumption | decide) (by first | assumption | decide) _ (by assumption)).mono ?_; rintro e w' ⟨rfl, h2⟩)
      | (go_at_call 11; refine (check_S _ (by assumption) _ (by assumption)).mono ?_; rintro e w' ⟨rfl, h3⟩))
    go_ret
    refine ⟨rfl, ?_⟩
    exact Hid.out (by assumption)
  · have e1 : Path.wi (Path.pp (Ls a)) (Path.pp (Ls a)) = true := by rw [hself, hp]
    have e2 : ckOf (Path.pp (Ls a)) = 0 := ckOf_some hp
    have e4 : Path.wi (Path.pp (Ls a)) (Path.pp (Ls ⟨#[47]⟩)) = true := hroot hp
    clear hself hroot hp
    rcases hab : Path.wi (Path.pp (Ls a)) (Path.pp (Ls b)) with _ | _
    · clear htr
      go_enter Tryd.func7, Tryd.ntmps7
      go_wp2_with (first
        | (go_at_call 8; refine (speaks_S _ (by assumption)).mono ?_; rintro e w' ⟨rfl, h1⟩)
        | (go_at_call 19; refine (within_S _ _ (by first | assumption | decide) (by first | assumption | decide) _ (by assumption)).mono ?_; rintro e w' ⟨rfl, h2⟩)
        | (go_at_call 11; refine (check_S _ (by assumption) _ (by assumption)).mono ?_; rintro e w' ⟨rfl, h3⟩))
      go_ret
      refine ⟨rfl, ?_⟩
      exact Hid.out (by assumption)
    · have hbc : ∃ u v, Path.wi (Path.pp (Ls b)) (Path.pp (Ls c)) = u ∧ Path.wi (Path.pp (Ls a)) (Path.pp (Ls c)) = v ∧ (u = true → v = true) := ⟨_, _, rfl, rfl, fun h => htr hab h⟩
      have hba : Path.wi (Path.pp (Ls b)) (Path.pp (Ls a)) = false ∨ Path.wi (Path.pp (Ls b)) (Path.pp (Ls a)) = true ∧ a = b := by
        rcases h : Path.wi (Path.pp (Ls b)) (Path.pp (Ls a)) with _ | _
        · exact .inl rfl
        · obtain ⟨x, h1, h2⟩ := Path.wi_both hab h
          exact .inr ⟨rfl, same_of (Path.pp_inj h1 h2)⟩
      clear htr
      obtain ⟨u, v, hu, hv, huv⟩ := hbc
      cases u
      · clear huv hv
        rcases hba with hba | ⟨hba, rfl⟩
        · go_enter Tryd.func7, Tryd.ntmps7
          go_wp2_with (first
            | (go_at_call 8; refine (speaks_S _ (by assumption)).mono ?_; rintro e w' ⟨rfl, h1⟩)
            | (go_at_call 19; refine (within_S _ _ (by first | assumption | decide) (by first | assumption | decide) _ (by assumption)).mono ?_; rintro e w' ⟨rfl, h2⟩)
            | (go_at_call 11; refine (check_S _ (by assumption) _ (by assumption)).mono ?_; rintro e w' ⟨rfl, h3⟩))
          go_ret
          refine ⟨rfl, ?_⟩
          exact Hid.out (by assumption)
        · go_enter Tryd.func7, Tryd.ntmps7
          go_wp2_with (first
            | (go_at_call 8; refine (speaks_S _ (by assumption)).mono ?_; rintro e w' ⟨rfl, h1⟩)
            | (go_at_call 19; refine (within_S _ _ (by first | assumption | decide) (by first | assumption | decide) _ (by assumption)).mono ?_; rintro e w' ⟨rfl, h2⟩)
            | (go_at_call 11; refine (check_S _ (by assumption) _ (by assumption)).mono ?_; rintro e w' ⟨rfl, h3⟩))
          go_ret
          refine ⟨rfl, ?_⟩
          exact Hid.out (by assumption)
      · have hv1 := huv rfl
        rw [hv1] at hv
        clear huv hv1
        rcases hba with hba | ⟨hba, rfl⟩
        · go_enter Tryd.func7, Tryd.ntmps7
          go_wp2_with (first
            | (go_at_call 8; refine (speaks_S _ (by assumption)).mono ?_; rintro e w' ⟨rfl, h1⟩)
            | (go_at_call 19; refine (within_S _ _ (by first | assumption | decide) (by first | assumption | decide) _ (by assumption)).mono ?_; rintro e w' ⟨rfl, h2⟩)
            | (go_at_call 11; refine (check_S _ (by assumption) _ (by assumption)).mono ?_; rintro e w' ⟨rfl, h3⟩))
          go_ret
          refine ⟨rfl, ?_⟩
          exact Hid.out (by assumption)
        · go_enter Tryd.func7, Tryd.ntmps7
          go_wp2_with (first
            | (go_at_call 8; refine (speaks_S _ (by assumption)).mono ?_; rintro e w' ⟨rfl, h1⟩)
            | (go_at_call 19; refine (within_S _ _ (by first | assumption | decide) (by first | assumption | decide) _ (by assumption)).mono ?_; rintro e w' ⟨rfl, h2⟩)
            | (go_at_call 11; refine (check_S _ (by assumption) _ (by assumption)).mono ?_; rintro e w' ⟨rfl, h3⟩))
          go_ret
          refine ⟨rfl, ?_⟩
          exact Hid.out (by assumption)

theorem contract (H : Type) (enc : TypeId × Value → H) (W : World) (base : Nat) (args : Array Value) (ds gs : List (DataW H)) (before : List MemPlace)
    (hval : ∀ (j : Nat) t v, Tryd.f7.params[j]? = some t → args[j]? = some v → Value.okWide Tryd.prog W .any base t v)
    (hW : DataW.Whole enc Tryd.prog Tryd.f7.params.toList Rows.pathsWithinSpec.vars false W args.toList ds gs before) (hL : laidMetH Tryd.prog Rows.pathsWithinRow.laid W)
    (hz : (DataW.weightsEach Tryd.prog (Tryd.f7.params.toList ++ []) (ds ++ gs)).all (· ≤ reachBytes) = true) :
    Calls Tryd.prog 7 args W fun e W' => ∃ v, e = .returned v ∧ Rows.pathsWithinSpec.post enc Tryd.prog Tryd.f7 false true false false W args v W' := by
  have hW' := hW
  obtain ⟨p, q, hA0, hV, rfl, hfz, hnd⟩ := hW
  have hA : DataW.TrodAll enc Tryd.prog W 0 (fun _ => true) true Tryd.f7.params.toList args.toList ds p := hA0
  rw [Tryd.params7] at hA hval hz
  obtain ⟨v0, vs0, d0, ds0, p0, q0, hargs, rfl, rfl, h0, r0⟩ := trodAll_cons hA
  obtain ⟨v1, vs1, d1, ds1, p1, q1, rfl, rfl, rfl, h1, r1⟩ := trodAll_cons r0
  obtain ⟨v2, vs2, d2, ds2, p2, q2, rfl, rfl, rfl, h2, r2⟩ := trodAll_cons r1
  obtain ⟨rfl, rfl, rfl⟩ := trodAll_nil r2
  obtain rfl : args = #[v0, v1, v2] := by cases args; simp_all
  obtain ⟨rfl, rfl⟩ := trodVars_none hV
  obtain ⟨x0, rfl, rfl, rfl, w0⟩ := open_string Tryd.underlying9 (hval 0 9 v0 rfl rfl) h0
  have b0 : x0.size ≤ 140737488351232 := by have := sized_string hz (j := 0) (t := 9) rfl rfl; simpa [reachBytes] using this
  obtain ⟨x1, rfl, rfl, rfl, w1⟩ := open_string Tryd.underlying9 (hval 1 9 v1 rfl rfl) h1
  have b1 : x1.size ≤ 140737488351232 := by have := sized_string hz (j := 1) (t := 9) rfl rfl; simpa [reachBytes] using this
  obtain ⟨x2, rfl, rfl, rfl, w2⟩ := open_string Tryd.underlying9 (hval 2 9 v2 rfl rfl) h2
  have b2 : x2.size ≤ 140737488351232 := by have := sized_string hz (j := 2) (t := 9) rfl rfl; simpa [reachBytes] using this
  clear hA0
  refine (walk x0 x1 x2 W b0 b1 b2).mono fun e W' ⟨he, hb⟩ => ?_
  subst he
  exact ⟨_, rfl, law_end hW' rfl rfl hb laidOut (by kernel_rfl) (by kernel_rfl) Tryd.underlying4⟩

theorem reads (os : Os) {H : Type} (enc : TypeId × Value → H) : ∃ places, DataW.whole enc Tryd.prog ((laidWorld os).forCall (fun _ _ => 0) ⟨#[], #[.string ⟨#[]⟩, .string ⟨#[]⟩, .string ⟨#[]⟩], []⟩).memory Tryd.f7.params.toList Rows.pathsWithinSpec.vars false [Value.string ⟨#[]⟩, Value.string ⟨#[]⟩, Value.string ⟨#[]⟩] 8 = some ([.lit (.string []), .lit (.string []), .lit (.string [])], [], places) :=
  ⟨[], by kernel_rfl⟩

set_option maxRecDepth 100000 in
theorem lifted (os : Os) (started : os.Started) (H : Type) (enc : TypeId × Value → H) (F : Stop.Interp) :
    ReturnsInHanded {} Tryd.checked os 7 .any ((OpenSpec.ofChange Rows.pathsWithinSpec).preRow enc Tryd.prog Tryd.f7 Rows.pathsWithinRow.domain false Rows.pathsWithinRow.laid) (((OpenSpec.ofChange Rows.pathsWithinSpec).at F).post enc Tryd.prog Tryd.f7 false true false false) := by
  obtain ⟨places, hx⟩ := reads os enc
  have laid_met : laidMet Tryd.prog Rows.pathsWithinRow.laid ((laidWorld os).forCall (fun _ _ => 0) ⟨#[], #[.string ⟨#[]⟩, .string ⟨#[]⟩, .string ⟨#[]⟩], []⟩).memory := (laidMet_of_run' 8 (by kernel_rfl) (by kernel_rfl))
  refine returnsInHanded_of_row (C := Tryd.checked) (s := OpenSpec.ofChange Rows.pathsWithinSpec) own started (by kernel_rfl) Tryd.func7
    (witness_row_at (enc := enc) (C := Tryd.checked) false (laidWorld os) #[.string ⟨#[]⟩, .string ⟨#[]⟩, .string ⟨#[]⟩] rfl (by kernel_rfl) (by kernel_rfl) (by kernel_rfl)
      (OpenSpec.preRow_of_cond 8 hx (by kernel_rfl) (fun k hk => by cases hk) (by kernel_rfl) laid_met)) ?_
  intro W base args ds gs before hval hW _ _ hz hL _ _
  exact contract H enc W base args ds gs before hval hW hL hz

theorem said : Rows.PathsWithinSaid :=
  OpenClaim.holds_of_cond 7 Tryd.f7 rfl rfl rfl rfl rfl rfl rfl ⟨rfl, rfl, rfl, rfl, rfl⟩ rfl rfl rfl rfl rfl (by kernel_rfl) Tryd.func7 (by kernel_rfl)
    (of_decide_eq_true (by kernel_rfl)) (by unfold Func.isWrapper; first | (rw [if_pos (by decide +kernel)]; kernel_rfl) | (rw [if_neg (by decide +kernel)]; exact ⟨rfl, rfl⟩))
    (fun os started H enc _ F => by rw [OpenClaim.pre_eq_preRow]; exact lifted os started H enc F)

theorem plain (f : FuncId) (fn : Func) (hf : Tryd.pinned.checked.prog.funcNamed "mahout/mahoutlaw06.PathsWithin" = some f) (hfn : Tryd.pinned.checked.prog.funcs[f]? = some fn) :
    ∀ (j : Nat) t, fn.params[j]? = some t → Tryd.pinned.checked.prog.wantsStandIn t = false := by
  obtain rfl : f = 7 := Option.some.inj ((show Tryd.prog.funcNamed "mahout/mahoutlaw06.PathsWithin" = some 7 by kernel_rfl).symm.trans hf) |>.symm
  obtain rfl : fn = Tryd.f7 := (Option.some.inj (Tryd.func7.symm.trans hfn)).symm
  exact fun j t ht => by
    rw [Tryd.params7] at ht
    have hm : t ∈ [9, 9, 9] := by simpa using Array.mem_of_getElem? ht
    have hall : ([9, 9, 9].all fun u => !Tryd.prog.wantsStandIn u) = true := by kernel_rfl
    exact (show Tryd.prog.wantsStandIn t = false by simpa using List.all_eq_true.1 hall t hm)
/-- THE CARD -/
theorem card : Rows.PathsWithinCardSaid :=
  Claim7.holds_tied_plain_at .later [] _ _ _ _ said (fun _ h => by cases h) (by kernel_rfl) (fun _ h => by cases h) pathsWithin_row_tie rfl ⟨rfl, rfl⟩ (by kernel_rfl) rfl (fun f fn hf hfn => ⟨by kernel_rfl, plain f fn hf hfn⟩) (by kernel_rfl)

end Go.Proofs.YtlenmcfdoolgbaaDoor.fnPathsWithin
