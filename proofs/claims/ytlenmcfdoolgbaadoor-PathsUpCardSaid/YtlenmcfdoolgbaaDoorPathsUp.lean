/- PathsUp: a path is its parent and its last part; going up it ends at the root. -/
import Derived.Test.YtlenmcfdoolgbaaDoorPathS

import Derived.Test.YtlenmcfdoolgbaaDoorLawEnd

import Derived.Test.YtlenmcfdoolgbaaDoorPathLaid

namespace Go.Proofs.YtlenmcfdoolgbaaDoor.fnPathsUp
open Go.ChangeShapes Go.WideShapes Go.ChangeAt Go.RowKit Go.WideMaps Go.WideElems
open Go.ChangeMaps (open_string)

theorem newT_owns {B : Nat} {w : World} {A : Option Addr} {c : Nat} {xs : List Path.Bs} (h : NewT B w A c xs) (hl : xs.length ≤ 16) : w.ownsRow B 9 1 (.slice A xs.length c) xs.length (xs.map T) := by
  refine ⟨by simp, ?_⟩
  rcases h with ⟨rfl, rfl, rfl⟩ | ⟨g, h1, rfl, rfl, _, hg⟩
  · exact .inl ⟨rfl, rfl⟩
  · exact .inr ⟨g, xs.length, (xs.map T).toArray, rfl, h1, hg, Nat.le_refl _, by unfold maxLen; omega, by simp, by rw [List.toList_toArray, List.take_of_length_le (by simp)]⟩
theorem newT_blk {B : Nat} {w : World} {A : Option Addr} {c : Nat} {xs : List Path.Bs} (h : NewT B w A c xs) : ∀ j, (Value.slice A xs.length c).ownBlock = some j → B ≤ j := fun j hj => by
  rcases h with ⟨rfl, rfl, rfl⟩ | ⟨g, h1, rfl, rfl, _, hg⟩
  · simp [Value.ownBlock] at hj
  · have : g = j := by simpa [Value.ownBlock] using hj
    omega
theorem wi_up (ys : List Path.Bs) (y : Path.Bs) : Path.wi (some ys) (some (ys ++ [y])) = false := by
  rcases h : Path.wi (some ys) (some (ys ++ [y])) with _ | _
  · rfl
  · obtain ⟨a, b, e1, e2⟩ := Path.wi_some h
    injection e1 with e1
    injection e2 with e2
    have := congrArg List.length e1
    rw [← e2] at this
    simp at this
theorem not_root {q : ByteArray} {ys : List Path.Bs} {y : Path.Bs} (h : Path.pp (Ls q) = some (ys ++ [y])) : (q.toList == [47]) = false := by
  rw [isSlash]
  refine decide_eq_false (fun e => ?_)
  rw [e] at h
  have h2 : some ([] : List Path.Bs) = some (ys ++ [y]) := h
  injection h2 with h2
  simp at h2
theorem is_root {q : ByteArray} (h : Path.pp (Ls q) = some []) : (q.toList == [47]) = true := by
  rw [isSlash]
  exact decide_eq_true ((Path.path_pp h).1.trans rfl)
set_option maxRecDepth 100000 in
set_option maxHeartbeats 4000000 in
theorem walk_no (p : ByteArray) (w : World) (hs : p.size ≤ maxLen) (hp : Path.pp (Ls p) = none) :
    Calls Tryd.prog 6 #[.string p] w fun e w' => e = .returned (.bool true) ∧ Below w.heap.size w w' := by
  have C3 := fun (w' : World) => check_no p w' hp hs
  have C4 := fun (w' : World) => parent_no p w' (.inl hp) hs
  clear hp
  go_enter Tryd.func6, Tryd.ntmps6
  go_wp2_with (fail)
  refine (speaks_any _).mono ?_; rintro e w1 ⟨rfl, hb1⟩
  have B1 := Lib.hid hb1
  clear hb1
  go_wp2_with (fail)
  refine (C3 _).mono ?_; rintro e w2 ⟨rfl, hb2⟩
  have B2 := since_of B1 hb2
  clear hb2
  go_wp2_with (fail)
  refine (C4 _).mono ?_; rintro e w3 ⟨rfl, hb3⟩
  have B3 := since_of B2 hb3
  clear hb3
  go_wp2
  go_ret
  exact ⟨rfl, B3.out⟩
set_option maxRecDepth 100000 in
set_option maxHeartbeats 4000000 in
theorem walk_ok (p : ByteArray) (xs : List Path.Bs) (w : World) (hp : Path.pp (Ls p) = some xs) :
    Calls Tryd.prog 6 #[.string p] w fun e w' => e = .returned (.bool true) ∧ Below w.heap.size w w' := by
  have C3 := fun (w' : World) => check_ok p xs w' hp
  have HP := Lib.hid hp
  have hl := (Path.good_parts (good_of hp)).1
  clear hp
  go_enter Tryd.func6, Tryd.ntmps6
  go_wp2_with (fail)
  refine (speaks_any _).mono ?_; rintro e w1 ⟨rfl, hb1⟩
  have B1 := Lib.hid hb1
  clear hb1
  go_wp2_with (fail)
  refine (C3 _).mono ?_; rintro e w2 ⟨rfl, hb2⟩
  have B2 := since_of B1 hb2
  clear hb2
  go_wp2
  go_loopw [0, 5] (fun v i wr => ∃ (q : ByteArray) (zs : List Path.Bs) (k : Nat), v = .string q ∧ i = .int .i64 k ∧ zs.length + k ≤ 16 ∧ Hid (Path.pp (Ls q) = some zs) ∧ Since w wr) (fun _ i _ => 17 - (intOf i).toNat)
  case atStart => exact ⟨p, xs, 0, rfl, rfl, by omega, HP, B2⟩
  case round =>
    obtain ⟨q, zs, k, rfl, rfl, hk, HQ, BQ⟩ := hrel
    have i1 : (k : Int) < 17 := by omega
    rcases List.eq_nil_or_concat zs with rfl | ⟨ys, y, rfl⟩
    · have hqs : q.size ≤ maxLen := by have := len_of_some HQ.out; unfold maxLen; omega
      have C4 := fun (w' : World) => parent_no q w' (.inr HQ.out) hqs
      have C5 := fun (w' : World) => base_no q w' (.inr HQ.out) hqs
      have t1 := is_root HQ.out
      clear hqs
      go_wp2_with (fail)
      refine (C4 _).mono ?_; rintro e w3 ⟨rfl, hb3⟩
      have B3 := since_of BQ hb3
      clear hb3
      go_wp2_with (fail)
      refine (C5 _).mono ?_; rintro e w4 ⟨rfl, hb4⟩
      have B4 := since_of B3 hb4
      clear hb4
      go_wp2
      go_ret
      exact ⟨rfl, B4.out⟩
    · rw [List.concat_eq_append] at HQ hk
      have hz := HQ.out
      have hg := good_of hz
      have hgy : Path.good ys = true := by have := Path.good_take hg ys.length; simpa using this
      have hyl := (Path.good_parts hgy).1
      have hpl := path_len hgy
      have hpx := part_len hg
      have C4 := fun (w' : World) => parent_ok q ys y w' hz
      have C5 := fun (w' : World) => base_ok q ys y w' hz
      have t1 := not_root hz
      obtain ⟨u, hu⟩ : ∃ u : ByteArray, u = ⟨(Path.path ys).toArray⟩ := ⟨_, rfl⟩
      obtain ⟨v, hv⟩ : ∃ v : ByteArray, v = ⟨y.toArray⟩ := ⟨_, rfl⟩
      have hup : Path.pp (Ls u) = some ys := by rw [hu]; exact Path.pp_path hgy
      have C6 := fun (w' : World) => psplit_ok u ys w' hup
      have hqs : q.size ≤ maxLen := by have := len_of_some hz; unfold maxLen; omega
      have hus : u.size ≤ maxLen := by have := len_of_some hup; unfold maxLen; omega
      have C7 := fun (w' : World) (h : Since w w') => within_S q u hqs hus w' h
      have C8 := fun (w' : World) (h : Since w w') => within_S u q hus hqs w' h
      have e7 : Path.wi (Path.pp (Ls q)) (Path.pp (Ls u)) = true := by rw [hz, hup]; exact Path.wi_mk _ _
      have e8 : Path.wi (Path.pp (Ls u)) (Path.pp (Ls q)) = false := by rw [hz, hup]; exact wi_up ys y
      rw [e7] at C7
      rw [e8] at C8
      have HTV : Hid (Value.string v = T y) := Lib.hid (by rw [T, hv])
      have HTQ : Hid (T (Path.path (ys ++ [y])) = .string q) := Lib.hid (by rw [← (Path.path_pp hz).1])
      have HUP := Lib.hid hup
      have HG := Lib.hid hg
      have HPX := Lib.hid hpx
      rw [T, ← hu] at C4
      rw [T, ← hv] at C5
      unfold SplitRes at C6
      clear hz hg hgy hpx e7 e8 hu hv hup
      obtain ⟨i0, hi, hz0, hz1, hz2⟩ := info_parts infoStr
      go_wp2_with (fail)
      refine (C4 _).mono ?_; rintro e w3 ⟨rfl, hb3⟩
      have B3 := since_of BQ hb3
      clear hb3
      go_wp2_with (fail)
      refine (C5 _).mono ?_; rintro e w4 ⟨rfl, hb4⟩
      have B4 := since_of B3 hb4
      clear hb4
      go_wp2_with (fail)
      refine (C6 _).mono ?_; rintro e w5 ⟨A, c, rfl, hn, hb5⟩
      have B5 := since_of B4 hb5
      have hown := newT_owns hn hyl
      have HN := Lib.hid hn
      have hsz := hb5.size
      have HBS := Lib.hid (And.intro B4.out.size hsz)
      clear hb5 hn
      go_wp2_with (at_builtin; refine wpList_append_own _ rfl _ _ 23 rfl w4.heap.size 9 i0 (.string ByteArray.empty) 1 16 Tryd.underlying23 hi hz0 hz1 hz2 rfl (by decide) _ _ _ rfl (hown.alloc _) ⟨w5.heap.size, 0, none⟩ 1 1 [.string v] rfl rfl ?c1 ?c2 ?c3 ?c4 ?c5 ?_)
      case c1 =>
        intro j u hj
        match j, hj with
        | 0, hj => simp at hj; subst hj; simp [Addr.add]
      case c2 => first | rfl | (intro u hu; simp at hu; subst hu; rfl)
      case c3 => unfold maxLen; omega
      case c4 => omega
      case c5 => simp; omega
      intro v' w6 hown' hgrow' _
      have hT : (ys ++ [y]).map T = ys.map T ++ [.string v] := by rw [HTV.out, List.map_append]; rfl
      have hown2 : w6.ownsRow w4.heap.size 9 1 v' (ys ++ [y]).length ((ys ++ [y]).map T) := by
        rw [hT, List.length_append, List.length_singleton]; simpa using hown'
      obtain ⟨A', c', rfl, htx, hcap⟩ := own_txts hown2
      have B6 : Since w w6 := Lib.hid (by
        have h4 : Below w.heap.size w (w5.alloc (.cells #[.string v] 9)) := B5.out.alloc B5.out.size _
        refine h4.grown hgrow' (by have := B5.out.size; simp; omega) (fun j ej => ?_)
        have h1 := newT_blk HN.out j ej
        have h2 := HBS.out.1
        omega)
      have C9 := pjoin_any (ys ++ [y]) A' c' w6.heap.size w6 htx (Nat.le_refl _) hcap (fun x hx => by have := HPX.out x hx; omega)
      rw [HG.out, if_pos rfl, HTQ.out, List.length_append, List.length_singleton] at C9
      clear hown hown' hgrow' hT hown2 htx hcap
      go_wp2_with (fail)
      refine C9.mono ?_; rintro e w7 ⟨rfl, hb7⟩
      have B7 := since_of B6 hb7
      clear hb7
      go_wp2_with (fail)
      refine (C7 _ B7).mono ?_; rintro e w8 ⟨rfl, B8⟩
      go_wp2_with (fail)
      refine (C8 _ B8).mono ?_; rintro e w9 ⟨rfl, B9⟩
      go_wp2
      go_roundw
      case rel => exact ⟨u, ys, k + 1, rfl, by go_num, by rw [List.length_append, List.length_singleton] at hk; omega, HUP, B9⟩
      case measure => simp [intOf]; omega
theorem walk (p : ByteArray) (w : World) (hs0 : p.size ≤ 140737488351232) :
    Calls Tryd.prog 6 #[.string p] w fun e w' => e = .returned (.bool true) ∧ Below w.heap.size w w' := by
  have hs : p.size ≤ maxLen := by unfold maxLen; omega
  rcases h : Path.pp (Ls p) with _ | xs
  · exact walk_no p w hs h
  · exact walk_ok p xs w h

theorem contract (H : Type) (enc : TypeId × Value → H) (W : World) (base : Nat) (args : Array Value) (ds gs : List (DataW H)) (before : List MemPlace)
    (hval : ∀ (j : Nat) t v, Tryd.f6.params[j]? = some t → args[j]? = some v → Value.okWide Tryd.prog W .any base t v)
    (hW : DataW.Whole enc Tryd.prog Tryd.f6.params.toList Rows.pathsUpSpec.vars false W args.toList ds gs before) (hL : laidMetH Tryd.prog Rows.pathsUpRow.laid W)
    (hz : (DataW.weightsEach Tryd.prog (Tryd.f6.params.toList ++ []) (ds ++ gs)).all (· ≤ reachBytes) = true) :
    Calls Tryd.prog 6 args W fun e W' => ∃ v, e = .returned v ∧ Rows.pathsUpSpec.post enc Tryd.prog Tryd.f6 false true false false W args v W' := by
  have hW' := hW
  obtain ⟨p, q, hA0, hV, rfl, hfz, hnd⟩ := hW
  have hA : DataW.TrodAll enc Tryd.prog W 0 (fun _ => true) true Tryd.f6.params.toList args.toList ds p := hA0
  rw [Tryd.params6] at hA hval hz
  obtain ⟨v0, vs0, d0, ds0, p0, q0, hargs, rfl, rfl, h0, r0⟩ := trodAll_cons hA
  obtain ⟨rfl, rfl, rfl⟩ := trodAll_nil r0
  obtain rfl : args = #[v0] := by cases args; simp_all
  obtain ⟨rfl, rfl⟩ := trodVars_none hV
  obtain ⟨x0, rfl, rfl, rfl, w0⟩ := open_string Tryd.underlying9 (hval 0 9 v0 rfl rfl) h0
  have b0 : x0.size ≤ 140737488351232 := by have := sized_string hz (j := 0) (t := 9) rfl rfl; simpa [reachBytes] using this
  clear hA0
  refine (walk x0 W b0).mono fun e W' ⟨he, hb⟩ => ?_
  subst he
  exact ⟨_, rfl, law_end hW' rfl rfl hb laidOut (by kernel_rfl) (by kernel_rfl) Tryd.underlying4⟩

theorem reads (os : Os) {H : Type} (enc : TypeId × Value → H) : ∃ places, DataW.whole enc Tryd.prog ((laidWorld os).forCall (fun _ _ => 0) ⟨#[], #[.string ⟨#[]⟩], []⟩).memory Tryd.f6.params.toList Rows.pathsUpSpec.vars false [Value.string ⟨#[]⟩] 8 = some ([.lit (.string [])], [], places) :=
  ⟨[], by kernel_rfl⟩

set_option maxRecDepth 100000 in
theorem lifted (os : Os) (started : os.Started) (H : Type) (enc : TypeId × Value → H) (F : Stop.Interp) :
    ReturnsInHanded {} Tryd.checked os 6 .any ((OpenSpec.ofChange Rows.pathsUpSpec).preRow enc Tryd.prog Tryd.f6 Rows.pathsUpRow.domain false Rows.pathsUpRow.laid) (((OpenSpec.ofChange Rows.pathsUpSpec).at F).post enc Tryd.prog Tryd.f6 false true false false) := by
  obtain ⟨places, hx⟩ := reads os enc
  have laid_met : laidMet Tryd.prog Rows.pathsUpRow.laid ((laidWorld os).forCall (fun _ _ => 0) ⟨#[], #[.string ⟨#[]⟩], []⟩).memory := (laidMet_of_run' 8 (by kernel_rfl) (by kernel_rfl))
  refine returnsInHanded_of_row (C := Tryd.checked) (s := OpenSpec.ofChange Rows.pathsUpSpec) own started (by kernel_rfl) Tryd.func6
    (witness_row_at (enc := enc) (C := Tryd.checked) false (laidWorld os) #[.string ⟨#[]⟩] rfl (by kernel_rfl) (by kernel_rfl) (by kernel_rfl)
      (OpenSpec.preRow_of_cond 8 hx (by kernel_rfl) (fun k hk => by cases hk) (by kernel_rfl) laid_met)) ?_
  intro W base args ds gs before hval hW _ _ hz hL _ _
  exact contract H enc W base args ds gs before hval hW hL hz

theorem said : Rows.PathsUpSaid :=
  OpenClaim.holds_of_cond 6 Tryd.f6 rfl rfl rfl rfl rfl rfl rfl ⟨rfl, rfl, rfl, rfl, rfl⟩ rfl rfl rfl rfl rfl (by kernel_rfl) Tryd.func6 (by kernel_rfl)
    (of_decide_eq_true (by kernel_rfl)) (by unfold Func.isWrapper; first | (rw [if_pos (by decide +kernel)]; kernel_rfl) | (rw [if_neg (by decide +kernel)]; exact ⟨rfl, rfl⟩))
    (fun os started H enc _ F => by rw [OpenClaim.pre_eq_preRow]; exact lifted os started H enc F)

theorem plain (f : FuncId) (fn : Func) (hf : Tryd.pinned.checked.prog.funcNamed "mahout/mahoutlaw06.PathsUp" = some f) (hfn : Tryd.pinned.checked.prog.funcs[f]? = some fn) :
    ∀ (j : Nat) t, fn.params[j]? = some t → Tryd.pinned.checked.prog.wantsStandIn t = false := by
  obtain rfl : f = 6 := Option.some.inj ((show Tryd.prog.funcNamed "mahout/mahoutlaw06.PathsUp" = some 6 by kernel_rfl).symm.trans hf) |>.symm
  obtain rfl : fn = Tryd.f6 := (Option.some.inj (Tryd.func6.symm.trans hfn)).symm
  exact fun j t ht => by
    rw [Tryd.params6] at ht
    have hm : t ∈ [9] := by simpa using Array.mem_of_getElem? ht
    have hall : ([9].all fun u => !Tryd.prog.wantsStandIn u) = true := by kernel_rfl
    exact (show Tryd.prog.wantsStandIn t = false by simpa using List.all_eq_true.1 hall t hm)
/-- THE CARD -/
theorem card : Rows.PathsUpCardSaid :=
  Claim7.holds_tied_plain_at .later [] _ _ _ _ said (fun _ h => by cases h) (by kernel_rfl) (fun _ h => by cases h) pathsUp_row_tie rfl ⟨rfl, rfl⟩ (by kernel_rfl) rfl (fun f fn hf hfn => ⟨by kernel_rfl, plain f fn hf hfn⟩) (by kernel_rfl)

end Go.Proofs.YtlenmcfdoolgbaaDoor.fnPathsUp
