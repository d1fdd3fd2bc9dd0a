/- PathsJoins, where what it reads is bounded: the path of any parts is the document's, the parts stay, and split again the path has these parts. -/
import Derived.Test.YtlenmcfdoolgbaaDoorPathTexts
import Derived.Laws.AppendOwnNone

import Derived.Test.YtlenmcfdoolgbaaDoorLawEnd

import Derived.Test.YtlenmcfdoolgbaaDoorPathLaid

namespace Go.Proofs.YtlenmcfdoolgbaaDoor.fnPathsJoins
open Go.ChangeShapes Go.WideShapes Go.ChangeAt Go.RowKit Go.WideMaps Go.WideElems
open Go.ChangeMaps (open_string)

theorem glue_len (xs : List Path.Bs) : xs.length ≤ (Path.glue xs).length ∧ ∀ x ∈ xs, x.length ≤ (Path.glue xs).length := by
  induction xs with
  | nil => exact ⟨Nat.le_refl _, fun x hx => by cases hx⟩
  | cons y ys ih =>
    obtain ⟨h1, h2⟩ := ih
    refine ⟨by simp [Path.glue]; omega, fun x hx => ?_⟩
    rcases List.mem_cons.1 hx with rfl | hx
    · simp [Path.glue]; omega
    · have := h2 x hx; simp [Path.glue]; omega
theorem lit_step {w1 w2 : World} {cs : Array Value} {t : TypeId} {n cap : Nat} (hg : (w1.alloc (.cells cs t)).grownBy w2 (Value.slice (some ⟨w1.heap.size, 0, none⟩) n cap).ownBlock) : Below w1.heap.size w1 w2 := by
  have h3 : Below w1.heap.size w1 (w1.alloc (.cells cs t)) := (Below.refl _ _).alloc (Nat.le_refl _) _
  refine h3.grown hg (by simp) (fun j ej => ?_)
  obtain rfl : w1.heap.size = j := by simpa [Value.ownBlock] using ej
  exact Nat.le_refl _
theorem parts_one (xs : List Path.Bs) : ∀ u ∈ xs.map T, u.oneCell' = true := fun u hu => by
  obtain ⟨l, _, rfl⟩ := List.mem_map.1 hu
  rfl
theorem parts_cell {w : World} {ad : Addr} {xs : List Path.Bs} {t : TypeId} (h : Hid (Txts w w.heap.size (some ad) xs)) : ∀ j u, (xs.map T)[j]? = some u → (w.alloc (.cells #[] t)).cell? (ad.add j) = some u := fun j u hj => by
  obtain ⟨hlt, rfl⟩ := List.getElem?_eq_some_iff.1 hj
  rw [List.length_map] at hlt
  obtain ⟨b, off, e, hb, hc⟩ := h.out j hlt
  injection e with e
  subst e
  rw [add_plain]
  refine (((Below.refl _ w).alloc (Nat.le_refl _) _).cell (p := ⟨b, off + j, none⟩) hb).trans ?_
  rw [hc]; simp
set_option maxRecDepth 100000 in
set_option maxHeartbeats 4000000 in
theorem walk (A : Option Addr) (cap : Nat) (xs : List Path.Bs) (w : World) (hlc : xs.length ≤ cap) (hA0 : A = none → cap = 0) (hT : Txts w w.heap.size A xs) (htot : (Path.glue xs).length ≤ 1048576) :
    Calls Tryd.prog 4 #[.slice A xs.length cap] w fun e w' => e = .returned (.bool true) ∧ Below w.heap.size w w' := by
  obtain ⟨i0, hi, hz0, hz1, hz2⟩ := info_parts infoStr
  have hgl := glue_len xs
  have hn : xs.length ≤ 1048576 := by have := hgl.1; omega
  have HX := Lib.hid hgl.2
  have HG := Lib.hid htot
  have HT0 := Lib.hid hT
  clear hgl htot hT
  go_enter Tryd.func4, Tryd.ntmps4
  go_wp2_with (fail)
  refine (speaks_any _).mono ?_; rintro e w1 ⟨rfl, hb1⟩
  have B1 := Lib.hid hb1
  have HT1 := Lib.hid (HT0.out.below hb1)
  clear hb1
  go_upto_region 3 with (fail)
  go_cut [3] (fun s3 wx => (∃ A2 c2, s3 = .slice A2 xs.length c2 ∧ Hid (xs.length ≤ c2) ∧ Hid (Txts wx wx.heap.size A2 xs)) ∧ Since w wx ∧ Hid (Txts wx w.heap.size A xs))
  case first =>
    cases A with
    | none =>
      have hc0 := hA0 rfl
      subst hc0
      have hx0 : xs = [] := List.length_eq_zero_iff.1 (by omega)
      subst hx0
      clear hA0 hlc
      go_wp2_with (at_builtin; refine wpList_append_own_none rfl _ _ 23 rfl w1.heap.size 9 i0 1 Tryd.underlying23 hi _ 0 [] rfl (World.ownsRow_lit w1 #[] 0 (Nat.le_refl _) (Nat.zero_le _) rfl) rfl ?_)
      go_meet
      exact ⟨⟨_, _, rfl, Lib.hid (Nat.le_refl _), Lib.hid (fun i hi => absurd hi (Nat.not_lt_zero _))⟩, since_of B1 ((Below.refl _ w1).alloc (Nat.le_refl _) _), Lib.hid (fun i hi => absurd hi (Nat.not_lt_zero _))⟩
    | some ad =>
      have HC := parts_cell (t := 9) (Lib.hid (HT1.out.mono B1.out.size))
      have HCC := Lib.hid HC
      clear HC hA0
      go_wp2_with (at_builtin; refine wpList_append_own _ rfl _ _ 23 rfl w1.heap.size 9 i0 (.string ByteArray.empty) 1 16 Tryd.underlying23 hi hz0 hz1 hz2 rfl (by decide) _ 0 [] rfl (World.ownsRow_lit w1 #[] 0 (Nat.le_refl _) (Nat.zero_le _) rfl) ad xs.length cap (xs.map T) rfl (by simp) ?c1 ?c2 ?c3 ?c4 ?c5 ?_)
      case c1 => exact HCC.out
      case c2 => exact parts_one xs
      case c3 => unfold maxLen; omega
      case c4 => omega
      case c5 => simp
      intro v' w4 hown' hgrow' _
      have hown2 : w4.ownsRow w1.heap.size 9 1 v' xs.length (xs.map T) := by simpa using hown'
      obtain ⟨A4, c4, rfl, g1, g2⟩ := own_txts hown2
      have hb := lit_step hgrow'
      have G1 := Lib.hid g1
      have G2 := Lib.hid g2
      have B4 := since_of B1 hb
      have G3 := Lib.hid (HT1.out.below (hb.mono B1.out.size))
      clear hown' hown2 hgrow' g1 g2 hb
      go_wp2
      go_meet
      exact ⟨⟨_, _, rfl, G2, G1⟩, B4, G3⟩
  case rest =>
    obtain ⟨⟨A2, c2, rfl, hc2, hT2⟩, BX, HTX⟩ := hcut
    have HJ := pjoin_any xs A2 c2 _ _ hT2.out (Nat.le_refl _) hc2.out (fun x hx => by have h1 := HX.out x hx; have h2 := HG.out; omega)
    rcases hg : Path.good xs with _ | _
    · rw [hg, if_neg (by decide)] at HJ
      have HJR : Hid (joinRes xs = .tuple #[T [], .bool false]) := Lib.hid (by simp [joinRes, hg])
      clear hg
      go_wp2_with (fail)
      refine HJ.mono ?_; rintro e w2 ⟨rfl, hb2⟩
      have B2 := since_of BX hb2
      have HR := rjoin_any xs A cap _ w2 (HTX.out.below (hb2.mono BX.out.size)) B2.out.size (by omega) (by have := HG.out; omega)
      rw [HJR.out] at HR
      have HT3 := Lib.hid (hT2.out.below hb2)
      have HT4 := Lib.hid (HTX.out.below (hb2.mono BX.out.size))
      have HSX := Lib.hid hb2.size
      clear hb2 HJ
      go_wp2_with (fail)
      refine HR.mono ?_; rintro e w3 ⟨rfl, hb3⟩
      have B3 := since_of B2 hb3
      have HTX2 := texts_any xs xs A2 A c2 cap _ _ w3 (HT3.out.below (hb3.mono HSX.out)) (HT4.out.below (hb3.mono B2.out.size)) (by omega) (by omega)
      rw [decide_eq_true rfl] at HTX2
      clear hb3 HR
      go_wp2_with (fail)
      refine HTX2.mono ?_; rintro e w4 ⟨rfl, m, hm⟩
      have B4 : Since w w4 := Lib.hid (by rw [hm]; exact below_drewN B3.out m)
      clear hm HTX2
      go_wp2
      go_ret
      exact ⟨rfl, B4.out⟩
    · rw [hg, if_pos rfl] at HJ
      have HJR : Hid (joinRes xs = .tuple #[T (Path.path xs), .bool true]) := Lib.hid (by simp [joinRes, hg])
      obtain ⟨u, hu⟩ : ∃ u : ByteArray, u = ⟨(Path.path xs).toArray⟩ := ⟨_, rfl⟩
      have hup : Path.pp (Ls u) = some xs := by rw [hu]; exact Path.pp_path hg
      have C6 := fun (w' : World) => psplit_ok u xs w' hup
      have HTU : Hid (T (Path.path xs) = .string u) := Lib.hid (by rw [T, hu])
      rw [HTU.out] at HJ
      unfold SplitRes at C6
      clear hg hu hup
      go_wp2_with (fail)
      refine HJ.mono ?_; rintro e w2 ⟨rfl, hb2⟩
      have B2 := since_of BX hb2
      have HR := rjoin_any xs A cap _ w2 (HTX.out.below (hb2.mono BX.out.size)) B2.out.size (by omega) (by have := HG.out; omega)
      rw [HJR.out, HTU.out] at HR
      have HT3 := Lib.hid (hT2.out.below hb2)
      have HT4 := Lib.hid (HTX.out.below (hb2.mono BX.out.size))
      have HSX := Lib.hid hb2.size
      clear hb2 HJ
      go_wp2_with (fail)
      refine HR.mono ?_; rintro e w3 ⟨rfl, hb3⟩
      have B3 := since_of B2 hb3
      have HT5 := Lib.hid (HT4.out.below (hb3.mono B2.out.size))
      have HTX2 := texts_any xs xs A2 A c2 cap _ _ w3 (HT3.out.below (hb3.mono HSX.out)) HT5.out (by omega) (by omega)
      rw [decide_eq_true rfl] at HTX2
      clear hb3 HR
      go_wp2_with (fail)
      refine HTX2.mono ?_; rintro e w4 ⟨rfl, m, hm⟩
      have B4 : Since w w4 := Lib.hid (by rw [hm]; exact below_drewN B3.out m)
      have HT6 : Hid (Txts w4 w.heap.size A xs) := Lib.hid (by rw [hm]; exact HT5.out)
      clear hm HTX2
      go_wp2_with (fail)
      refine (C6 _).mono ?_; rintro e w5 ⟨A5, c5, rfl, hn, hb5⟩
      have B5 := since_of B4 hb5
      have HTX3 := texts_any xs xs A5 A c5 cap _ _ w5 hn.txts (HT6.out.below (hb5.mono B4.out.size)) (by omega) (by omega)
      rw [decide_eq_true rfl] at HTX3
      clear hn hb5
      go_wp2_with (fail)
      refine HTX3.mono ?_; rintro e w6 ⟨rfl, m, hm⟩
      have B6 : Since w w6 := Lib.hid (by rw [hm]; exact below_drewN B5.out m)
      clear hm HTX3
      go_wp2
      go_ret
      exact ⟨rfl, B6.out⟩

theorem contractUpto (H : Type) (enc : TypeId × Value → H) (W : World) (base : Nat) (args : Array Value) (ds gs : List (DataW H)) (before : List MemPlace)
    (hval : ∀ (j : Nat) t v, Tryd.f4.params[j]? = some t → args[j]? = some v → Value.okWide Tryd.prog W .any base t v)
    (hW : DataW.Whole enc Tryd.prog Tryd.f4.params.toList Rows.pathsJoinsSpec.vars false W args.toList ds gs before) (hL : laidMetH Tryd.prog Rows.pathsJoinsRow.laid W)
    (hz : (DataW.weightsEach Tryd.prog (Tryd.f4.params.toList ++ []) (ds ++ gs)).all (· ≤ reachBytes) = true) (hk : Rows.uptoSmall H (ds ++ gs) = true) :
    Calls Tryd.prog 4 args W fun e W' => ∃ v, e = .returned v ∧ Rows.pathsJoinsSpec.post enc Tryd.prog Tryd.f4 false true false false W args v W' := by
  have hW' := hW
  obtain ⟨p, q, hA0, hV, rfl, hfz, hnd⟩ := hW
  have hA : DataW.TrodAll enc Tryd.prog W 0 (fun _ => true) true Tryd.f4.params.toList args.toList ds p := hA0
  rw [Tryd.params4] at hA hval hz
  obtain ⟨v0, vs0, d0, ds0, p0, q0, hargs, rfl, rfl, h0, r0⟩ := trodAll_cons hA
  obtain ⟨rfl, rfl, rfl⟩ := trodAll_nil r0
  obtain rfl : args = #[v0] := by cases args; simp_all
  obtain ⟨rfl, rfl⟩ := trodVars_none hV
  have hk0 : Rows.uptoBulk d0 ≤ 1048576 := by have h := of_decide_eq_true hk; simp only [List.append_nil, Rows.uptoBulkAll] at h; omega
  obtain ⟨A, cap, xs, rfl, hlc, hnil, hT, htot⟩ := open_parts (hval 0 23 v0 rfl rfl) h0 hk0
  clear hA0
  refine (walk A cap xs W hlc hnil hT htot).mono fun e W' ⟨he, hb⟩ => ?_
  subst he
  exact ⟨_, rfl, law_end hW' rfl rfl hb laidOut (by kernel_rfl) (by kernel_rfl) Tryd.underlying4⟩

theorem reads (os : Os) {H : Type} (enc : TypeId × Value → H) : ∃ places, DataW.whole enc Tryd.prog ((laidWorld os).forCall (fun _ _ => 0) ⟨#[], #[.slice none 0 0], []⟩).memory Tryd.f4.params.toList Rows.pathsJoinsSpec.vars false [Value.slice none 0 0] 8 = some ([.nil], [], places) :=
  ⟨[], by kernel_rfl⟩

set_option maxRecDepth 100000 in
theorem lifted (os : Os) (started : os.Started) (H : Type) (enc : TypeId × Value → H) (F : Stop.Interp) :
    ReturnsInHanded {} Tryd.checked os 4 .any ((Rows.OpenSpec.upto Rows.pathsJoinsSpec).preRow enc Tryd.prog Tryd.f4 Rows.pathsJoinsUptoRow.domain false Rows.pathsJoinsUptoRow.laid) (((Rows.OpenSpec.upto Rows.pathsJoinsSpec).at F).post enc Tryd.prog Tryd.f4 false true false false) := by
  obtain ⟨places, hx⟩ := reads os enc
  have laid_met : laidMet Tryd.prog Rows.pathsJoinsUptoRow.laid ((laidWorld os).forCall (fun _ _ => 0) ⟨#[], #[.slice none 0 0], []⟩).memory := (laidMet_of_run' 8 (by kernel_rfl) (by kernel_rfl))
  refine returnsInHanded_of_row (C := Tryd.checked) (s := Rows.OpenSpec.upto Rows.pathsJoinsSpec) own started (by kernel_rfl) Tryd.func4
    (witness_row_at (enc := enc) (C := Tryd.checked) false (laidWorld os) #[.slice none 0 0] rfl (by kernel_rfl) (by kernel_rfl) (by kernel_rfl)
      (OpenSpec.preRow_of_cond 8 hx (by kernel_rfl) (fun k hk => by cases hk; kernel_rfl) (by kernel_rfl) laid_met)) ?_
  intro W base args ds gs before hval hW _ hcond hz hL _ _
  exact contractUpto H enc W base args ds gs before hval hW hL hz (hcond _ rfl)

theorem said : Rows.PathsJoinsUptoSaid :=
  OpenClaim.holds_of_cond 4 Tryd.f4 rfl rfl rfl rfl rfl rfl rfl ⟨rfl, rfl, rfl, rfl, rfl⟩ rfl rfl rfl rfl rfl (by kernel_rfl) Tryd.func4 (by kernel_rfl)
    (of_decide_eq_true (by kernel_rfl)) (by unfold Func.isWrapper; first | (rw [if_pos (by decide +kernel)]; kernel_rfl) | (rw [if_neg (by decide +kernel)]; exact ⟨rfl, rfl⟩))
    (fun os started H enc _ F => by rw [OpenClaim.pre_eq_preRow]; exact lifted os started H enc F)

theorem plain (f : FuncId) (fn : Func) (hf : Tryd.pinned.checked.prog.funcNamed "mahout/mahoutlaw06.PathsJoins" = some f) (hfn : Tryd.pinned.checked.prog.funcs[f]? = some fn) :
    ∀ (j : Nat) t, fn.params[j]? = some t → Tryd.pinned.checked.prog.wantsStandIn t = false := by
  obtain rfl : f = 4 := Option.some.inj ((show Tryd.prog.funcNamed "mahout/mahoutlaw06.PathsJoins" = some 4 by kernel_rfl).symm.trans hf) |>.symm
  obtain rfl : fn = Tryd.f4 := (Option.some.inj (Tryd.func4.symm.trans hfn)).symm
  exact fun j t ht => by
    rw [Tryd.params4] at ht
    have hm : t ∈ [23] := by simpa using Array.mem_of_getElem? ht
    have hall : ([23].all fun u => !Tryd.prog.wantsStandIn u) = true := by kernel_rfl
    exact (show Tryd.prog.wantsStandIn t = false by simpa using List.all_eq_true.1 hall t hm)
/-- THE CARD -/
theorem card : Rows.PathsJoinsUptoCardSaid :=
  Claim7.holds_tied_plain_at .later [] _ _ _ _ said (fun _ h => by cases h) (by kernel_rfl) (fun _ h => by cases h) pathsJoinsUpto_row_tie rfl ⟨rfl, rfl⟩ (by kernel_rfl) rfl (fun f fn hf hfn => ⟨by kernel_rfl, plain f fn hf hfn⟩) (by kernel_rfl)

end Go.Proofs.YtlenmcfdoolgbaaDoor.fnPathsJoins
