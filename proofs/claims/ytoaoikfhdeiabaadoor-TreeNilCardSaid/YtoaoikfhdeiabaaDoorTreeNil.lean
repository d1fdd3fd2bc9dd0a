/- TreeNil: of no tree nothing is changed and nothing told, whatever is asked. -/
import Derived.Test.YtoaoikfhdeiabaaDoorTreeSpk
import Derived.Test.YtoaoikfhdeiabaaDoorTreeOpen

import Derived.Test.YtoaoikfhdeiabaaDoorLawEnd

import Derived.Test.YtoaoikfhdeiabaaDoorPathLaid

namespace Go.Proofs.YtoaoikfhdeiabaaDoor.fnTreeNil
open Go.ChangeShapes Go.WideShapes Go.ChangeAt Go.RowKit Go.WideMaps Go.WideElems
open Go.ChangeMaps (open_string)

/-- the law's own box holds the change still -/
structure CB (w w' : World) (k c q : Int) (p t : ByteArray) (b0 b1 b2 z s : Int) : Prop where
  bel : Below w.heap.size w w'
  box : w'.heap[w.heap.size]? = some (.cells #[.int .i64 k, .int .i64 c, .int .i64 q, .string p, .string t, .int .i64 b0, .int .i64 b1, .int .i64 b2, .int .i64 z, .int .u32 s] 28 (0, 0))
theorem cb_step {w w1 w2 : World} {k c q : Int} {p t : ByteArray} {b0 b1 b2 z s : Int} (h : Hid (CB w w1 k c q p t b0 b1 b2 z s)) (hb : Below w1.heap.size w1 w2) : Hid (CB w w2 k c q p t b0 b1 b2 z s) :=
  Lib.hid ⟨h.out.bel.trans (hb.mono h.out.bel.size), (hb.block _ (Array.getElem?_eq_some_iff.1 h.out.box).1).trans h.out.box⟩
theorem CB.al {w w' : World} {k c q : Int} {p t : ByteArray} {b0 b1 b2 z s : Int} (h : CB w w' k c q p t b0 b1 b2 z s) : w'.cell? ⟨w.heap.size, 0, none⟩ = some (.int .i64 k) ∧ w'.cell? ⟨w.heap.size, 1, none⟩ = some (.int .i64 c) ∧ w'.cell? ⟨w.heap.size, 2, none⟩ = some (.int .i64 q) ∧ w'.cell? ⟨w.heap.size, 3, none⟩ = some (.string p) ∧ w'.cell? ⟨w.heap.size, 4, none⟩ = some (.string t) ∧ w'.cell? ⟨w.heap.size, 5, none⟩ = some (.int .i64 b0) ∧ w'.cell? ⟨w.heap.size, 6, none⟩ = some (.int .i64 b1) ∧ w'.cell? ⟨w.heap.size, 7, none⟩ = some (.int .i64 b2) ∧ w'.cell? ⟨w.heap.size, 8, none⟩ = some (.int .i64 z) ∧ w'.cell? ⟨w.heap.size, 9, none⟩ = some (.int .u32 s) := by
  refine ⟨?_, ?_, ?_, ?_, ?_, ?_, ?_, ?_, ?_, ?_⟩ <;> simp [World.cell?, h.box]
/-- the box of what was told of no tree -/
def IBx (w : World) (x : Nat) : Prop := w.heap[x]? = some (.cells #[.bool false, .bool false, .int .i64 0, .int .i64 0, .int .i64 0, .int .i64 0, .slice none 0 0] 33 (0, 0))
set_option maxRecDepth 100000 in
set_option maxHeartbeats 4000000 in
theorem op_any (k c q : Int) (p t : ByteArray) (b0 b1 b2 z s : Int) (w : World) : Calls Tryd.prog 8 #[.agg #[.int .i64 k, .int .i64 c, .int .i64 q, .string p, .string t, .int .i64 b0, .int .i64 b1, .int .i64 b2, .int .i64 z, .int .u32 s]] w fun e w' => e = .returned (opV k p t c b0 b1 b2 z s q) ∧ Below w.heap.size w w' := by
  go_enter Tryd.func8, Tryd.ntmps8
  go_wp2_with (fail)
  refine bodyPost_ret (v := opV k p t c b0 b1 b2 z s q) ?_ rfl ⟨rfl, ?_⟩
  · simp [results, Tryd.results8, go_sem]
  · exact ((Below.refl _ w).alloc (Nat.le_refl _) _).alloc (by simp) _
set_option maxRecDepth 100000 in
set_option maxHeartbeats 4000000 in
theorem walk (k c q : Int) (p t : ByteArray) (b0 b1 b2 z s : Int) (w : World) :
    Calls Tryd.prog 3 #[.agg #[.int .i64 k, .int .i64 c, .int .i64 q, .string p, .string t, .int .i64 b0, .int .i64 b1, .int .i64 b2, .int .i64 z, .int .u32 s]] w fun e w' => e = .returned (.bool true) ∧ Below w.heap.size w w' := by
  go_enter Tryd.func3, Tryd.ntmps3
  go_wp2_with (fail)
  obtain ⟨w1, hw1⟩ : ∃ w1, w1 = w.alloc (.cells #[.int .i64 k, .int .i64 c, .int .i64 q, .string p, .string t, .int .i64 b0, .int .i64 b1, .int .i64 b2, .int .i64 z, .int .u32 s] 28) := ⟨_, rfl⟩
  have hx1 : Hid (CB w w1 k c q p t b0 b1 b2 z s) := by
    rw [hw1]
    exact Lib.hid ⟨(Below.refl _ _).alloc (Nat.le_refl _) _, heap_alloc_new w _⟩
  rw [← hw1]
  clear hw1
  refine (speaks07_any w1).mono ?_
  rintro ex w2 ⟨rfl, hb2⟩
  have hx2 := cb_step hx1 hb2
  clear hb2 hx1
  obtain ⟨c0, c1, c2, c3, c4, c5, c6, c7, c8, c9⟩ := hx2.out.al
  go_wp2_with (fail)
  refine (stat_nil p w2).mono ?_
  rintro ex w3 ⟨rfl, hb3⟩
  have hx3 := cb_step hx2 hb3
  clear hb3 hx2 c0 c1 c2 c3 c4 c5 c6 c7 c8 c9
  go_upto_region 5 with (fail)
  obtain ⟨w4, hw4⟩ : ∃ w4, w4 = w3.alloc (.cells #[.bool false, .bool false, .int .i64 0, .int .i64 0, .int .i64 0, .int .i64 0, .slice none 0 0] 33) := ⟨_, rfl⟩
  obtain ⟨x, hx⟩ : ∃ x, x = w3.heap.size := ⟨_, rfl⟩
  have HC4 : Hid (CB w w4 k c q p t b0 b1 b2 z s ∧ IBx w4 x) := by
    rw [hw4, hx]
    exact Lib.hid ⟨(cb_step hx3 ((Below.refl _ _).alloc (Nat.le_refl _) _)).out, heap_alloc_new w3 _⟩
  rw [← hw4, ← hx]
  clear hw4 hx hx3
  obtain ⟨c0, c1, c2, c3, c4, c5, c6, c7, c8, c9⟩ := HC4.out.1.al
  go_wp2_with (fail)
  refine (list_nil p w4).mono ?_
  rintro ex w4 ⟨rfl, rfl⟩
  clear c0 c1 c2 c3 c4 c5 c6 c7 c8 c9
  obtain ⟨c0, c1, c2, c3, c4, c5, c6, c7, c8, c9⟩ := HC4.out.1.al
  go_wp2_with (fail)
  refine (op_any k c q p t b0 b1 b2 z s w4).mono ?_
  rintro ex w5 ⟨rfl, hb⟩
  have HC5 : Hid (CB w w5 k c q p t b0 b1 b2 z s ∧ IBx w5 x) := Lib.hid ⟨(cb_step (Lib.hid HC4.out.1) hb).out, (hb.block _ (Array.getElem?_eq_some_iff.1 HC4.out.2).1).trans HC4.out.2⟩
  clear hb c0 c1 c2 c3 c4 c5 c6 c7 c8 c9
  obtain ⟨c0, c1, c2, c3, c4, c5, c6, c7, c8, c9⟩ := HC5.out.1.al
  go_wp2_with (fail)
  refine (apply_nil k p t c b0 b1 b2 z s q w5).mono ?_
  rintro ex w6 ⟨rfl, hb⟩
  have HC6 : Hid (CB w w6 k c q p t b0 b1 b2 z s ∧ IBx w6 x) := Lib.hid ⟨(cb_step (Lib.hid HC5.out.1) hb).out, (hb.block _ (Array.getElem?_eq_some_iff.1 HC5.out.2).1).trans HC5.out.2⟩
  clear hb c0 c1 c2 c3 c4 c5 c6 c7 c8 c9
  obtain ⟨c0, c1, c2, c3, c4, c5, c6, c7, c8, c9⟩ := HC6.out.1.al
  go_wp2_with (fail)
  refine (op_any k c q p t b0 b1 b2 z s w6).mono ?_
  rintro ex w7 ⟨rfl, hb⟩
  have HC7 : Hid (CB w w7 k c q p t b0 b1 b2 z s ∧ IBx w7 x) := Lib.hid ⟨(cb_step (Lib.hid HC6.out.1) hb).out, (hb.block _ (Array.getElem?_eq_some_iff.1 HC6.out.2).1).trans HC6.out.2⟩
  clear hb c0 c1 c2 c3 c4 c5 c6 c7 c8 c9
  obtain ⟨c0, c1, c2, c3, c4, c5, c6, c7, c8, c9⟩ := HC7.out.1.al
  go_wp2_with (fail)
  refine (would_nil k p t c b0 b1 b2 z s q w7).mono ?_
  rintro ex w8 ⟨rfl, hb⟩
  have HC8 : Hid (CB w w8 k c q p t b0 b1 b2 z s ∧ IBx w8 x) := Lib.hid ⟨(cb_step (Lib.hid HC7.out.1) hb).out, (hb.block _ (Array.getElem?_eq_some_iff.1 HC7.out.2).1).trans HC7.out.2⟩
  clear hb c0 c1 c2 c3 c4 c5 c6 c7 c8 c9
  have h0 : w8.cell? ⟨x, 0, none⟩ = some (.bool false) := by have := HC8.out.2; unfold IBx at this; simp [World.cell?, this]
  have h6 : w8.cell? ⟨x, 6, none⟩ = some (.slice none 0 0) := by have := HC8.out.2; unfold IBx at this; simp [World.cell?, this]
  go_wp2_with (fail)
  refine (entries_nil w8).mono ?_
  rintro ex w9 ⟨rfl, rfl⟩
  go_wp2_with (fail)
  go_ret
  exact ⟨rfl, HC8.out.1.bel⟩

set_option maxRecDepth 100000 in
theorem contract (H : Type) (enc : TypeId × Value → H) (W : World) (base : Nat) (args : Array Value) (ds gs : List (DataW H)) (before : List MemPlace)
    (hval : ∀ (j : Nat) t v, Tryd.f3.params[j]? = some t → args[j]? = some v → Value.okWide Tryd.prog W .any base t v)
    (hW : DataW.Whole enc Tryd.prog Tryd.f3.params.toList Rows.treeNilSpec.vars false W args.toList ds gs before) (hL : laidMetH Tryd.prog Rows.treeNilRow.laid W)
    (hz : (DataW.weightsEach Tryd.prog (Tryd.f3.params.toList ++ []) (ds ++ gs)).all (· ≤ reachBytes) = true) :
    Calls Tryd.prog 3 args W fun e W' => ∃ v, e = .returned v ∧ Rows.treeNilSpec.post enc Tryd.prog Tryd.f3 false true false false W args v W' := by
  have hW' := hW
  obtain ⟨p, q, hA0, hV, rfl, hfz, hnd⟩ := hW
  have hA : DataW.TrodAll enc Tryd.prog W 0 (fun _ => true) true Tryd.f3.params.toList args.toList ds p := hA0
  rw [Tryd.params3] at hA hval hz
  obtain ⟨v0, vs0, d0, ds0, p0, q0, hargs, rfl, rfl, h0, r0⟩ := trodAll_cons hA
  obtain ⟨rfl, rfl, rfl⟩ := trodAll_nil r0
  obtain rfl : args = #[v0] := by cases args; simp_all
  obtain ⟨rfl, rfl⟩ := trodVars_none hV
  have hw0 : ∀ m ∈ d0.weights Tryd.prog 28, m ≤ reachBytes := fun m hm => by
    have hall := List.all_eq_true.1 hz m (DataW.weights_mem_each (j := 0) (t := 28) rfl rfl m hm)
    simpa using hall
  obtain ⟨k0, c0, q0, P0, T0, bc0, bl0, bt0, sz0, su0, rfl, gk0, gc0, gq0, gbc0, gbl0, gbt0, gsz0, gsu0, hP0, hT0⟩ := open_change (hval 0 28 v0 rfl rfl) h0 hw0
  clear hA0
  refine (walk k0 c0 q0 P0 T0 bc0 bl0 bt0 sz0 su0 W).mono fun e W' ⟨he, hb⟩ => ?_
  subst he
  exact ⟨_, rfl, law_end hW' rfl rfl hb laidOut (by kernel_rfl) (by kernel_rfl) Tryd.underlying4⟩

theorem reads (os : Os) {H : Type} (enc : TypeId × Value → H) : ∃ places, DataW.whole enc Tryd.prog ((laidWorld os).forCall (fun _ _ => 0) ⟨#[], #[.agg #[.int .i64 0, .int .i64 0, .int .i64 0, .string ⟨#[]⟩, .string ⟨#[]⟩, .int .i64 0, .int .i64 0, .int .i64 0, .int .i64 0, .int .u32 0]], []⟩).memory Tryd.f3.params.toList Rows.treeNilSpec.vars false [Value.agg #[.int .i64 0, .int .i64 0, .int .i64 0, .string ⟨#[]⟩, .string ⟨#[]⟩, .int .i64 0, .int .i64 0, .int .i64 0, .int .i64 0, .int .u32 0]] 8 = some ([.agg [.lit (.int .i64 0), .lit (.int .i64 0), .lit (.int .i64 0), .lit (.string []), .lit (.string []), .agg [.agg [.lit (.int .i64 0), .lit (.int .i64 0), .lit (.int .i64 0)], .lit (.int .i64 0), .lit (.int .u32 0)]]], [], places) :=
  ⟨[], by kernel_rfl⟩

set_option maxRecDepth 100000 in
theorem lifted (os : Os) (started : os.Started) (H : Type) (enc : TypeId × Value → H) (F : Stop.Interp) :
    ReturnsInHanded {} Tryd.checked os 3 .any ((OpenSpec.ofChange Rows.treeNilSpec).preRow enc Tryd.prog Tryd.f3 Rows.treeNilRow.domain false Rows.treeNilRow.laid) (((OpenSpec.ofChange Rows.treeNilSpec).at F).post enc Tryd.prog Tryd.f3 false true false false) := by
  obtain ⟨places, hx⟩ := reads os enc
  have laid_met : laidMet Tryd.prog Rows.treeNilRow.laid ((laidWorld os).forCall (fun _ _ => 0) ⟨#[], #[.agg #[.int .i64 0, .int .i64 0, .int .i64 0, .string ⟨#[]⟩, .string ⟨#[]⟩, .int .i64 0, .int .i64 0, .int .i64 0, .int .i64 0, .int .u32 0]], []⟩).memory := (laidMet_of_run' 8 (by kernel_rfl) (by kernel_rfl))
  refine returnsInHanded_of_row (C := Tryd.checked) (s := OpenSpec.ofChange Rows.treeNilSpec) own started (by kernel_rfl) Tryd.func3
    (witness_row_at (enc := enc) (C := Tryd.checked) false (laidWorld os) #[.agg #[.int .i64 0, .int .i64 0, .int .i64 0, .string ⟨#[]⟩, .string ⟨#[]⟩, .int .i64 0, .int .i64 0, .int .i64 0, .int .i64 0, .int .u32 0]] rfl (by kernel_rfl) (by kernel_rfl) (by kernel_rfl)
      (OpenSpec.preRow_of_cond 8 hx (by kernel_rfl) (fun k hk => by cases hk) (by kernel_rfl) laid_met)) ?_
  intro W base args ds gs before hval hW _ _ hz hL _ _
  exact contract H enc W base args ds gs before hval hW hL hz

theorem said : Rows.TreeNilSaid :=
  OpenClaim.holds_of_cond 3 Tryd.f3 rfl rfl rfl rfl rfl rfl rfl ⟨rfl, rfl, rfl, rfl, rfl⟩ rfl rfl rfl rfl rfl (by kernel_rfl) Tryd.func3 (by kernel_rfl)
    (of_decide_eq_true (by kernel_rfl)) (by unfold Func.isWrapper; first | (rw [if_pos (by decide +kernel)]; kernel_rfl) | (rw [if_neg (by decide +kernel)]; exact ⟨rfl, rfl⟩))
    (fun os started H enc _ F => by rw [OpenClaim.pre_eq_preRow]; exact lifted os started H enc F)

theorem plain (f : FuncId) (fn : Func) (hf : Tryd.pinned.checked.prog.funcNamed "mahout/mahoutlaw07.TreeNil" = some f) (hfn : Tryd.pinned.checked.prog.funcs[f]? = some fn) :
    ∀ (j : Nat) t, fn.params[j]? = some t → Tryd.pinned.checked.prog.wantsStandIn t = false := by
  obtain rfl : f = 3 := Option.some.inj ((show Tryd.prog.funcNamed "mahout/mahoutlaw07.TreeNil" = some 3 by kernel_rfl).symm.trans hf) |>.symm
  obtain rfl : fn = Tryd.f3 := (Option.some.inj (Tryd.func3.symm.trans hfn)).symm
  exact fun j t ht => by
    rw [Tryd.params3] at ht
    have hm : t ∈ [28] := by simpa using Array.mem_of_getElem? ht
    have hall : ([28].all fun u => !Tryd.prog.wantsStandIn u) = true := by kernel_rfl
    exact (show Tryd.prog.wantsStandIn t = false by simpa using List.all_eq_true.1 hall t hm)
/-- THE CARD -/
theorem card : Rows.TreeNilCardSaid :=
  Claim7.holds_tied_plain_at .later [] _ _ _ _ said (fun _ h => by cases h) (by kernel_rfl) (fun _ h => by cases h) treeNil_row_tie rfl ⟨rfl, rfl⟩ (by kernel_rfl) rfl (fun f fn hf hfn => ⟨by kernel_rfl, plain f fn hf hfn⟩) (by kernel_rfl)

end Go.Proofs.YtoaoikfhdeiabaaDoor.fnTreeNil
