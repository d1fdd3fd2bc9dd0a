/- Package tree: the place of a name inside a directory. -/
import Derived.Test.YtoaoikfhdeiabaaDoorTreeIn1
import Derived.Test.YtoaoikfhdeiabaaDoorTreeMap
import Derived.Deep.RegionHeldLaw
import Derived.Deep.CutRange
import Derived.Laws.ResultCell
import Derived.Deep.MidRow
namespace Go.Proofs.YtoaoikfhdeiabaaDoor
open Go.RowKit Go.Maps
/-- what stays while a place is made inside a directory: all blocks but the ancestors' row -/
def InS (w : World) (g : Nat) (w' : World) : Prop := w.heap.size ≤ w'.heap.size ∧ ∀ b, b < w.heap.size → b ≠ g → w'.heap[b]? = w.heap[b]?
theorem ins_refl (w : World) (g : Nat) : InS w g w := ⟨Nat.le_refl _, fun _ _ _ => rfl⟩
theorem ins_alloc {w w' : World} {g : Nat} (h : InS w g w') (o : Obj) : InS w g (w'.alloc o) := ⟨by have := h.1; simp; omega, fun b hb hn => (Below.heap_alloc _ _ _ (by have := h.1; omega)).trans (h.2 b hb hn)⟩
theorem ins_drew {w w' : World} {g : Nat} (h : InS w g w') : InS w g w'.drew := h
theorem ins_set {w w' : World} {g : Nat} (h : InS w g w') {a : Addr} (ha : a.block = g ∨ w.heap.size ≤ a.block) (v : Value) : InS w g (w'.setCell a v) :=
  ⟨by have := h.1; simp [World.setCell]; omega, fun b hb hn => (Below.heap_setCell _ _ _ _ (by rcases ha with e | e <;> omega)).trans (h.2 b hb hn)⟩
theorem ins_setg {w w' : World} {g k : Nat} (h : InS w g w') (v : Value) : InS w g (w'.setCell ⟨g, k, none⟩ v) := ins_set h (.inl rfl) v
theorem ins_setb {w w' : World} {g b j : Nat} (h : InS w g w') (hb : w.heap.size ≤ b) (v : Value) : InS w g (w'.setCell ⟨b, j, none⟩ v) := ins_set h (.inr hb) v
theorem ins_cell {w w' : World} {g b : Nat} {k : Nat} {v : Value} (h : InS w g w') (hb : b < w.heap.size) (hn : b ≠ g) (hc : w.cell? ⟨b, k, none⟩ = some v) : w'.cell? ⟨b, k, none⟩ = some v := by
  unfold World.cell? at hc ⊢
  dsimp only at hc ⊢
  rw [h.2 b hb hn]
  exact hc
theorem ins_set1 {w w' : World} {g k : Nat} (h : InS w g w') (v : Value) : InS w g (w'.setCells g (0 + k * 1) [v]) := by rw [set_one]; exact ins_set h (.inl rfl) v
theorem step_app_one {P : Program} {ops : Array Oper} {o : Oper} {a : Act} {w : World} {K : Act → World → Prop} {Q : Exit → Act → World → Prop} {E : Prop}
    (hg : o.guard = none) (s x : Operand) (t : TypeId) (hop : o.op = Op.call { callee := Callee.builtin Builtin.append, args := #[s, x], argTypes := #[t, t] })
    (e : TypeId) (i : TypeInfo) (h1 : P.underlying t = some (.slice e)) (h2 : P.info? e = some i) (h4 : i.size = 1)
    (b n cap : Nat) (hs : a.eval s = .slice (some ⟨b, 0, none⟩) n cap) (ad : Addr) (c : Nat) (v : Value) (hx : a.eval x = .slice (some ad) 1 c) (hc : w.cell? (ad.add 0) = some v) (h1c : v.oneCell' = true)
    (hroom : n + 1 ≤ cap) (hspare : (w.cell? ⟨b, n, none⟩).isSome = true ∧ w.frozen? ⟨b, n, none⟩ = false)
    (hK : ∀ w1, Hid (w1 = w.setCell ⟨b, n, none⟩ v) → K (a.put o.dst (.slice (some ⟨b, 0, none⟩) (n + 1) cap)) w1) :
    if Region.wanted o (yielded ops a.tmps) = true then Oper.wp P o a w K Q else E :=
  step_append_room hg s x t hop e i 1 h1 h2 h4 b 0 n cap hs ad 1 c [v] hx rfl (fun j u hj => by
    cases j with
    | zero => simp at hj; subst hj; exact hc
    | succ j => simp at hj) (fun u hu => by simp at hu; subst hu; exact h1c) hroom (fun j hj => by
    have : j = 0 := by simpa using hj
    subst this
    simpa using hspare) (by rw [set_one]; exact hK _ (Lib.hid rfl))
theorem app_far {w1 W : World} {g k : Nat} {v : Value} (h : w1 = W.setCell ⟨g, k, none⟩ v) (b : Nat) (hb : b ≠ g) : (∀ j, w1.cell? ⟨b, j, none⟩ = W.cell? ⟨b, j, none⟩) ∧ ∀ j, w1.frozen? ⟨b, j, none⟩ = W.frozen? ⟨b, j, none⟩ := by
  subst h
  have e : (W.setCell ⟨g, k, none⟩ v).heap[b]? = W.heap[b]? := Below.heap_setCell _ _ _ _ hb
  exact ⟨fun j => by unfold World.cell?; dsimp only; rw [e], fun j => by unfold World.frozen?; dsimp only; rw [e]⟩
theorem ins_eq {w w1 w' : World} {g : Nat} (e : w1 = w') (h : InS w g w') : InS w g w1 := by rw [e]; exact h
theorem ins_set2 {w w' : World} {g k : Nat} (h : InS w g w') (v : Value) : InS w g (w'.setCells g k [v]) := by have := ins_set1 (k := k) h v; simpa using this
abbrev SI (w : World) (g d p : Nat) (mv nd av : Value) (name : ByteArray) (w' : World) : Prop := Hid (InS w g w') ∧ w'.cell? ⟨p, 0, none⟩ = some av ∧ w'.cell? ⟨d, 2, none⟩ = some mv ∧ (Instr.lookup 63 mv (.string name) false).run Tryd.prog w' = .ok nd w'
theorem si_of {w w' : World} {g d p : Nat} {mv nd av : Value} {name : ByteArray} (HS : Hid (∀ w', InS w g w' → w'.cell? ⟨p, 0, none⟩ = some av ∧ w'.cell? ⟨d, 2, none⟩ = some mv ∧ (Instr.lookup 63 mv (.string name) false).run Tryd.prog w' = .ok nd w')) (h : InS w g w') : SI w g d p mv nd av name w' := ⟨Lib.hid h, HS.out _ h⟩
theorem laid_setb {w w1 : World} {g k d b j : Nat} (h : Laid1 w g k d w1) (hb : w.heap.size ≤ b) (v : Value) : Laid1 w g k d (w1.setCell ⟨b, j, none⟩ v) := laid_set h hb v
theorem laid_eq {w w1 w' : World} {g k d : Nat} (e : w1 = w') (h : Laid1 w g k d w') : Laid1 w g k d w1 := by rw [e]; exact h
theorem laid_up {w w2 w' : World} {g k d : Nat} (hb : Below w.heap.size w w2) (h : Laid1 w2 g k d w') : Laid1 w g k d w' := by
  have h1 : Below w.heap.size (w.setCell ⟨g, k, none⟩ (.pointer (some ⟨d, 0, none⟩))) (w2.setCell ⟨g, k, none⟩ (.pointer (some ⟨d, 0, none⟩))) := below_set hb _ _
  exact h1.trans (h.mono hb.size)
theorem results_cell_two {P : Program} {fn : Func} {p u : Tmp} {ty : TypeId} (h : fn.results = #[.cell p ty, .tmp u]) (tmps : Array Value) (w : World) (q : Nat) (cs : List Value) (d : TypeDesc) (e : Value) (he : tmps.getD u undef = e)
    (hp : tmps.getD p undef = .pointer (some ⟨q, 0, none⟩)) (hc : w.rangeAt q 0 cs) (hu : P.underlying ty = some d) (hd : d.isRow = true) (hi : (P.info? ty).map (·.size) = some cs.length) :
    (results fn tmps).run P w = .ok (.tuple #[.agg cs.toArray, e]) w := by
  rw [results_cell_tmp h, hp, he]
  simp [asAddr, run_loadVar_mid w q 0 ty cs d hc hu hd hi, Result.andThen]
theorem range3 {w : World} {q : Nat} {v0 v1 v2 : Value} (h0 : w.cell? ⟨q, 0, none⟩ = some v0) (h1 : w.cell? ⟨q, 1, none⟩ = some v1) (h2 : w.cell? ⟨q, 2, none⟩ = some v2) : w.rangeAt q 0 [v0, v1, v2] := by
  intro j v hj
  match j, hj with
  | 0, hj => simp at hj; rw [← hj]; exact h0
  | 1, hj => simp at hj; rw [← hj]; exact h1
  | 2, hj => simp at hj; rw [← hj]; exact h2
set_option maxRecDepth 100000 in
set_option maxHeartbeats 8000000 in
theorem inside_dir (d g k c n : Nat) (u mv : Value) (G : Blk) (nm name : ByteArray) (w : World) (hk : k < c) (hm0 : w.cell? ⟨d, 2, none⟩ = some mv) (hm : DM w mv n G) (hg : w.cell? ⟨g, k, none⟩ = some u) (hgf : w.frozen? ⟨g, k, none⟩ = false) (hgl : g < w.heap.size) (hdl : d < w.heap.size) (hdg : d ≠ g) (hs : name.size ≤ maxLen) :
    Calls Tryd.prog 30 #[.agg #[.slice (some ⟨g, 0, none⟩) k c, .string nm, .iface 56 (.pointer (some ⟨d, 0, none⟩))], .string name] w fun e w' => e = .returned (.tuple #[.agg #[.slice (some ⟨g, 0, none⟩) (k + 1) c, .string name, nvo (G name)], .int .i64 (if (G name).isSome then 0 else 70)]) ∧ Laid1 w g k d w' := by
  have ha := fun x w => as_dir (.pointer (some ⟨d, 0, none⟩)) x w
  have HLK : Hid (∀ w', InS w g w' → (Instr.lookup 63 mv (.string name) false).run Tryd.prog w' = .ok (nvo (G name)) w') := Lib.hid fun w' hw' => by
    rcases hm with ⟨rfl, _, rfl⟩ | ⟨m, rfl, h⟩
    · exact look_gm0 hs
    · refine look_gm (h.same (hw'.2 m h.lt (fun e => ?_))) hs
      subst e
      obtain ⟨es, cl, h1⟩ := h.map
      unfold World.cell? at hg
      dsimp only at hg
      rw [h1] at hg
      cases hg
  have HM0 : Hid (∀ w', InS w g w' → w'.cell? ⟨d, 2, none⟩ = some mv) := Lib.hid fun w' hw' => ins_cell hw' hdl hdg hm0
  have HG : Hid (∀ w', Below w.heap.size w w' → (w'.cell? ⟨g, k, none⟩).isSome = true ∧ w'.frozen? ⟨g, k, none⟩ = false) := Lib.hid fun w' hb => ⟨by rw [hb.cell (p := ⟨g, k, none⟩) hgl, hg]; rfl, by rw [hb.frozen (p := ⟨g, k, none⟩) hgl, hgf]⟩
  obtain ⟨nd, hnd⟩ : ∃ nd, nd = nvo (G name) := ⟨_, rfl⟩
  have HND := Lib.hid hnd
  rw [← hnd] at HLK ⊢
  obtain ⟨er, her⟩ : ∃ er : Int, er = (if (G name).isSome then 0 else 70) := ⟨_, rfl⟩
  have HER := Lib.hid her
  rw [← her]
  clear her
  obtain ⟨i0, hi0, hz0, hz1, hz2⟩ := info_parts infoDir
  clear hs hm hnd
  go_enter Tryd.func30, Tryd.ntmps30
  go_upto_region 6 with (fail)
  have hb2 : Below w.heap.size w ((w.alloc (.cells #[.slice (some ⟨g, 0, none⟩) k c, .string nm, .iface 56 (.pointer (some ⟨d, 0, none⟩))] 52)).alloc (.cells #[.slice none 0 0, .string ⟨#[]⟩, .nilIface] 52)) := ((Below.refl _ w).alloc (Nat.le_refl _) _).alloc (by simp) _
  have hp0 : ((w.alloc (.cells #[.slice (some ⟨g, 0, none⟩) k c, .string nm, .iface 56 (.pointer (some ⟨d, 0, none⟩))] 52)).alloc (.cells #[.slice none 0 0, .string ⟨#[]⟩, .nilIface] 52)).cell? ⟨w.heap.size, 0, none⟩ = some (.slice (some ⟨g, 0, none⟩) k c) := by simp
  have hr0 : ((w.alloc (.cells #[.slice (some ⟨g, 0, none⟩) k c, .string nm, .iface 56 (.pointer (some ⟨d, 0, none⟩))] 52)).alloc (.cells #[.slice none 0 0, .string ⟨#[]⟩, .nilIface] 52)).heap[w.heap.size + 1]? = some (.cells #[.slice none 0 0, .string ⟨#[]⟩, .nilIface] 52 (0, 0)) := by
    have := heap_alloc_new (w.alloc (.cells #[.slice (some ⟨g, 0, none⟩) k c, .string nm, .iface 56 (.pointer (some ⟨d, 0, none⟩))] 52)) (.cells #[.slice none 0 0, .string ⟨#[]⟩, .nilIface] 52)
    rwa [World.size_alloc] at this
  obtain ⟨w2, hw2⟩ : ∃ w2, w2 = ((w.alloc (.cells #[.slice (some ⟨g, 0, none⟩) k c, .string nm, .iface 56 (.pointer (some ⟨d, 0, none⟩))] 52)).alloc (.cells #[.slice none 0 0, .string ⟨#[]⟩, .nilIface] 52)) := ⟨_, rfl⟩
  rw [← hw2] at hb2 hp0 hr0 ⊢
  obtain ⟨p, hp⟩ : ∃ p, p = w.heap.size := ⟨_, rfl⟩
  rw [← hp] at hp0 hr0 ⊢
  have hs2 : w2.heap.size = p + 2 := by rw [hw2, hp]; simp
  have hgl2 : g < w2.heap.size := by omega
  have HSI : Hid (∀ w', InS w2 g w' → w'.cell? ⟨p, 0, none⟩ = some (.slice (some ⟨g, 0, none⟩) k c) ∧ w'.cell? ⟨d, 2, none⟩ = some mv ∧ (Instr.lookup 63 mv (.string name) false).run Tryd.prog w' = .ok nd w') := Lib.hid fun w' hw' => by
    have hw1 : InS w g w' := ⟨by have := hw'.1; omega, fun b hb hn => (hw'.2 b (by omega) hn).trans (hb2.block b hb)⟩
    exact ⟨ins_cell hw' (by omega) (by omega) hp0, HM0.out _ hw1, HLK.out _ hw1⟩
  have HG2 : Hid (∀ w', Below w2.heap.size w2 w' → (w'.cell? ⟨g, k, none⟩).isSome = true ∧ w'.frozen? ⟨g, k, none⟩ = false) := Lib.hid fun w' hb => HG.out _ (hb2.trans (hb.mono hb2.size))
  have HR0 : Hid (Below w.heap.size w w2 ∧ w2.heap[p + 1]? = some (.cells #[.slice none 0 0, .string ⟨#[]⟩, .nilIface] 52 (0, 0)) ∧ w2.heap.size = p + 2 ∧ p = w.heap.size ∧ g < p) := Lib.hid ⟨hb2, hr0, hs2, hp, by omega⟩
  have hS0 : SI w2 g d p mv nd (.slice (some ⟨g, 0, none⟩) k c) name w2.drew := si_of HSI (ins_drew (ins_refl _ _))
  clear hw2 hp hb2 hr0 hp0 hs2 hm0 hg hgf HLK HM0 HG
  go_cut [7] (fun s7 wx => ∃ q, s7 = .pointer (some ⟨q, 0, none⟩) ∧ wx.cell? ⟨q, 0, none⟩ = some (.slice (some ⟨g, 0, none⟩) (k + 1) c) ∧ wx.cell? ⟨q, 1, none⟩ = some (.string name) ∧ wx.cell? ⟨q, 2, none⟩ = some nd ∧ Hid (Laid1 w2 g k d wx))
  case first =>
    have hform : nd = .nilIface ∨ ∃ t v, nd = .iface t v := by
      rw [HND.out]
      rcases G name with _ | ⟨_ | _, b⟩
      · exact .inl rfl
      · exact .inr ⟨_, _, rfl⟩
      · exact .inr ⟨_, _, rfl⟩
    rcases hform with rfl | ⟨t, v, rfl⟩
    · clear HND
      refine wp_region_held_drew (S := fun w' => SI w2 g d p mv .nilIface (.slice (some ⟨g, 0, none⟩) k c) name w') (by kernel_rfl) hS0 (fun hHeld => ?_)
      refine wpAnyH_take (i := 0) (v := ?_) rfl (by kernel_rfl) (by kernel_rfl) (by kernel_rfl) (fun _ _ _ h => h) (Or.inl ⟨by rfl, ?_⟩) (by assumption) ?_
      rotate_left
      · (intro w' hSw; (try dsimp only at hSw); go_simp; (try with_reducible rfl))
      (try simp only [Act.put, List.setIfInBounds_toArray])
      refine wpAnyH_take (i := 1) (v := ?_) rfl (by kernel_rfl) (by kernel_rfl) (by kernel_rfl) (fun _ _ _ h => h) (Or.inl ⟨by rfl, ?_⟩) (by assumption) ?_
      rotate_left
      · (intro w' hSw; (try dsimp only at hSw); go_simp; (try with_reducible rfl))
      (try simp only [Act.put])
      refine wpAnyH_take (i := 2) (v := ?_) rfl (by kernel_rfl) (by kernel_rfl) (by kernel_rfl) (fun _ _ _ h => h) (Or.inl ⟨by rfl, ?_⟩) (by assumption) ?_
      rotate_left
      · (intro w' hSw; (try dsimp only at hSw); go_simp; (try with_reducible rfl))
      (try simp only [Act.put])
      refine wpAnyH_take (i := 5) (v := ?_) rfl (by kernel_rfl) (by kernel_rfl) (by kernel_rfl) (fun _ _ _ h => h) (Or.inl ⟨by rfl, ?_⟩) (by assumption) ?_
      rotate_left
      · (intro w' hSw; (try dsimp only at hSw); go_simp; (try with_reducible rfl))
      (try simp only [Act.put])
      refine wpAnyH_take (i := 6) (v := ?_) rfl (by kernel_rfl) (by kernel_rfl) (by kernel_rfl) (fun _ _ _ h => h) (Or.inl ⟨by rfl, ?_⟩) (by assumption) ?_
      rotate_left
      · (intro w' hSw; (try dsimp only at hSw); go_simp; (try with_reducible rfl))
      (try simp only [Act.put])
      refine wpAnyH_take (i := 7) (v := ?_) rfl (by kernel_rfl) (by kernel_rfl) (by kernel_rfl) (fun _ _ _ h => h) (Or.inl ⟨by rfl, ?_⟩) (by assumption) ?_
      rotate_left
      · (intro w' hSw; (try dsimp only at hSw); go_simp; (try with_reducible rfl))
      (try simp only [Act.put])
      refine wpAnyH_take (i := 8) (v := ?_) rfl (by kernel_rfl) (by kernel_rfl) (by kernel_rfl) (fun _ _ _ h => h) (Or.inl ⟨by rfl, ?_⟩) (by assumption) ?_
      rotate_left
      · (intro w' hSw; (try dsimp only at hSw); go_simp; (try with_reducible rfl))
      (try simp only [Act.put])
      refine wpAnyH_take (i := 9) (v := ?_) rfl (by kernel_rfl) (by kernel_rfl) (by kernel_rfl) (fun _ _ _ h => h) (Or.inl ⟨by rfl, ?_⟩) (by assumption) ?_
      rotate_left
      · (intro w' hSw; (try dsimp only at hSw); go_simp; (try with_reducible rfl))
      (try simp only [Act.put])
      refine wpAnyH_take (i := 10) (v := ?_) rfl (by kernel_rfl) (by kernel_rfl) (by kernel_rfl) (fun _ _ _ h => h) (Or.inl ⟨by rfl, ?_⟩) (by assumption) ?_
      rotate_left
      · (intro w' hSw; (try dsimp only at hSw); go_simp; (try with_reducible rfl))
      (try simp only [Act.put])
      refine wpAnyH_take (i := 11) (v := ?_) rfl (by kernel_rfl) (by kernel_rfl) (by kernel_rfl) (fun _ _ _ h => h) (Or.inl ⟨by rfl, ?_⟩) (by assumption) ?_
      rotate_left
      · (intro w' hSw; (try dsimp only at hSw); go_simp; (try with_reducible rfl))
      (try simp only [Act.put])
      refine wpAnyH_ready (rs := [3, 13]) (by kernel_rfl) (by simp) ?_
      refine AllReadyH.cons rfl (fun K hK => ?_) (AllReadyH.cons rfl (fun K hK => ?_) AllReadyH.nil)
      · go_simp
        refine hK.out _ _ (by refine si_of HSI ?_; repeat' (first | exact ins_refl _ _ | (with_reducible refine ins_eq HW1.out ?_) | refine ins_drew ?_ | refine ins_alloc ?_ _ | (with_reducible refine ins_setg ?_ _) | (with_reducible refine ins_setb ?_ (by omega) _))) (fun hHeld => ?_)
        clear hK K
        refine wpAnyH_ready (rs := [4, 13]) (by kernel_rfl) (by simp) ?_
        refine AllReadyH.cons rfl (fun K hK => ?_) (AllReadyH.cons rfl (fun K hK => ?_) AllReadyH.nil)
        · refine step_app_one (by rfl) (.tmp 16) (.tmp 18) 48 (by rfl) 56 i0 Tryd.underlying48 hi0 hz1 g k c (by rfl) _ 1 (.pointer (some ⟨d, 0, none⟩)) (by rfl) (by simp [go_sem]) (by rfl) (by omega) (HG2.out _ (by repeat' (first | exact Below.refl _ w2 | refine Below.alloc ?_ (by simp; try omega) _ | refine below_drew1 ?_))) ?_
          intro w1 HW1
          obtain ⟨z1, z2⟩ := app_far HW1.out w2.heap.size (by omega)
          obtain ⟨z3, z4⟩ := app_far HW1.out (w2.heap.size + 1) (by omega)
          refine hK.out _ _ (by refine si_of HSI ?_; repeat' (first | exact ins_refl _ _ | (with_reducible refine ins_eq HW1.out ?_) | refine ins_drew ?_ | refine ins_alloc ?_ _ | (with_reducible refine ins_setg ?_ _) | (with_reducible refine ins_setb ?_ (by omega) _))) (fun hHeld => ?_)
          clear hK K
          refine wpAnyH_take (i := 12) (v := ?_) rfl (by kernel_rfl) (by kernel_rfl) (by kernel_rfl) (fun _ _ _ h => h) (Or.inl ⟨by rfl, ?_⟩) (by assumption) ?_
          rotate_left
          · (intro w' hSw; (try dsimp only at hSw); go_simp; (try with_reducible rfl))
          (try simp only [Act.put, List.setIfInBounds_toArray])
          refine wpAnyH_ready (rs := [13]) (by kernel_rfl) (by simp) ?_
          refine AllReadyH.cons rfl (fun K hK => ?_) AllReadyH.nil
          go_simp
          refine hK.out _ _ (by refine si_of HSI ?_; repeat' (first | exact ins_refl _ _ | (with_reducible refine ins_eq HW1.out ?_) | refine ins_drew ?_ | refine ins_alloc ?_ _ | (with_reducible refine ins_setg ?_ _) | (with_reducible refine ins_setb ?_ (by omega) _))) (fun hHeld => ?_)
          clear hK K
          refine wpAnyH_ready (rs := [14]) (by kernel_rfl) (by simp) ?_
          refine AllReadyH.cons rfl (fun K hK => ?_) AllReadyH.nil
          go_simp
          refine hK.out _ _ (by refine si_of HSI ?_; repeat' (first | exact ins_refl _ _ | (with_reducible refine ins_eq HW1.out ?_) | refine ins_drew ?_ | refine ins_alloc ?_ _ | (with_reducible refine ins_setg ?_ _) | (with_reducible refine ins_setb ?_ (by omega) _))) (fun hHeld => ?_)
          clear hK K
          refine wpAnyH_done (by kernel_rfl) ?_ _
          go_wp2_with (fail)
          go_meet
          refine ⟨_, rfl, ?_, ?_, ?_, Lib.hid ?_⟩
          · first | (simp [go_sem]; done) | (simp [go_sem, z1, z2, z3, z4]; done)
          · first | (simp [go_sem]; done) | (simp [go_sem, z1, z2, z3, z4]; done)
          · first | (simp [go_sem]; done) | (simp [go_sem, z1, z2, z3, z4]; done)
          · repeat' (first | (with_reducible refine laid_alloc ?_ _) | (with_reducible refine laid_setb ?_ (by omega) _) | (with_reducible refine laid_drew ?_) | (with_reducible refine laid_eq HW1.out (laid_of ?_)) | exact Below.refl _ w2 | (with_reducible refine below_drew1 ?_) | refine Below.alloc ?_ (by simp; try omega) _)
        · go_simp
          refine hK.out _ _ (by refine si_of HSI ?_; repeat' (first | exact ins_refl _ _ | (with_reducible refine ins_eq HW1.out ?_) | refine ins_drew ?_ | refine ins_alloc ?_ _ | (with_reducible refine ins_setg ?_ _) | (with_reducible refine ins_setb ?_ (by omega) _))) (fun hHeld => ?_)
          clear hK K
          refine wpAnyH_ready (rs := [4]) (by kernel_rfl) (by simp) ?_
          refine AllReadyH.cons rfl (fun K hK => ?_) AllReadyH.nil
          refine step_app_one (by rfl) (.tmp 16) (.tmp 18) 48 (by rfl) 56 i0 Tryd.underlying48 hi0 hz1 g k c (by rfl) _ 1 (.pointer (some ⟨d, 0, none⟩)) (by rfl) (by simp [go_sem]) (by rfl) (by omega) (HG2.out _ (by repeat' (first | exact Below.refl _ w2 | refine Below.alloc ?_ (by simp; try omega) _ | refine below_drew1 ?_))) ?_
          intro w1 HW1
          obtain ⟨z1, z2⟩ := app_far HW1.out w2.heap.size (by omega)
          obtain ⟨z3, z4⟩ := app_far HW1.out (w2.heap.size + 1) (by omega)
          refine hK.out _ _ (by refine si_of HSI ?_; repeat' (first | exact ins_refl _ _ | (with_reducible refine ins_eq HW1.out ?_) | refine ins_drew ?_ | refine ins_alloc ?_ _ | (with_reducible refine ins_setg ?_ _) | (with_reducible refine ins_setb ?_ (by omega) _))) (fun hHeld => ?_)
          clear hK K
          refine wpAnyH_take (i := 12) (v := ?_) rfl (by kernel_rfl) (by kernel_rfl) (by kernel_rfl) (fun _ _ _ h => h) (Or.inl ⟨by rfl, ?_⟩) (by assumption) ?_
          rotate_left
          · (intro w' hSw; (try dsimp only at hSw); go_simp; (try with_reducible rfl))
          (try simp only [Act.put, List.setIfInBounds_toArray])
          refine wpAnyH_ready (rs := [14]) (by kernel_rfl) (by simp) ?_
          refine AllReadyH.cons rfl (fun K hK => ?_) AllReadyH.nil
          go_simp
          refine hK.out _ _ (by refine si_of HSI ?_; repeat' (first | exact ins_refl _ _ | (with_reducible refine ins_eq HW1.out ?_) | refine ins_drew ?_ | refine ins_alloc ?_ _ | (with_reducible refine ins_setg ?_ _) | (with_reducible refine ins_setb ?_ (by omega) _))) (fun hHeld => ?_)
          clear hK K
          refine wpAnyH_done (by kernel_rfl) ?_ _
          go_wp2_with (fail)
          go_meet
          refine ⟨_, rfl, ?_, ?_, ?_, Lib.hid ?_⟩
          · first | (simp [go_sem]; done) | (simp [go_sem, z3]; done)
          · first | (simp [go_sem]; done) | (simp [go_sem, z3]; done)
          · first | (simp [go_sem]; done) | (simp [go_sem, z3]; done)
          · repeat' (first | (with_reducible refine laid_alloc ?_ _) | (with_reducible refine laid_setb ?_ (by omega) _) | (with_reducible refine laid_drew ?_) | (with_reducible refine laid_eq HW1.out (laid_of ?_)) | exact Below.refl _ w2 | (with_reducible refine below_drew1 ?_) | refine Below.alloc ?_ (by simp; try omega) _)
      · go_simp
        refine hK.out _ _ (by refine si_of HSI ?_; repeat' (first | exact ins_refl _ _ | (with_reducible refine ins_eq HW1.out ?_) | refine ins_drew ?_ | refine ins_alloc ?_ _ | (with_reducible refine ins_setg ?_ _) | (with_reducible refine ins_setb ?_ (by omega) _))) (fun hHeld => ?_)
        clear hK K
        refine wpAnyH_ready (rs := [3]) (by kernel_rfl) (by simp) ?_
        refine AllReadyH.cons rfl (fun K hK => ?_) AllReadyH.nil
        go_simp
        refine hK.out _ _ (by refine si_of HSI ?_; repeat' (first | exact ins_refl _ _ | (with_reducible refine ins_eq HW1.out ?_) | refine ins_drew ?_ | refine ins_alloc ?_ _ | (with_reducible refine ins_setg ?_ _) | (with_reducible refine ins_setb ?_ (by omega) _))) (fun hHeld => ?_)
        clear hK K
        refine wpAnyH_ready (rs := [4]) (by kernel_rfl) (by simp) ?_
        refine AllReadyH.cons rfl (fun K hK => ?_) AllReadyH.nil
        refine step_app_one (by rfl) (.tmp 16) (.tmp 18) 48 (by rfl) 56 i0 Tryd.underlying48 hi0 hz1 g k c (by rfl) _ 1 (.pointer (some ⟨d, 0, none⟩)) (by rfl) (by simp [go_sem]) (by rfl) (by omega) (HG2.out _ (by repeat' (first | exact Below.refl _ w2 | refine Below.alloc ?_ (by simp; try omega) _ | refine below_drew1 ?_))) ?_
        intro w1 HW1
        obtain ⟨z1, z2⟩ := app_far HW1.out w2.heap.size (by omega)
        obtain ⟨z3, z4⟩ := app_far HW1.out (w2.heap.size + 1) (by omega)
        refine hK.out _ _ (by refine si_of HSI ?_; repeat' (first | exact ins_refl _ _ | (with_reducible refine ins_eq HW1.out ?_) | refine ins_drew ?_ | refine ins_alloc ?_ _ | (with_reducible refine ins_setg ?_ _) | (with_reducible refine ins_setb ?_ (by omega) _))) (fun hHeld => ?_)
        clear hK K
        refine wpAnyH_take (i := 12) (v := ?_) rfl (by kernel_rfl) (by kernel_rfl) (by kernel_rfl) (fun _ _ _ h => h) (Or.inl ⟨by rfl, ?_⟩) (by assumption) ?_
        rotate_left
        · (intro w' hSw; (try dsimp only at hSw); go_simp; (try with_reducible rfl))
        (try simp only [Act.put, List.setIfInBounds_toArray])
        refine wpAnyH_ready (rs := [14]) (by kernel_rfl) (by simp) ?_
        refine AllReadyH.cons rfl (fun K hK => ?_) AllReadyH.nil
        go_simp
        refine hK.out _ _ (by refine si_of HSI ?_; repeat' (first | exact ins_refl _ _ | (with_reducible refine ins_eq HW1.out ?_) | refine ins_drew ?_ | refine ins_alloc ?_ _ | (with_reducible refine ins_setg ?_ _) | (with_reducible refine ins_setb ?_ (by omega) _))) (fun hHeld => ?_)
        clear hK K
        refine wpAnyH_done (by kernel_rfl) ?_ _
        go_wp2_with (fail)
        go_meet
        refine ⟨_, rfl, ?_, ?_, ?_, Lib.hid ?_⟩
        · first | (simp [go_sem]; done) | (simp [go_sem, z1]; done)
        · first | (simp [go_sem]; done) | (simp [go_sem, z1]; done)
        · first | (simp [go_sem]; done) | (simp [go_sem, z1]; done)
        · repeat' (first | (with_reducible refine laid_alloc ?_ _) | (with_reducible refine laid_setb ?_ (by omega) _) | (with_reducible refine laid_drew ?_) | (with_reducible refine laid_eq HW1.out (laid_of ?_)) | exact Below.refl _ w2 | (with_reducible refine below_drew1 ?_) | refine Below.alloc ?_ (by simp; try omega) _)
    · clear HND
      refine wp_region_held_drew (S := fun w' => SI w2 g d p mv (.iface t v) (.slice (some ⟨g, 0, none⟩) k c) name w') (by kernel_rfl) hS0 (fun hHeld => ?_)
      refine wpAnyH_take (i := 0) (v := ?_) rfl (by kernel_rfl) (by kernel_rfl) (by kernel_rfl) (fun _ _ _ h => h) (Or.inl ⟨by rfl, ?_⟩) (by assumption) ?_
      rotate_left
      · (intro w' hSw; (try dsimp only at hSw); go_simp; (try with_reducible rfl))
      (try simp only [Act.put, List.setIfInBounds_toArray])
      refine wpAnyH_take (i := 1) (v := ?_) rfl (by kernel_rfl) (by kernel_rfl) (by kernel_rfl) (fun _ _ _ h => h) (Or.inl ⟨by rfl, ?_⟩) (by assumption) ?_
      rotate_left
      · (intro w' hSw; (try dsimp only at hSw); go_simp; (try with_reducible rfl))
      (try simp only [Act.put])
      refine wpAnyH_take (i := 2) (v := ?_) rfl (by kernel_rfl) (by kernel_rfl) (by kernel_rfl) (fun _ _ _ h => h) (Or.inl ⟨by rfl, ?_⟩) (by assumption) ?_
      rotate_left
      · (intro w' hSw; (try dsimp only at hSw); go_simp; (try with_reducible rfl))
      (try simp only [Act.put])
      refine wpAnyH_take (i := 5) (v := ?_) rfl (by kernel_rfl) (by kernel_rfl) (by kernel_rfl) (fun _ _ _ h => h) (Or.inl ⟨by rfl, ?_⟩) (by assumption) ?_
      rotate_left
      · (intro w' hSw; (try dsimp only at hSw); go_simp; (try with_reducible rfl))
      (try simp only [Act.put])
      refine wpAnyH_take (i := 6) (v := ?_) rfl (by kernel_rfl) (by kernel_rfl) (by kernel_rfl) (fun _ _ _ h => h) (Or.inl ⟨by rfl, ?_⟩) (by assumption) ?_
      rotate_left
      · (intro w' hSw; (try dsimp only at hSw); go_simp; (try with_reducible rfl))
      (try simp only [Act.put])
      refine wpAnyH_take (i := 7) (v := ?_) rfl (by kernel_rfl) (by kernel_rfl) (by kernel_rfl) (fun _ _ _ h => h) (Or.inl ⟨by rfl, ?_⟩) (by assumption) ?_
      rotate_left
      · (intro w' hSw; (try dsimp only at hSw); go_simp; (try with_reducible rfl))
      (try simp only [Act.put])
      refine wpAnyH_take (i := 8) (v := ?_) rfl (by kernel_rfl) (by kernel_rfl) (by kernel_rfl) (fun _ _ _ h => h) (Or.inl ⟨by rfl, ?_⟩) (by assumption) ?_
      rotate_left
      · (intro w' hSw; (try dsimp only at hSw); go_simp; (try with_reducible rfl))
      (try simp only [Act.put])
      refine wpAnyH_take (i := 9) (v := ?_) rfl (by kernel_rfl) (by kernel_rfl) (by kernel_rfl) (fun _ _ _ h => h) (Or.inl ⟨by rfl, ?_⟩) (by assumption) ?_
      rotate_left
      · (intro w' hSw; (try dsimp only at hSw); go_simp; (try with_reducible rfl))
      (try simp only [Act.put])
      refine wpAnyH_take (i := 10) (v := ?_) rfl (by kernel_rfl) (by kernel_rfl) (by kernel_rfl) (fun _ _ _ h => h) (Or.inl ⟨by rfl, ?_⟩) (by assumption) ?_
      rotate_left
      · (intro w' hSw; (try dsimp only at hSw); go_simp; (try with_reducible rfl))
      (try simp only [Act.put])
      refine wpAnyH_take (i := 11) (v := ?_) rfl (by kernel_rfl) (by kernel_rfl) (by kernel_rfl) (fun _ _ _ h => h) (Or.inl ⟨by rfl, ?_⟩) (by assumption) ?_
      rotate_left
      · (intro w' hSw; (try dsimp only at hSw); go_simp; (try with_reducible rfl))
      (try simp only [Act.put])
      refine wpAnyH_ready (rs := [3, 13]) (by kernel_rfl) (by simp) ?_
      refine AllReadyH.cons rfl (fun K hK => ?_) (AllReadyH.cons rfl (fun K hK => ?_) AllReadyH.nil)
      · go_simp
        refine hK.out _ _ (by refine si_of HSI ?_; repeat' (first | exact ins_refl _ _ | (with_reducible refine ins_eq HW1.out ?_) | refine ins_drew ?_ | refine ins_alloc ?_ _ | (with_reducible refine ins_setg ?_ _) | (with_reducible refine ins_setb ?_ (by omega) _))) (fun hHeld => ?_)
        clear hK K
        refine wpAnyH_ready (rs := [4, 13]) (by kernel_rfl) (by simp) ?_
        refine AllReadyH.cons rfl (fun K hK => ?_) (AllReadyH.cons rfl (fun K hK => ?_) AllReadyH.nil)
        · refine step_app_one (by rfl) (.tmp 16) (.tmp 18) 48 (by rfl) 56 i0 Tryd.underlying48 hi0 hz1 g k c (by rfl) _ 1 (.pointer (some ⟨d, 0, none⟩)) (by rfl) (by simp [go_sem]) (by rfl) (by omega) (HG2.out _ (by repeat' (first | exact Below.refl _ w2 | refine Below.alloc ?_ (by simp; try omega) _ | refine below_drew1 ?_))) ?_
          intro w1 HW1
          obtain ⟨z1, z2⟩ := app_far HW1.out w2.heap.size (by omega)
          obtain ⟨z3, z4⟩ := app_far HW1.out (w2.heap.size + 1) (by omega)
          refine hK.out _ _ (by refine si_of HSI ?_; repeat' (first | exact ins_refl _ _ | (with_reducible refine ins_eq HW1.out ?_) | refine ins_drew ?_ | refine ins_alloc ?_ _ | (with_reducible refine ins_setg ?_ _) | (with_reducible refine ins_setb ?_ (by omega) _))) (fun hHeld => ?_)
          clear hK K
          refine wpAnyH_take (i := 12) (v := ?_) rfl (by kernel_rfl) (by kernel_rfl) (by kernel_rfl) (fun _ _ _ h => h) (Or.inl ⟨by rfl, ?_⟩) (by assumption) ?_
          rotate_left
          · (intro w' hSw; (try dsimp only at hSw); go_simp; (try with_reducible rfl))
          (try simp only [Act.put, List.setIfInBounds_toArray])
          refine wpAnyH_ready (rs := [13]) (by kernel_rfl) (by simp) ?_
          refine AllReadyH.cons rfl (fun K hK => ?_) AllReadyH.nil
          go_simp
          refine hK.out _ _ (by refine si_of HSI ?_; repeat' (first | exact ins_refl _ _ | (with_reducible refine ins_eq HW1.out ?_) | refine ins_drew ?_ | refine ins_alloc ?_ _ | (with_reducible refine ins_setg ?_ _) | (with_reducible refine ins_setb ?_ (by omega) _))) (fun hHeld => ?_)
          clear hK K
          refine wpAnyH_ready (rs := [14]) (by kernel_rfl) (by simp) ?_
          refine AllReadyH.cons rfl (fun K hK => ?_) AllReadyH.nil
          go_simp
          refine hK.out _ _ (by refine si_of HSI ?_; repeat' (first | exact ins_refl _ _ | (with_reducible refine ins_eq HW1.out ?_) | refine ins_drew ?_ | refine ins_alloc ?_ _ | (with_reducible refine ins_setg ?_ _) | (with_reducible refine ins_setb ?_ (by omega) _))) (fun hHeld => ?_)
          clear hK K
          refine wpAnyH_done (by kernel_rfl) ?_ _
          go_wp2_with (fail)
          go_meet
          refine ⟨_, rfl, ?_, ?_, ?_, Lib.hid ?_⟩
          · first | (simp [go_sem]; done) | (simp [go_sem, z1, z2, z3, z4]; done)
          · first | (simp [go_sem]; done) | (simp [go_sem, z1, z2, z3, z4]; done)
          · first | (simp [go_sem]; done) | (simp [go_sem, z1, z2, z3, z4]; done)
          · repeat' (first | (with_reducible refine laid_alloc ?_ _) | (with_reducible refine laid_setb ?_ (by omega) _) | (with_reducible refine laid_drew ?_) | (with_reducible refine laid_eq HW1.out (laid_of ?_)) | exact Below.refl _ w2 | (with_reducible refine below_drew1 ?_) | refine Below.alloc ?_ (by simp; try omega) _)
        · go_simp
          refine hK.out _ _ (by refine si_of HSI ?_; repeat' (first | exact ins_refl _ _ | (with_reducible refine ins_eq HW1.out ?_) | refine ins_drew ?_ | refine ins_alloc ?_ _ | (with_reducible refine ins_setg ?_ _) | (with_reducible refine ins_setb ?_ (by omega) _))) (fun hHeld => ?_)
          clear hK K
          refine wpAnyH_ready (rs := [4]) (by kernel_rfl) (by simp) ?_
          refine AllReadyH.cons rfl (fun K hK => ?_) AllReadyH.nil
          refine step_app_one (by rfl) (.tmp 16) (.tmp 18) 48 (by rfl) 56 i0 Tryd.underlying48 hi0 hz1 g k c (by rfl) _ 1 (.pointer (some ⟨d, 0, none⟩)) (by rfl) (by simp [go_sem]) (by rfl) (by omega) (HG2.out _ (by repeat' (first | exact Below.refl _ w2 | refine Below.alloc ?_ (by simp; try omega) _ | refine below_drew1 ?_))) ?_
          intro w1 HW1
          obtain ⟨z1, z2⟩ := app_far HW1.out w2.heap.size (by omega)
          obtain ⟨z3, z4⟩ := app_far HW1.out (w2.heap.size + 1) (by omega)
          refine hK.out _ _ (by refine si_of HSI ?_; repeat' (first | exact ins_refl _ _ | (with_reducible refine ins_eq HW1.out ?_) | refine ins_drew ?_ | refine ins_alloc ?_ _ | (with_reducible refine ins_setg ?_ _) | (with_reducible refine ins_setb ?_ (by omega) _))) (fun hHeld => ?_)
          clear hK K
          refine wpAnyH_take (i := 12) (v := ?_) rfl (by kernel_rfl) (by kernel_rfl) (by kernel_rfl) (fun _ _ _ h => h) (Or.inl ⟨by rfl, ?_⟩) (by assumption) ?_
          rotate_left
          · (intro w' hSw; (try dsimp only at hSw); go_simp; (try with_reducible rfl))
          (try simp only [Act.put, List.setIfInBounds_toArray])
          refine wpAnyH_ready (rs := [14]) (by kernel_rfl) (by simp) ?_
          refine AllReadyH.cons rfl (fun K hK => ?_) AllReadyH.nil
          go_simp
          refine hK.out _ _ (by refine si_of HSI ?_; repeat' (first | exact ins_refl _ _ | (with_reducible refine ins_eq HW1.out ?_) | refine ins_drew ?_ | refine ins_alloc ?_ _ | (with_reducible refine ins_setg ?_ _) | (with_reducible refine ins_setb ?_ (by omega) _))) (fun hHeld => ?_)
          clear hK K
          refine wpAnyH_done (by kernel_rfl) ?_ _
          go_wp2_with (fail)
          go_meet
          refine ⟨_, rfl, ?_, ?_, ?_, Lib.hid ?_⟩
          · first | (simp [go_sem]; done) | (simp [go_sem, z3]; done)
          · first | (simp [go_sem]; done) | (simp [go_sem, z3]; done)
          · first | (simp [go_sem]; done) | (simp [go_sem, z3]; done)
          · repeat' (first | (with_reducible refine laid_alloc ?_ _) | (with_reducible refine laid_setb ?_ (by omega) _) | (with_reducible refine laid_drew ?_) | (with_reducible refine laid_eq HW1.out (laid_of ?_)) | exact Below.refl _ w2 | (with_reducible refine below_drew1 ?_) | refine Below.alloc ?_ (by simp; try omega) _)
      · go_simp
        refine hK.out _ _ (by refine si_of HSI ?_; repeat' (first | exact ins_refl _ _ | (with_reducible refine ins_eq HW1.out ?_) | refine ins_drew ?_ | refine ins_alloc ?_ _ | (with_reducible refine ins_setg ?_ _) | (with_reducible refine ins_setb ?_ (by omega) _))) (fun hHeld => ?_)
        clear hK K
        refine wpAnyH_ready (rs := [3]) (by kernel_rfl) (by simp) ?_
        refine AllReadyH.cons rfl (fun K hK => ?_) AllReadyH.nil
        go_simp
        refine hK.out _ _ (by refine si_of HSI ?_; repeat' (first | exact ins_refl _ _ | (with_reducible refine ins_eq HW1.out ?_) | refine ins_drew ?_ | refine ins_alloc ?_ _ | (with_reducible refine ins_setg ?_ _) | (with_reducible refine ins_setb ?_ (by omega) _))) (fun hHeld => ?_)
        clear hK K
        refine wpAnyH_ready (rs := [4]) (by kernel_rfl) (by simp) ?_
        refine AllReadyH.cons rfl (fun K hK => ?_) AllReadyH.nil
        refine step_app_one (by rfl) (.tmp 16) (.tmp 18) 48 (by rfl) 56 i0 Tryd.underlying48 hi0 hz1 g k c (by rfl) _ 1 (.pointer (some ⟨d, 0, none⟩)) (by rfl) (by simp [go_sem]) (by rfl) (by omega) (HG2.out _ (by repeat' (first | exact Below.refl _ w2 | refine Below.alloc ?_ (by simp; try omega) _ | refine below_drew1 ?_))) ?_
        intro w1 HW1
        obtain ⟨z1, z2⟩ := app_far HW1.out w2.heap.size (by omega)
        obtain ⟨z3, z4⟩ := app_far HW1.out (w2.heap.size + 1) (by omega)
        refine hK.out _ _ (by refine si_of HSI ?_; repeat' (first | exact ins_refl _ _ | (with_reducible refine ins_eq HW1.out ?_) | refine ins_drew ?_ | refine ins_alloc ?_ _ | (with_reducible refine ins_setg ?_ _) | (with_reducible refine ins_setb ?_ (by omega) _))) (fun hHeld => ?_)
        clear hK K
        refine wpAnyH_take (i := 12) (v := ?_) rfl (by kernel_rfl) (by kernel_rfl) (by kernel_rfl) (fun _ _ _ h => h) (Or.inl ⟨by rfl, ?_⟩) (by assumption) ?_
        rotate_left
        · (intro w' hSw; (try dsimp only at hSw); go_simp; (try with_reducible rfl))
        (try simp only [Act.put, List.setIfInBounds_toArray])
        refine wpAnyH_ready (rs := [14]) (by kernel_rfl) (by simp) ?_
        refine AllReadyH.cons rfl (fun K hK => ?_) AllReadyH.nil
        go_simp
        refine hK.out _ _ (by refine si_of HSI ?_; repeat' (first | exact ins_refl _ _ | (with_reducible refine ins_eq HW1.out ?_) | refine ins_drew ?_ | refine ins_alloc ?_ _ | (with_reducible refine ins_setg ?_ _) | (with_reducible refine ins_setb ?_ (by omega) _))) (fun hHeld => ?_)
        clear hK K
        refine wpAnyH_done (by kernel_rfl) ?_ _
        go_wp2_with (fail)
        go_meet
        refine ⟨_, rfl, ?_, ?_, ?_, Lib.hid ?_⟩
        · first | (simp [go_sem]; done) | (simp [go_sem, z1]; done)
        · first | (simp [go_sem]; done) | (simp [go_sem, z1]; done)
        · first | (simp [go_sem]; done) | (simp [go_sem, z1]; done)
        · repeat' (first | (with_reducible refine laid_alloc ?_ _) | (with_reducible refine laid_setb ?_ (by omega) _) | (with_reducible refine laid_drew ?_) | (with_reducible refine laid_eq HW1.out (laid_of ?_)) | exact Below.refl _ w2 | (with_reducible refine below_drew1 ?_) | refine Below.alloc ?_ (by simp; try omega) _)
  case rest =>
    obtain ⟨q, rfl, hq0, hq1, hq2, HL⟩ := hcut
    have hbr : wc.heap[p + 1]? = some (.cells #[.slice none 0 0, .string ⟨#[]⟩, .nilIface] 52 (0, 0)) := by
      refine (HL.out.block (p + 1) ?_).trans ((Below.heap_setCell _ _ _ _ ?_).trans HR0.out.2.1)
      · have := HR0.out.2.2.1
        simp []
        omega
      · have := HR0.out.2.2.2.2
        show p + 1 ≠ g
        omega
    have r0 : wc.cell? ⟨p + 1, 0, none⟩ = some (.slice none 0 0) := by simp [World.cell?, hbr]
    have r1 : wc.cell? ⟨p + 1, 1, none⟩ = some (.string ⟨#[]⟩) := by simp [World.cell?, hbr]
    have r2 : wc.cell? ⟨p + 1, 2, none⟩ = some .nilIface := by simp [World.cell?, hbr]
    have rf : ∀ j, wc.frozen? ⟨p + 1, j, none⟩ = false := fun j => by simp [World.frozen?, hbr]
    have HLW : Hid (Laid1 w g k d wc) := Lib.hid (laid_up HR0.out.1 HL.out)

    clear hbr HL hS0 HSI HG2
    have hnd := HND.out
    rcases hgn : G name with _ | ⟨_ | _, x⟩
    · rw [hgn] at hnd
      subst hnd
      have he : er = 70 := by rw [HER.out, hgn]; rfl
      subst he
      change wc.cell? ⟨q, 2, none⟩ = some (.nilIface) at hq2
      clear HND hgn HER
      go_wp2
      refine bodyPost_ret (v := .tuple #[.agg #[.slice (some ⟨g, 0, none⟩) (k + 1) c, .string name, .nilIface], .int .i64 70]) (results_cell_two rfl _ _ (p + 1) _ _ _ rfl rfl (range3 ?_ ?_ ?_) Tryd.underlying52 rfl (by kernel_rfl)) rfl ⟨rfl, ?_⟩
      · simp [go_sem, r0]
      · simp [go_sem, r1]
      · simp [go_sem, r2]
      · have hpw := HR0.out.2.2.2.1
        exact laid_setb (laid_setb (laid_setb HLW.out (by omega) _) (by omega) _) (by omega) _
    · rw [hgn] at hnd
      subst hnd
      have he : er = 0 := by rw [HER.out, hgn]; rfl
      subst he
      change wc.cell? ⟨q, 2, none⟩ = some (.iface 72 (.pointer (some ⟨x, 0, none⟩))) at hq2
      clear HND hgn HER
      go_wp2
      refine bodyPost_ret (v := .tuple #[.agg #[.slice (some ⟨g, 0, none⟩) (k + 1) c, .string name, .iface 72 (.pointer (some ⟨x, 0, none⟩))], .int .i64 0]) (results_cell_two rfl _ _ (p + 1) _ _ _ rfl rfl (range3 ?_ ?_ ?_) Tryd.underlying52 rfl (by kernel_rfl)) rfl ⟨rfl, ?_⟩
      · simp [go_sem, r0]
      · simp [go_sem, r1]
      · simp [go_sem, r2]
      · have hpw := HR0.out.2.2.2.1
        exact laid_setb (laid_setb (laid_setb HLW.out (by omega) _) (by omega) _) (by omega) _
    · rw [hgn] at hnd
      subst hnd
      have he : er = 0 := by rw [HER.out, hgn]; rfl
      subst he
      change wc.cell? ⟨q, 2, none⟩ = some (.iface 56 (.pointer (some ⟨x, 0, none⟩))) at hq2
      clear HND hgn HER
      go_wp2
      refine bodyPost_ret (v := .tuple #[.agg #[.slice (some ⟨g, 0, none⟩) (k + 1) c, .string name, .iface 56 (.pointer (some ⟨x, 0, none⟩))], .int .i64 0]) (results_cell_two rfl _ _ (p + 1) _ _ _ rfl rfl (range3 ?_ ?_ ?_) Tryd.underlying52 rfl (by kernel_rfl)) rfl ⟨rfl, ?_⟩
      · simp [go_sem, r0]
      · simp [go_sem, r1]
      · simp [go_sem, r2]
      · have hpw := HR0.out.2.2.2.1
        exact laid_setb (laid_setb (laid_setb HLW.out (by omega) _) (by omega) _) (by omega) _
end Go.Proofs.YtoaoikfhdeiabaaDoor
