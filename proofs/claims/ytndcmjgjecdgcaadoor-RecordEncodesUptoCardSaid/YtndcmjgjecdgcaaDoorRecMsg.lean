/- The contracts of the law's own helpers: doc, message. -/
import Derived.Test.YtndcmjgjecdgcaaDoorRecEnc
import Derived.Test.YtndcmjgjecdgcaaDoorAppNew
import Derived.Deep.RegionHeld3
import Derived.Deep.MidRow
import Derived.Deep.DrawnRows
namespace Go.Proofs.YtndcmjgjecdgcaaDoor
open Go.RowKit
attribute [local go_sem ↓] Go.wp_at_zero Go.wp_at_succ
theorem infoInt : (Tryd.prog.info? 3).map (fun i => (i.zero, i.size, i.bytes)) = some (some (.int .i64 0), 1, 8) := by kernel_rfl
theorem infoStr : (Tryd.prog.info? 9).map (fun i => (i.zero, i.size, i.bytes)) = some (some (.string ⟨#[]⟩), 1, 16) := by kernel_rfl
/-- a result that is a struct of the function's own: its cells -/
theorem results_cells {P : Program} {fn : Func} {p : Tmp} {ty : TypeId} (h : fn.results = #[.cell p ty]) (tmps : Array Value) (w : World) (q : Nat) (cs : List Value) (d : TypeDesc)
    (hp : tmps.getD p undef = .pointer (some ⟨q, 0, none⟩)) (hc : w.rangeAt q 0 cs) (hu : P.underlying ty = some d) (hd : d.isRow = true) (hi : (P.info? ty).map (·.size) = some cs.length) :
    (results fn tmps).run P w = .ok (.agg cs.toArray) w := by
  have hp' : tmps[p]?.getD undef = .pointer (some ⟨q, 0, none⟩) := by simpa using hp
  simp [results, h, hp', asAddr, run_loadVar_mid w q 0 ty cs d hc hu hd hi]
theorem range5 {w : World} {q : Nat} {v0 v1 v2 v3 v4 : Value} (h0 : w.cell? ⟨q, 0, none⟩ = some v0) (h1 : w.cell? ⟨q, 1, none⟩ = some v1) (h2 : w.cell? ⟨q, 2, none⟩ = some v2) (h3 : w.cell? ⟨q, 3, none⟩ = some v3) (h4 : w.cell? ⟨q, 4, none⟩ = some v4) : w.rangeAt q 0 [v0, v1, v2, v3, v4] := by
  intro j v hj
  match j, hj with
  | 0, hj => simp at hj; rw [← hj]; exact h0
  | 1, hj => simp at hj; rw [← hj]; exact h1
  | 2, hj => simp at hj; rw [← hj]; exact h2
  | 3, hj => simp at hj; rw [← hj]; exact h3
  | 4, hj => simp at hj; rw [← hj]; exact h4
set_option maxRecDepth 100000 in
theorem doc_any (k c i : Int) (A C : Option Addr) (n cn t ct : Nat) (w : World) :
    Calls Tryd.prog 13 #[.agg #[.int .i64 k, .int .i64 c, .int .i64 i, .slice A n cn, .slice C t ct]] w fun e w' => e = .returned (.agg #[.int .i64 k, .int .i64 c, .int .i64 i, .slice A n cn, .slice C t ct]) ∧ Below w.heap.size w w' := by
  go_enter Tryd.func13, Tryd.ntmps13
  go_wp2
  refine bodyPost_ret (v := .agg #[.int .i64 k, .int .i64 c, .int .i64 i, .slice A n cn, .slice C t ct]) (results_cells rfl _ _ (w.heap.size + 1) _ _ rfl (range5 ?_ ?_ ?_ ?_ ?_) Tryd.underlying33 rfl (by kernel_rfl)) rfl ⟨rfl, ?_⟩
  all_goals first | (simp; done) | skip
  exact (((Below.refl _ _).alloc (Nat.le_refl _) _).alloc (by simp) _)
theorem cell_lt {w : World} {q j : Nat} {v : Value} (h : w.cell? ⟨q, j, none⟩ = some v) : q < w.heap.size := by
  rcases Nat.lt_or_ge q w.heap.size with hlt | hge
  · exact hlt
  · simp [World.cell?, Array.getElem?_eq_none hge] at h
/-- five cells that may be written -/
def Five (w : World) (r : Nat) : Prop := ∀ j, j < 5 → (∃ v, w.cell? ⟨r, j, none⟩ = some v) ∧ w.frozen? ⟨r, j, none⟩ = false
theorem Five.below {w w' : World} {r : Nat} (h : Five w r) (hb : Below w.heap.size w w') : Five w' r := fun j hj => by
  obtain ⟨⟨v, hv⟩, hf⟩ := h j hj
  have e : w'.heap[r]? = w.heap[r]? := hb.block r (cell_lt hv)
  exact ⟨⟨v, (World.cell?_of_block (a := ⟨r, _, none⟩) e).trans hv⟩, (World.frozen?_of_block (a := ⟨r, _, none⟩) e).trans hf⟩
theorem Five.set {w : World} {r : Nat} (h : Five w r) (i : Nat) (u : Value) : Five (w.setCell ⟨r, i, none⟩ u) r := fun j hj => by
  obtain ⟨⟨v, hv⟩, hf⟩ := h j hj
  refine ⟨?_, by rw [World.frozen?_setCell]; exact hf⟩
  by_cases hij : i = j
  · subst hij
    exact ⟨u, World.cell?_setCell_same _ _ _ hv⟩
  · exact ⟨v, (World.cell?_setCell_other _ _ _ _ (by intro e; injection e with _ e2; exact hij e2)).trans hv⟩
/-- the box of a letter, and the box of the result, in any world behind w0 -/
abbrev LB (w0 : World) (q r : Nat) (k c i : Int) (A : Option Addr) (n cn : Nat) (C : Option Addr) (t ct : Nat) (w : World) : Prop :=
  Hid (Below w0.heap.size w0 w ∧ Five w r ∧ q ≠ r ∧ w0.heap.size ≤ r) ∧ (w.cell? ⟨q, 0, none⟩ = some (.int .i64 k) ∧ w.cell? ⟨q, 1, none⟩ = some (.int .i64 c) ∧ w.cell? ⟨q, 2, none⟩ = some (.int .i64 i) ∧ w.cell? ⟨q, 3, none⟩ = some (.slice A n cn) ∧ w.cell? ⟨q, 4, none⟩ = some (.slice C t ct))
section
variable {w0 w w' : World} {q r : Nat} {k c i : Int} {A : Option Addr} {n cn : Nat} {C : Option Addr} {t ct : Nat}
theorem lb_below (h : LB w0 q r k c i A n cn C t ct w) (hb : Below w.heap.size w w') : LB w0 q r k c i A n cn C t ct w' := by
  obtain ⟨h0, ⟨h1, h2, h3, h4, h5⟩⟩ := h
  have e : w'.heap[q]? = w.heap[q]? := hb.block q (cell_lt h1)
  exact ⟨Lib.hid ⟨h0.out.1.trans (hb.mono h0.out.1.size), h0.out.2.1.below hb, h0.out.2.2⟩, ⟨(World.cell?_of_block (a := ⟨q, _, none⟩) e).trans h1, (World.cell?_of_block (a := ⟨q, _, none⟩) e).trans h2, (World.cell?_of_block (a := ⟨q, _, none⟩) e).trans h3, (World.cell?_of_block (a := ⟨q, _, none⟩) e).trans h4, (World.cell?_of_block (a := ⟨q, _, none⟩) e).trans h5⟩⟩
theorem lb_set (h : LB w0 q r k c i A n cn C t ct w) (j : Nat) (u : Value) : LB w0 q r k c i A n cn C t ct (w.setCell ⟨r, j, none⟩ u) := by
  obtain ⟨h0, ⟨h1, h2, h3, h4, h5⟩⟩ := h
  have hne : ∀ l, (⟨r, j, none⟩ : Addr) ≠ ⟨q, l, none⟩ := fun l e => by injection e with e1 _; exact h0.out.2.2.1 e1.symm
  exact ⟨Lib.hid ⟨h0.out.1.setCell h0.out.2.2.2 u, h0.out.2.1.set j u, h0.out.2.2⟩, ⟨(World.cell?_setCell_other _ _ _ _ (hne _)).trans h1, (World.cell?_setCell_other _ _ _ _ (hne _)).trans h2, (World.cell?_setCell_other _ _ _ _ (hne _)).trans h3, (World.cell?_setCell_other _ _ _ _ (hne _)).trans h4, (World.cell?_setCell_other _ _ _ _ (hne _)).trans h5⟩⟩
theorem lb_drew (h : LB w0 q r k c i A n cn C t ct w) : LB w0 q r k c i A n cn C t ct w.drew :=
  lb_below h ⟨rfl, rfl, rfl, Nat.le_refl _, fun _ _ => rfl⟩
theorem lb_undrew (h : LB w0 q r k c i A n cn C t ct w.drew) : LB w0 q r k c i A n cn C t ct w :=
  lb_below h ⟨rfl, rfl, rfl, Nat.le_refl _, fun _ _ => rfl⟩
theorem lb_out (h : LB w0 q r k c i A n cn C t ct w) : Below w0.heap.size w0 w := h.1.out.1
theorem lb_five (h : LB w0 q r k c i A n cn C t ct w) : Five w r := h.1.out.2.1
theorem lb_alloc (h : LB w0 q r k c i A n cn C t ct w) (o : Obj) : LB w0 q r k c i A n cn C t ct (w.alloc o) := lb_below h (below_alloc w o)
end
set_option maxRecDepth 100000 in
set_option maxHeartbeats 4000000 in
theorem message_any (k c i : Int) (A C : Option Addr) (cn ct : Nat) (ns : List Int) (ts : List ByteArray) (w : World) (hM : MsgAt w w.heap.size A C ns ts) :
    Calls Tryd.prog 8 #[.agg #[.int .i64 k, .int .i64 c, .int .i64 i, .slice A ns.length cn, .slice C ts.length ct]] w fun e w' => ∃ A' cn' C' ct', e = .returned (.agg #[.int .i64 k, .int .i64 c, .int .i64 i, .slice A' ns.length cn', .slice C' ts.length ct']) ∧ Below w.heap.size w w' ∧ MsgAt w' w'.heap.size A' C' ns ts := by
  have HM := Lib.hid hM
  have hn8 := hM.nl
  have ht8 := hM.tl
  clear hM
  obtain ⟨i0, hi, hz0, hz1, hz2⟩ := info_parts infoInt
  obtain ⟨j0, hj, hy0, hy1, hy2⟩ := info_parts infoStr
  have HI := Lib.hid hi
  have HI0 := Lib.hid hz0
  have HI1 := Lib.hid hz1
  have HI2 := Lib.hid hz2
  have HJ := Lib.hid hj
  have HJ0 := Lib.hid hy0
  have HJ1 := Lib.hid hy1
  have HJ2 := Lib.hid hy2
  clear hi hz0 hz1 hz2 hj hy0 hy1 hy2
  have hlb : ∀ ty ty', LB w w.heap.size (w.heap.size + 1) k c i A ns.length cn C ts.length ct ((w.alloc (Obj.cells #[.int .i64 k, .int .i64 c, .int .i64 i, .slice A ns.length cn, .slice C ts.length ct] ty)).alloc (Obj.cells #[.int .i64 0, .int .i64 0, .int .i64 0, .slice none 0 0, .slice none 0 0] ty')) := fun ty ty' => by
    refine ⟨Lib.hid ⟨(below_alloc _ _).alloc (by simp) _, ?_, by omega, by omega⟩, ⟨?_, ?_, ?_, ?_, ?_⟩⟩
    · intro j hj
      match j, hj with
      | 0, _ => exact ⟨⟨_, by simp; rfl⟩, by simp [World.frozen?_alloc_at]⟩
      | 1, _ => exact ⟨⟨_, by simp; rfl⟩, by simp [World.frozen?_alloc_at]⟩
      | 2, _ => exact ⟨⟨_, by simp; rfl⟩, by simp [World.frozen?_alloc_at]⟩
      | 3, _ => exact ⟨⟨_, by simp; rfl⟩, by simp [World.frozen?_alloc_at]⟩
      | 4, _ => exact ⟨⟨_, by simp; rfl⟩, by simp [World.frozen?_alloc_at]⟩
    all_goals simp
  go_enter Tryd.func8, Tryd.ntmps8
  go_wp2_with (fail)
  have HB := Lib.hid (hlb 25 27)
  obtain ⟨wb, hwb⟩ : ∃ wb, wb = ((w.alloc (Obj.cells #[.int .i64 k, .int .i64 c, .int .i64 i, .slice A ns.length cn, .slice C ts.length ct] 25)).alloc (Obj.cells #[.int .i64 0, .int .i64 0, .int .i64 0, .slice none 0 0, .slice none 0 0] 27)) := ⟨_, rfl⟩
  have hL0 := HB.out
  rw [← hwb] at hL0 ⊢
  clear hwb HB hlb
  obtain ⟨Q, hQ⟩ : ∃ Q, Q = w.heap.size := ⟨_, rfl⟩
  have HQ := Lib.hid hQ
  rw [← hQ] at hL0 ⊢
  clear hQ
  go_region_held3 (fun w' => LB w Q (Q + 1) k c i A ns.length cn C ts.length ct w') (first | assumption | with_reducible exact lb_set (lb_set (lb_set (lb_set (lb_set (by assumption) _ _) _ _) _ _) _ _) _ _ | with_reducible exact lb_drew (by assumption) | with_reducible exact lb_drew (lb_alloc (lb_undrew (by assumption)) _) | with_reducible exact lb_alloc (lb_undrew (by assumption)) _ | with_reducible exact lb_alloc (by assumption) _ | with_reducible exact lb_drew (lb_alloc (by assumption) _))
    (first
      | (refine step_app_new (by rfl) (.tmp 9) (.tmp 11) 22 (by rfl) 3 i0 (.int .i64 0) 8 Tryd.underlying22 HI.out HI0.out HI1.out HI2.out _ (by rfl) A ns.length cn w.heap.size _ (by rfl) (HM.out.n.below (lb_out (by first | assumption | with_reducible exact lb_undrew (by assumption) | with_reducible exact lb_alloc (lb_undrew (by assumption)) _ | with_reducible exact lb_alloc (by assumption) _ | with_reducible exact lb_drew (by assumption) | with_reducible exact lb_alloc (lb_alloc (by assumption) _) _ | with_reducible exact lb_alloc (lb_drew (by assumption)) _))) (by omega) (by omega) ?_; intro A1 c1 w1 hb1 hs1 hF1; have hL1 := lb_below (by first | assumption | with_reducible exact lb_undrew (by assumption) | with_reducible exact lb_alloc (lb_undrew (by assumption)) _ | with_reducible exact lb_alloc (by assumption) _ | with_reducible exact lb_drew (by assumption) | with_reducible exact lb_alloc (lb_alloc (by assumption) _) _ | with_reducible exact lb_alloc (lb_drew (by assumption)) _) hb1)
      | (refine step_app_new (by rfl) (.tmp 13) (.tmp 15) 23 (by rfl) 9 j0 (.string ⟨#[]⟩) 16 Tryd.underlying23 HJ.out HJ0.out HJ1.out HJ2.out _ (by rfl) C ts.length ct w.heap.size _ (by rfl) (HM.out.t.below (lb_out (by first | assumption | with_reducible exact lb_undrew (by assumption) | with_reducible exact lb_alloc (lb_undrew (by assumption)) _ | with_reducible exact lb_alloc (by assumption) _ | with_reducible exact lb_drew (by assumption) | with_reducible exact lb_alloc (lb_alloc (by assumption) _) _ | with_reducible exact lb_alloc (lb_drew (by assumption)) _))) (by omega) (by omega) ?_; intro A2 c2 w2 hb2 hs2 hF2; have hL2 := lb_below (by first | assumption | with_reducible exact lb_undrew (by assumption) | with_reducible exact lb_alloc (lb_undrew (by assumption)) _ | with_reducible exact lb_alloc (by assumption) _ | with_reducible exact lb_drew (by assumption) | with_reducible exact lb_alloc (lb_alloc (by assumption) _) _ | with_reducible exact lb_alloc (lb_drew (by assumption)) _) hb2; obtain ⟨⟨z0, y0⟩, x0⟩ := lb_five hL2 0 (by omega); obtain ⟨⟨z1, y1⟩, x1⟩ := lb_five hL2 1 (by omega); obtain ⟨⟨z2, y2⟩, x2⟩ := lb_five hL2 2 (by omega); obtain ⟨⟨z3, y3⟩, x3⟩ := lb_five hL2 3 (by omega); obtain ⟨⟨z4, y4⟩, x4⟩ := lb_five hL2 4 (by omega)))
  all_goals
    go_wp2
  all_goals
    have g0 := cell_lt (lb_five hL0 0 (by omega)).1.choose_spec
    have g1 := hb1.size
    have g2 := hb2.size
    simp at g1 g2
    have e1 : Below w1.heap.size w1 w2 := by first | exact hb2 | exact (below_alloc _ _).trans (hb2.mono (by simp))
    have hN1 : ∀ g o, A1 = some ⟨g, o, none⟩ → 0 < ns.length → Q + 1 < g := fun g o e h => by have := hF1 g o e h; (try simp at this); omega
    have hN2 : ∀ g o, A2 = some ⟨g, o, none⟩ → 0 < ts.length → Q + 1 < g := fun g o e h => by have := hF2 g o e h; (try simp at this); omega
    have k1 := ((((((hs1.below e1).up e1.size).set (Q + 1) 0 (.int .i64 k) hN1).set (Q + 1) 1 (.int .i64 c) hN1).set (Q + 1) 2 (.int .i64 i) hN1).set (Q + 1) 3 (.slice A1 ns.length c1) hN1).set (Q + 1) 4 (.slice A2 ts.length c2) hN1
    have k2 := ((((hs2.set (Q + 1) 0 (.int .i64 k) hN2).set (Q + 1) 1 (.int .i64 c) hN2).set (Q + 1) 2 (.int .i64 i) hN2).set (Q + 1) 3 (.slice A1 ns.length c1) hN2).set (Q + 1) 4 (.slice A2 ts.length c2) hN2
    have k3 := lb_out (lb_set (lb_set (lb_set (lb_set (lb_set hL2 0 (.int .i64 k)) 1 (.int .i64 c)) 2 (.int .i64 i)) 3 (.slice A1 ns.length c1)) 4 (.slice A2 ts.length c2))
    have y0' := y0
    refine bodyPost_ret (v := .agg #[.int .i64 k, .int .i64 c, .int .i64 i, .slice A1 ns.length c1, .slice A2 ts.length c2]) (results_cells rfl _ _ (Q + 1) _ _ rfl (range5 ?_ ?_ ?_ ?_ ?_) Tryd.underlying27 rfl (by kernel_rfl)) rfl ⟨A1, c1, A2, c2, rfl, k3, ⟨?_, ?_, HM.out.nb, HM.out.nl, HM.out.tl, HM.out.tb⟩⟩
    · simp [World.cell?_setCell_other, World.cell?_setCell_same', y0]
    · simp [World.cell?_setCell_other, World.cell?_setCell_same', y1]
    · simp [World.cell?_setCell_other, World.cell?_setCell_same', y2]
    · simp [World.cell?_setCell_other, World.cell?_setCell_same', y3]
    · simp [World.cell?_setCell_other, World.cell?_setCell_same', y4]
    · exact k1.up (by simp)
    · exact k2.up (by simp)
end Go.Proofs.YtndcmjgjecdgcaaDoor
