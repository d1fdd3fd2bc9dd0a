/- Package net: a way is cut, or mended. -/
import Derived.Test.YtcahiogjmclnjaaNetMapG
import Derived.Carry
import Derived.WalkSpells
namespace Go.Proofs.Ytcahiogjmclnjaa
open Go.RowKit Go.Maps

/-- nothing has turned but block m and new blocks -/
structure Tu (w w' : World) (m : Nat) : Prop where
  os : w'.os = w.os
  tape : w'.tape = w.tape
  output : w'.output = w.output
  size : w.heap.size ≤ w'.heap.size
  block : ∀ k, k < w.heap.size → ¬ k = m → w'.heap[k]? = w.heap[k]?
theorem tu_of {w w1 w' : World} {m : Nat} (hb : Below w.heap.size w w1) (hg : w1.grownBy w' (some m)) : Tu w w' m :=
  ⟨hg.os.trans hb.os, hg.tape.trans hb.tape, hg.output.trans hb.output, Nat.le_trans hb.size hg.size, fun k hk hne => (hg.block k (Nat.lt_of_lt_of_le hk hb.size) (fun e => hne (by injection e))).trans (hb.block k hk)⟩
theorem Tu.below {w0 w w' : World} {m B : Nat} (h : Tu w w' m) (hb : Below B w0 w) (hm : B ≤ m) (hB : B ≤ w.heap.size) : Below B w0 w' :=
  hb.trans ⟨h.os, h.tape, h.output, h.size, fun k hk => h.block k (by omega) (by omega)⟩
theorem NetAt.tu {w w' : World} {p m : Nat} {N sent : Int} {fl cut : Value} (h : NetAt w p N sent fl cut) (t : Tu w w' m) (hp : ¬ p = m) : NetAt w' p N sent fl cut :=
  have e := t.block p h.lt hp
  ⟨(cell_same e 0).trans h.c0, (cell_same e 1).trans h.c1, (cell_same e 2).trans h.c2, (cell_same e 3).trans h.c3, (frozen_same e 1).trans h.f1, (frozen_same e 2).trans h.f2, (frozen_same e 3).trans h.f3⟩
theorem OneAt.tu {w w' : World} {p g c m : Nat} {N a b : Int} {cut : Value} {s : ByteArray} (h : OneAt w p g c N a b cut s) (t : Tu w w' m) (hp : ¬ p = m) (hg : ¬ g = m) : OneAt w' p g c N a b cut s :=
  have e := t.block g h.gs hg
  ⟨h.net.tu t hp, h.gp, h.cap, Nat.lt_of_lt_of_le h.gs t.size, (cell_same e 0).trans h.k0, (cell_same e 1).trans h.k1, (cell_same e 2).trans h.k2, (cell_same e 3).trans h.k3, fun i => (frozen_same e i).trans (h.kf i)⟩
theorem has_S {w0 w' : World} (p g : Nat) (N a b : Int) (ha : nodeB N a = true) (hb : nodeB N b = true) (hp : w'.cell? ⟨p, 0, none⟩ = some (.int .i64 N)) (h0 : w'.cell? ⟨g, 0, none⟩ = some (.int .i64 a)) (h1 : w'.cell? ⟨g, 1, none⟩ = some (.int .i64 b)) :
    Calls Try.prog 21 #[.pointer (some ⟨p, 0, none⟩), .slice (some ⟨g, 0, none⟩) 2 2] w' fun e w'' => e = .returned (.bool true) ∧ w' = w'' := by
  have h := has_two p g N a b w' hp h0 h1
  rwa [show (nodeB N a && nodeB N b) = true by rw [ha, hb]; rfl] at h
set_option maxRecDepth 100000 in
set_option maxHeartbeats 4000000 in
theorem part_own (p m n : Nat) (N sent a b : Int) (fl : Value) (D : DataW Unit) (w : World) (hn : NetAt w p N sent fl (.map (some m))) (ho : Owns w m n D) (hmax : n < maxLen) (ha : node4 a) (hb : node4 b) (hna : nodeB N a = true) (hnb : nodeB N b = true) (hab : ¬ a = b) :
    Calls Try.prog 15 #[.pointer (some ⟨p, 0, none⟩), .int .i64 a, .int .i64 b, .bool true] w fun e w' => e = .returned (.int .i64 0) ∧ Owns w' m (n + 1) (D.put (kk a b) (.agg [])) ∧ Tu w w' m := by
  have hlt := hn.lt
  have hb1 : Below w.heap.size w (w.alloc (.cells #[.int .i64 a, .int .i64 b] 3)) := (Below.refl _ w).alloc (Nat.le_refl _) _
  have hh := has_S (w0 := w) p w.heap.size N a b hna hnb ((hb1.cell (p := ⟨p, 0, none⟩) hlt).trans hn.c0) (by simp) (by simp)
  have c3 := (hb1.cell (p := ⟨p, 3, none⟩) hlt).trans hn.c3
  have d3 := hn.c3
  have hne : ¬ w.heap.size = p := by omega
  have HO := Lib.hid (ho.below hb1)
  have HB1 := Lib.hid hb1
  have hkey := Lib.hid (keyOf_way (node4_min ha hb) (node4_max ha hb))
  have hmap : ∀ w : World, (binOp .eql 57 (.map (some m)) (.map none)).run Try.prog w = .ok (.bool false) w := fun w => run_eql_map_nil w _ _ _ _ Try.underlying57
  clear hn ho hb1 ha hb hna hnb hlt
  go_enter Try.func15, Try.ntmps15
  go_upto_region 8 with (first | (go_at_call 21; refine hh.mono ?_; rintro e w' ⟨rfl, rfl⟩) | go_in)
  clear d3 hne hh
  generalize w.alloc (.cells #[.int .i64 a, .int .i64 b] 3) = wc at *
  have hS : MI wc p m n D wc := mi_of c3 HO.out (Below.refl _ _)
  go_region_with (first | (go_at_call 28; refine (between_M c3 HO.out a b (by first | assumption | exact mi_drew (by assumption))).mono ?_; rintro e w' ⟨rfl, hS⟩; obtain ⟨wu, hrun, hown, hgrow⟩ := (mi_own hS).update wayLaw Try.underlying57 hmax hkey.out unitElem_mk; have d3 := hS.2))
  all_goals (go_wp2; go_ret; exact ⟨rfl, hown, tu_of (HB1.out.trans ((mi_out hS).mono HB1.out.size)) hgrow⟩)
theorem Tu.then {w w1 w2 w3 : World} {p m : Nat} (t : Tu w w1 p) (hb : Below w1.heap.size w1 w2) (hg : w2.grownBy w3 (some m)) (hm : w.heap.size ≤ m) : Tu w w3 p :=
  ⟨hg.os.trans (hb.os.trans t.os), hg.tape.trans (hb.tape.trans t.tape), hg.output.trans (hb.output.trans t.output), Nat.le_trans t.size (Nat.le_trans hb.size hg.size),
    fun k hk hne => (hg.block k (Nat.lt_of_lt_of_le hk (Nat.le_trans t.size hb.size)) (fun e => by injection e; omega)).trans ((hb.block k (Nat.lt_of_lt_of_le hk t.size)).trans (t.block k hk hne))⟩
theorem NetAt.cuts {w : World} {p : Nat} {N sent : Int} {fl cut : Value} (h : NetAt w p N sent fl cut) (v : Value) : NetAt (w.setCell ⟨p, 3, none⟩ v) p N sent fl v :=
  ⟨(World.cell?_setCell_other _ _ _ _ (by simp)).trans h.c0, (World.cell?_setCell_other _ _ _ _ (by simp)).trans h.c1, (World.cell?_setCell_other _ _ _ _ (by simp)).trans h.c2, World.cell?_setCell_same _ _ _ h.c3,
    by rw [World.frozen?_setCell]; exact h.f1, by rw [World.frozen?_setCell]; exact h.f2, by rw [World.frozen?_setCell]; exact h.f3⟩
/-- block p bears the type that it bore -/
def TyK (w w' : World) (p : Nat) : Prop := ∀ e, (∃ cs, w.heap[p]? = some (.cells cs e (0, 0))) → ∃ cs, w'.heap[p]? = some (.cells cs e (0, 0))
theorem TyK.then {w w1 w2 w3 : World} {p m : Nat} (h : TyK w w1 p) (hb : Below w1.heap.size w1 w2) (hg : w2.grownBy w3 (some m)) (hpm : ¬ p = m) (hlt : p < w1.heap.size) : TyK w w3 p := by
  intro e he
  obtain ⟨cs, h1⟩ := h e he
  exact ⟨cs, ((hg.block p (Nat.lt_of_lt_of_le hlt hb.size) (fun e => hpm (by injection e))).trans (hb.block p hlt)).trans h1⟩
theorem first_ty (w : World) (p : Nat) (o o' : Obj) (v : Value) : TyK w (((w.alloc o).alloc o').setCell ⟨p, 3, none⟩ v) p := by
  intro e ⟨cs, h⟩
  have hlt := (Array.getElem?_eq_some_iff.1 h).1
  have hb : Below w.heap.size w ((w.alloc o).alloc o') := ((Below.refl _ w).alloc (Nat.le_refl _) _).alloc (by simp) _
  have h2 := (hb.block p hlt).trans h
  refine ⟨cs.setIfInBounds 3 v, ?_⟩
  simp only [World.setCell, Array.getElem?_modify, h2]
  rfl
theorem first_world {w : World} {p : Nat} {N sent : Int} {fl cut : Value} (h : NetAt w p N sent fl cut) (o : Obj) :
    NetAt (((w.alloc o).alloc (.map #[] 0)).setCell ⟨p, 3, none⟩ (.map (some (w.heap.size + 1)))) p N sent fl (.map (some (w.heap.size + 1))) ∧ Owns (((w.alloc o).alloc (.map #[] 0)).setCell ⟨p, 3, none⟩ (.map (some (w.heap.size + 1)))) (w.heap.size + 1) 0 (.map []) ∧
      Tu w (((w.alloc o).alloc (.map #[] 0)).setCell ⟨p, 3, none⟩ (.map (some (w.heap.size + 1)))) p := by
  have hlt := h.lt
  have hb : Below w.heap.size w ((w.alloc o).alloc (.map #[] 0)) := ((Below.refl _ w).alloc (Nat.le_refl _) _).alloc (by simp) _
  have hm : Owns ((w.alloc o).alloc (.map #[] 0)) (w.heap.size + 1) 0 (.map []) := by
    have := World.ownsMap_made (w.alloc o) Try.prog 67 (unitElem (H := Unit))
    rwa [show (w.alloc o).heap.size = w.heap.size + 1 by simp] at this
  refine ⟨(h.below hb hlt).cuts _, World.ownsMap.setCell hm (by simp; omega) _, hb.os, hb.tape, hb.output, by simp [World.setCell]; omega, fun k hk hne => (setCell_block _ _ _ hne).trans (hb.block k hk)⟩
theorem first_net {w w1 w2 : World} {p m : Nat} {N sent : Int} {fl cut : Value} (h : NetAt w p N sent fl cut) (hb : Below w.heap.size w w1) (hg : w1.grownBy w2 (some m)) (hp : ¬ p = m) : NetAt w2 p N sent fl cut := h.tu (tu_of hb hg) hp
set_option maxRecDepth 100000 in
set_option maxHeartbeats 4000000 in
theorem part_first (p : Nat) (N sent a b : Int) (fl : Value) (w : World) (hn : NetAt w p N sent fl (.map none)) (ha : node4 a) (hb : node4 b) (hna : nodeB N a = true) (hnb : nodeB N b = true) (hab : ¬ a = b) :
    Calls Try.prog 15 #[.pointer (some ⟨p, 0, none⟩), .int .i64 a, .int .i64 b, .bool true] w fun e w' => e = .returned (.int .i64 0) ∧ ∃ m, w.heap.size ≤ m ∧ Owns w' m 1 ((DataW.map []).put (kk a b) (.agg [])) ∧ NetAt w' p N sent fl (.map (some m)) ∧ Tu w w' p ∧ TyK w w' p := by
  have hlt := hn.lt
  have HLT := Lib.hid hlt
  have hb1 : Below w.heap.size w (w.alloc (.cells #[.int .i64 a, .int .i64 b] 3)) := (Below.refl _ w).alloc (Nat.le_refl _) _
  have hh := has_S (w0 := w) p w.heap.size N a b hna hnb ((hb1.cell (p := ⟨p, 0, none⟩) hlt).trans hn.c0) (by simp) (by simp)
  have c3 := (hb1.cell (p := ⟨p, 3, none⟩) hlt).trans hn.c3
  have d3 := hn.c3
  have hb2 : Below w.heap.size w ((w.alloc (.cells #[.int .i64 a, .int .i64 b] 3)).alloc (.map #[] 0)) := hb1.alloc (by simp) _
  have c4 := (hb2.cell (p := ⟨p, 3, none⟩) hlt).trans hn.c3
  have f4 := (hb2.frozen (p := ⟨p, 3, none⟩) hlt).trans hn.f3
  have hne : ¬ w.heap.size = p := by omega
  have HF := Lib.hid (first_world hn (.cells #[.int .i64 a, .int .i64 b] 3))
  have HTY := Lib.hid (first_ty w p (.cells #[.int .i64 a, .int .i64 b] 3) (.map #[] 0) (.map (some (w.heap.size + 1))))
  have hkey := Lib.hid (keyOf_way (node4_min ha hb) (node4_max ha hb))
  have hmap : ∀ w : World, (binOp .eql 57 (.map none) (.map none)).run Try.prog w = .ok (.bool true) w := fun w => run_eql_map_nil w _ _ _ _ Try.underlying57
  have hmm := @run_makeMap Try.prog
  clear hn hb1 hb2 ha hb hna hnb hlt
  go_enter Try.func15, Try.ntmps15
  go_upto_region 8 with (first | (go_at_call 21; refine hh.mono ?_; rintro e w' ⟨rfl, rfl⟩) | go_in)
  clear d3 hne hh c3 c4 f4
  generalize (((w.alloc (.cells #[.int .i64 a, .int .i64 b] 3)).alloc (.map #[] 0)).setCell ⟨p, 3, none⟩ (.map (some (w.heap.size + 1)))) = wc at *
  obtain ⟨m, hm⟩ : ∃ m, m = w.heap.size + 1 := ⟨_, rfl⟩
  rw [← hm] at HF ⊢
  have hwm := Lib.hid (show w.heap.size ≤ m by omega)
  have hpm := Lib.hid (show ¬ p = m by have := HLT.out; omega)
  have c3 := HF.out.1.c3
  have HO : Hid (Owns wc m 0 (.map [])) := Lib.hid HF.out.2.1
  have hS : MI wc p m 0 (.map []) wc := mi_of c3 HO.out (Below.refl _ _)
  clear hm
  go_region_with (first | (go_at_call 28; refine (between_M c3 HO.out a b (by first | assumption | exact mi_drew (by assumption))).mono ?_; rintro e w' ⟨rfl, hS⟩; obtain ⟨wu, hrun, hown, hgrow⟩ := (mi_own hS).update wayLaw Try.underlying57 (by unfold maxLen; omega) hkey.out unitElem_mk; have d3 := hS.2))
  all_goals (go_wp2; go_ret; exact ⟨rfl, m, hwm.out, hown, first_net HF.out.1 (mi_out hS) hgrow hpm.out, HF.out.2.2.then (mi_out hS) hgrow hwm.out, HTY.out.then (mi_out hS) hgrow hpm.out HF.out.1.lt⟩)
set_option maxRecDepth 100000 in
set_option maxHeartbeats 4000000 in
theorem part_mend (p m n : Nat) (N sent a b : Int) (fl : Value) (D : DataW Unit) (w : World) (hn : NetAt w p N sent fl (.map (some m))) (ho : Owns w m n D) (ha : node4 a) (hb : node4 b) (hna : nodeB N a = true) (hnb : nodeB N b = true) (hab : ¬ a = b) :
    Calls Try.prog 15 #[.pointer (some ⟨p, 0, none⟩), .int .i64 a, .int .i64 b, .bool false] w fun e w' => e = .returned (.int .i64 0) ∧ Owns w' m n (D.del (kk a b)) ∧ Tu w w' m := by
  have hlt := hn.lt
  have hb1 : Below w.heap.size w (w.alloc (.cells #[.int .i64 a, .int .i64 b] 3)) := (Below.refl _ w).alloc (Nat.le_refl _) _
  have hh := has_S (w0 := w) p w.heap.size N a b hna hnb ((hb1.cell (p := ⟨p, 0, none⟩) hlt).trans hn.c0) (by simp) (by simp)
  have c3 := (hb1.cell (p := ⟨p, 3, none⟩) hlt).trans hn.c3
  have d3 := hn.c3
  have hne : ¬ w.heap.size = p := by omega
  have HO := Lib.hid (ho.below hb1)
  have HB1 := Lib.hid hb1
  have hkey := Lib.hid (keyOf_way (node4_min ha hb) (node4_max ha hb))
  clear hn ho hb1 ha hb hna hnb hlt
  go_enter Try.func15, Try.ntmps15
  go_upto_region 4 with (first | (go_at_call 21; refine hh.mono ?_; rintro e w' ⟨rfl, rfl⟩) | go_in)
  clear d3 hne hh
  generalize w.alloc (.cells #[.int .i64 a, .int .i64 b] 3) = wc at *
  have hS : MI wc p m n D wc := mi_of c3 HO.out (Below.refl _ _)
  go_region_with (first | (go_at_call 28; refine (between_M c3 HO.out a b (by first | assumption | exact mi_drew (by assumption))).mono ?_; rintro e w' ⟨rfl, hS⟩; obtain ⟨wu, hrun, hown, hturn⟩ := (mi_own hS).drop wayLaw Try.underlying57 hkey.out 0; have d3 := hS.2))
  all_goals (go_wp2; go_ret; exact ⟨rfl, hown, tu_of (HB1.out.trans ((mi_out hS).mono HB1.out.size)) hturn.grown⟩)
end Go.Proofs.Ytcahiogjmclnjaa
