/- The contract of record.Of: the message of a change. -/
import Derived.Test.YtndcmjgjecdgcaaDoorRecLaw
import Derived.IntWalk
namespace Go.Proofs.YtndcmjgjecdgcaaDoor
open Go.RowKit
theorem set_cell {w : World} {b q i j : Nat} {v u : Value} (h : w.cell? ⟨q, i, none⟩ = some u) (hne : b ≠ q) : (w.setCell ⟨b, j, none⟩ v).cell? ⟨q, i, none⟩ = some u :=
  (World.cell?_setCell_other _ _ _ _ (by intro e; injection e with e1 _; exact hne e1)).trans h
theorem alloc_cell {w : World} {q i : Nat} {u : Value} {o : Obj} (h : w.cell? ⟨q, i, none⟩ = some u) : (w.alloc o).cell? ⟨q, i, none⟩ = some u :=
  (World.cell?_of_block (a := ⟨q, i, none⟩) ((below_alloc w o).block q (cell_lt h))).trans h
theorem below_cell {w w' : World} {q i : Nat} {u : Value} (h : w.cell? ⟨q, i, none⟩ = some u) (hb : Below w.heap.size w w') : w'.cell? ⟨q, i, none⟩ = some u :=
  (World.cell?_of_block (a := ⟨q, i, none⟩) (hb.block q (cell_lt h))).trans h
theorem Five.other {w : World} {r b : Nat} (h : Five w r) (hb : b ≠ r) (i : Nat) (u : Value) : Five (w.setCell ⟨b, i, none⟩ u) r := fun j hj => by
  obtain ⟨⟨v, hv⟩, hf⟩ := h j hj
  exact ⟨⟨v, set_cell hv hb⟩, by rw [World.frozen?_setCell]; exact hf⟩
/-- the box of a change, in any world behind w0 -/
abbrev O10 (w0 : World) (q r : Nat) (k : Int) (p t : ByteArray) (c bc bl bt sz su qu : Int) (w : World) : Prop :=
  Hid (Below w0.heap.size w0 w ∧ Five w r ∧ q ≠ r ∧ w0.heap.size ≤ r) ∧ (w.cell? ⟨q, 0, none⟩ = some (.int .i64 k) ∧ w.cell? ⟨q, 1, none⟩ = some (.string p) ∧ w.cell? ⟨q, 2, none⟩ = some (.string t) ∧ w.cell? ⟨q, 3, none⟩ = some (.int .i64 c) ∧ w.cell? ⟨q, 4, none⟩ = some (.int .i64 bc) ∧ w.cell? ⟨q, 5, none⟩ = some (.int .i64 bl) ∧ w.cell? ⟨q, 6, none⟩ = some (.int .i64 bt) ∧ w.cell? ⟨q, 7, none⟩ = some (.int .i64 sz) ∧ w.cell? ⟨q, 8, none⟩ = some (.int .u32 su) ∧ w.cell? ⟨q, 9, none⟩ = some (.int .i64 qu))
section
variable {w0 w w' : World} {q r b : Nat} {k : Int} {p t : ByteArray} {c bc bl bt sz su qu : Int}
theorem o10_below (h : O10 w0 q r k p t c bc bl bt sz su qu w) (hb : Below w.heap.size w w') : O10 w0 q r k p t c bc bl bt sz su qu w' := by
  obtain ⟨g, ⟨h0, h1, h2, h3, h4, h5, h6, h7, h8, h9⟩⟩ := h
  exact ⟨Lib.hid ⟨g.out.1.trans (hb.mono g.out.1.size), g.out.2.1.below hb, g.out.2.2⟩, ⟨below_cell h0 hb, below_cell h1 hb, below_cell h2 hb, below_cell h3 hb, below_cell h4 hb, below_cell h5 hb, below_cell h6 hb, below_cell h7 hb, below_cell h8 hb, below_cell h9 hb⟩⟩
theorem o10_drew (h : O10 w0 q r k p t c bc bl bt sz su qu w) : O10 w0 q r k p t c bc bl bt sz su qu w.drew := o10_below h ⟨rfl, rfl, rfl, Nat.le_refl _, fun _ _ => rfl⟩
theorem o10_undrew (h : O10 w0 q r k p t c bc bl bt sz su qu w.drew) : O10 w0 q r k p t c bc bl bt sz su qu w := o10_below h ⟨rfl, rfl, rfl, Nat.le_refl _, fun _ _ => rfl⟩
theorem o10_alloc (h : O10 w0 q r k p t c bc bl bt sz su qu w) (o : Obj) : O10 w0 q r k p t c bc bl bt sz su qu (w.alloc o) := o10_below h (below_alloc w o)
theorem o10_other (h : O10 w0 q r k p t c bc bl bt sz su qu w) (n1 : b ≠ q) (n2 : b ≠ r) (n3 : w0.heap.size ≤ b) (j : Nat) (v : Value) : O10 w0 q r k p t c bc bl bt sz su qu (w.setCell ⟨b, j, none⟩ v) := by
  obtain ⟨g, ⟨h0, h1, h2, h3, h4, h5, h6, h7, h8, h9⟩⟩ := h
  exact ⟨Lib.hid ⟨g.out.1.setCell n3 v, g.out.2.1.other n2 j v, g.out.2.2⟩, ⟨set_cell h0 n1, set_cell h1 n1, set_cell h2 n1, set_cell h3 n1, set_cell h4 n1, set_cell h5 n1, set_cell h6 n1, set_cell h7 n1, set_cell h8 n1, set_cell h9 n1⟩⟩
end
/-- the cells of a block, from its first on -/
def Cs (w : World) (b : Nat) (vs : List Value) : Prop := ∀ i v, vs[i]? = some v → w.cell? ⟨b, i, none⟩ = some v
theorem Cs.below {w w' : World} {b : Nat} {vs : List Value} (h : Cs w b vs) (hb : Below w.heap.size w w') : Cs w' b vs := fun i v hv => below_cell (h i v hv) hb
theorem Cs.alloc {w : World} {b : Nat} {vs : List Value} (h : Cs w b vs) (o : Obj) : Cs (w.alloc o) b vs := h.below (below_alloc w o)
theorem Cs.drew {w : World} {b : Nat} {vs : List Value} (h : Cs w b vs) : Cs w.drew b vs := h
theorem Cs.undrew {w : World} {b : Nat} {vs : List Value} (h : Cs w.drew b vs) : Cs w b vs := h
theorem Cs.set {w : World} {b r j : Nat} {u : Value} {vs : List Value} (h : Cs w b vs) (hne : r ≠ b) : Cs (w.setCell ⟨r, j, none⟩ u) b vs := fun i v hv => set_cell (h i v hv) hne
theorem Cs.new (w : World) (vs : Array Value) (ty : TypeId) : Cs (w.alloc (.cells vs ty)) w.heap.size vs.toList := fun i v hv => by
  have hv' : vs[i]? = some v := by simpa using hv
  simp [hv']
theorem Cs.lt {w : World} {b : Nat} {v : Value} {vs : List Value} (h : Cs w b (v :: vs)) : b < w.heap.size := cell_lt (h 0 v rfl)
theorem cs_nums {w : World} {b : Nat} {ns : List Int} (h : Cs w b (ns.map (Value.int .i64))) : SlOf w w.heap.size (some ⟨b, 0, none⟩) ns.length (fun i => .int .i64 (ns.getD i 0)) := fun i hi => by
  have hc := h i (.int .i64 (ns.getD i 0)) (by simp [List.getD, hi])
  exact ⟨b, 0, rfl, cell_lt hc, by simpa using hc⟩
theorem cs_texts {w : World} {b : Nat} {ts : List ByteArray} (h : Cs w b (ts.map Value.string)) : SlOf w w.heap.size (some ⟨b, 0, none⟩) ts.length (fun i => .string (ts.getD i ⟨#[]⟩)) := fun i hi => by
  have hc := h i (.string (ts.getD i ⟨#[]⟩)) (by simp [List.getD, hi])
  exact ⟨b, 0, rfl, cell_lt hc, by simpa using hc⟩
theorem five_in {w : World} {r : Nat} (h : Five w r) (j : Nat) (hj : j < 5) : ∃ z, w.cell? ⟨r, j, none⟩ = some z ∧ (∀ o, (w.alloc o).cell? ⟨r, j, none⟩ = some z) ∧ (∀ o o2, ((w.alloc o).alloc o2).cell? ⟨r, j, none⟩ = some z) ∧
    w.frozen? ⟨r, j, none⟩ = false ∧ (∀ o, (w.alloc o).frozen? ⟨r, j, none⟩ = false) ∧ (∀ o o2, ((w.alloc o).alloc o2).frozen? ⟨r, j, none⟩ = false) := by
  obtain ⟨⟨z, hz⟩, hf⟩ := h j hj
  refine ⟨z, hz, fun o => alloc_cell hz, fun o o2 => alloc_cell (alloc_cell hz), hf, fun o => ?_, fun o o2 => ?_⟩
  · exact ((h.below (below_alloc w o)) j hj).2
  · exact (((h.below (below_alloc w o)).below (below_alloc _ o2)) j hj).2
/-- the boxes of a change, of its piece and of its block, in any world behind w0 -/
abbrev O15 (w0 : World) (q r a b : Nat) (k : Int) (p t : ByteArray) (c bc bl bt sz su qu : Int) (w : World) : Prop :=
  Hid (Below w0.heap.size w0 w ∧ Five w r ∧ q ≠ r ∧ w0.heap.size ≤ r ∧ a ≠ r ∧ b ≠ r) ∧ (w.cell? ⟨q, 0, none⟩ = some (.int .i64 k) ∧ w.cell? ⟨q, 1, none⟩ = some (.string p) ∧ w.cell? ⟨q, 2, none⟩ = some (.string t) ∧ w.cell? ⟨q, 3, none⟩ = some (.int .i64 c) ∧ w.cell? ⟨q, 4, none⟩ = some (.int .i64 bc) ∧ w.cell? ⟨q, 5, none⟩ = some (.int .i64 bl) ∧ w.cell? ⟨q, 6, none⟩ = some (.int .i64 bt) ∧ w.cell? ⟨q, 7, none⟩ = some (.int .i64 sz) ∧ w.cell? ⟨q, 8, none⟩ = some (.int .u32 su) ∧ w.cell? ⟨q, 9, none⟩ = some (.int .i64 qu)) ∧ (w.cell? ⟨a, 3, none⟩ = some (.int .i64 sz) ∧ w.cell? ⟨a, 4, none⟩ = some (.int .u32 su)) ∧ (w.cell? ⟨b, 0, none⟩ = some (.int .i64 bc) ∧ w.cell? ⟨b, 1, none⟩ = some (.int .i64 bl) ∧ w.cell? ⟨b, 2, none⟩ = some (.int .i64 bt))
section
variable {w0 w w' : World} {q r a b : Nat} {k : Int} {p t : ByteArray} {c bc bl bt sz su qu : Int}
theorem o15_below (h : O15 w0 q r a b k p t c bc bl bt sz su qu w) (hb : Below w.heap.size w w') : O15 w0 q r a b k p t c bc bl bt sz su qu w' := by
  obtain ⟨g, ⟨h0, h1, h2, h3, h4, h5, h6, h7, h8, h9⟩, ⟨e0, e1⟩, ⟨e2, e3, e4⟩⟩ := h
  exact ⟨Lib.hid ⟨g.out.1.trans (hb.mono g.out.1.size), g.out.2.1.below hb, g.out.2.2⟩, ⟨below_cell h0 hb, below_cell h1 hb, below_cell h2 hb, below_cell h3 hb, below_cell h4 hb, below_cell h5 hb, below_cell h6 hb, below_cell h7 hb, below_cell h8 hb, below_cell h9 hb⟩, ⟨below_cell e0 hb, below_cell e1 hb⟩, ⟨below_cell e2 hb, below_cell e3 hb, below_cell e4 hb⟩⟩
theorem o15_drew (h : O15 w0 q r a b k p t c bc bl bt sz su qu w) : O15 w0 q r a b k p t c bc bl bt sz su qu w.drew := o15_below h ⟨rfl, rfl, rfl, Nat.le_refl _, fun _ _ => rfl⟩
theorem o15_undrew (h : O15 w0 q r a b k p t c bc bl bt sz su qu w.drew) : O15 w0 q r a b k p t c bc bl bt sz su qu w := o15_below h ⟨rfl, rfl, rfl, Nat.le_refl _, fun _ _ => rfl⟩
theorem o15_alloc (h : O15 w0 q r a b k p t c bc bl bt sz su qu w) (o : Obj) : O15 w0 q r a b k p t c bc bl bt sz su qu (w.alloc o) := o15_below h (below_alloc w o)
theorem o15_set (h : O15 w0 q r a b k p t c bc bl bt sz su qu w) (j : Nat) (v : Value) : O15 w0 q r a b k p t c bc bl bt sz su qu (w.setCell ⟨r, j, none⟩ v) := by
  obtain ⟨g, ⟨h0, h1, h2, h3, h4, h5, h6, h7, h8, h9⟩, ⟨e0, e1⟩, ⟨e2, e3, e4⟩⟩ := h
  obtain ⟨f1, f2, f3, f4, f5, f6⟩ := g.out
  exact ⟨Lib.hid ⟨f1.setCell f4 v, f2.set j v, f3, f4, f5, f6⟩, ⟨set_cell h0 f3.symm, set_cell h1 f3.symm, set_cell h2 f3.symm, set_cell h3 f3.symm, set_cell h4 f3.symm, set_cell h5 f3.symm, set_cell h6 f3.symm, set_cell h7 f3.symm, set_cell h8 f3.symm, set_cell h9 f3.symm⟩, ⟨set_cell e0 f5.symm, set_cell e1 f5.symm⟩, ⟨set_cell e2 f6.symm, set_cell e3 f6.symm, set_cell e4 f6.symm⟩⟩
theorem o15_out (h : O15 w0 q r a b k p t c bc bl bt sz su qu w) : Below w0.heap.size w0 w := h.1.out.1
theorem o15_five (h : O15 w0 q r a b k p t c bc bl bt sz su qu w) : Five w r := h.1.out.2.1
theorem clone_S (s : ByteArray) (hs : s.size ≤ 281474976710656) (h : O15 w0 q r a b k p t c bc bl bt sz su qu w) :
    Calls Tryd.prog 35 #[.string s] w fun e w' => e = .returned (.string s) ∧ O15 w0 q r a b k p t c bc bl bt sz su qu w' ∧ Hid (Below w.heap.size w w') := by
  refine (clone_any s w hs).mono ?_
  rintro e w' ⟨rfl, hb⟩
  exact ⟨rfl, o15_below h hb, Lib.hid hb⟩
end
set_option maxRecDepth 100000 in
set_option maxHeartbeats 4000000 in
theorem of_any (cl ca bo k : Int) (p t : ByteArray) (c bc bl bt sz su qu : Int) (w : World) (hu : 0 ≤ su ∧ su ≤ 4294967295) (hp : p.size ≤ 140737488351232) (ht : t.size ≤ 140737488351232) (hnb : ∀ n ∈ [k, c, bc, bl, bt, sz, su, qu, bo], -9223372036854775808 ≤ n ∧ n ≤ 9223372036854775807) :
    Calls Tryd.prog 17 #[.int .i64 cl, .int .i64 ca, .int .i64 bo, .agg #[.int .i64 k, .string p, .string t, .int .i64 c, .int .i64 bc, .int .i64 bl, .int .i64 bt, .int .i64 sz, .int .u32 su, .int .i64 qu]] w fun e w' => ∃ A' cn' C' ct', e = .returned (.agg #[.int .i64 1, .int .i64 cl, .int .i64 ca, .slice A' 9 cn', .slice C' 2 ct']) ∧ Below w.heap.size w w' ∧ MsgAt w' w'.heap.size A' C' [k, c, bc, bl, bt, sz, su, qu, bo] [p, t] := by
  have hlb : ∀ ty ty', O10 w w.heap.size (w.heap.size + 1) k p t c bc bl bt sz su qu ((w.alloc (Obj.cells #[.int .i64 k, .string p, .string t, .int .i64 c, .int .i64 bc, .int .i64 bl, .int .i64 bt, .int .i64 sz, .int .u32 su, .int .i64 qu] ty)).alloc (Obj.cells #[.int .i64 0, .int .i64 0, .int .i64 0, .slice none 0 0, .slice none 0 0] ty')) := fun ty ty' => by
    refine ⟨Lib.hid ⟨(below_alloc _ _).alloc (by simp) _, ?_, by omega, by omega⟩, ?_⟩
    · intro j hj
      match j, hj with
      | 0, _ => exact ⟨⟨_, by simp; rfl⟩, by simp [World.frozen?_alloc_at]⟩
      | 1, _ => exact ⟨⟨_, by simp; rfl⟩, by simp [World.frozen?_alloc_at]⟩
      | 2, _ => exact ⟨⟨_, by simp; rfl⟩, by simp [World.frozen?_alloc_at]⟩
      | 3, _ => exact ⟨⟨_, by simp; rfl⟩, by simp [World.frozen?_alloc_at]⟩
      | 4, _ => exact ⟨⟨_, by simp; rfl⟩, by simp [World.frozen?_alloc_at]⟩
    refine ⟨?_, ?_, ?_, ?_, ?_, ?_, ?_, ?_, ?_, ?_⟩ <;> simp
  have HNB := Lib.hid hnb
  clear hnb
  go_enter Tryd.func17, Tryd.ntmps17
  go_wp2_with (fail)
  have HB := Lib.hid (hlb 52 27)
  obtain ⟨wb, hwb⟩ : ∃ wb, wb = ((w.alloc (Obj.cells #[.int .i64 k, .string p, .string t, .int .i64 c, .int .i64 bc, .int .i64 bl, .int .i64 bt, .int .i64 sz, .int .u32 su, .int .i64 qu] 52)).alloc (Obj.cells #[.int .i64 0, .int .i64 0, .int .i64 0, .slice none 0 0, .slice none 0 0] 27)) := ⟨_, rfl⟩
  have hL0 := HB.out
  have hsz0 : wb.heap.size = w.heap.size + 2 := by rw [hwb]; simp
  have HSZ := Lib.hid hsz0
  rw [← hwb] at hL0 ⊢
  clear hwb HB hlb hsz0
  obtain ⟨Q, hQ⟩ : ∃ Q, Q = w.heap.size := ⟨_, rfl⟩
  have HQ := Lib.hid hQ
  rw [← hQ] at hL0 ⊢
  clear hQ
  go_region_held3 (fun w' => O10 w Q (Q + 1) k p t c bc bl bt sz su qu w') (first | assumption | with_reducible exact o10_drew (by assumption) | with_reducible exact o10_drew (o10_alloc (o10_undrew (by assumption)) _) | with_reducible exact o10_drew (o10_alloc (by assumption) _) | with_reducible exact o10_alloc (o10_undrew (by assumption)) _ | with_reducible exact o10_alloc (by assumption) _ | with_reducible exact o10_alloc (o10_alloc (by assumption) _) _ | with_reducible exact o10_drew (o10_alloc (o10_alloc (by assumption) _) _))
    (first | fail)
  · obtain ⟨wc, hwc⟩ : ∃ wc, wc = ((wb.alloc (.cells #[.int .i64 bc, .int .i64 bl, .int .i64 bt, .int .i64 sz, .int .u32 su] 48)).alloc (.cells #[.int .i64 bc, .int .i64 bl, .int .i64 bt] 45)).drew := ⟨_, rfl⟩
    have hL1 : O15 w Q (Q + 1) (wb.heap.size) (wb.heap.size + 1) k p t c bc bl bt sz su qu wc := by
      obtain ⟨g, hcs⟩ := o10_drew (o10_alloc (o10_alloc hL0 (.cells #[.int .i64 bc, .int .i64 bl, .int .i64 bt, .int .i64 sz, .int .u32 su] 48)) (.cells #[.int .i64 bc, .int .i64 bl, .int .i64 bt] 45))
      have hs := HSZ.out
      have hq := HQ.out
      rw [hwc]
      refine ⟨Lib.hid ⟨g.out.1, g.out.2.1, g.out.2.2.1, g.out.2.2.2, by omega, by omega⟩, hcs, ?_, ?_⟩ <;> simp
    rw [← hwc]
    obtain ⟨P9, hP9⟩ : ∃ P9, P9 = wb.heap.size := ⟨_, rfl⟩
    obtain ⟨P10, hP10⟩ : ∃ P10, P10 = wb.heap.size + 1 := ⟨_, rfl⟩
    rw [← hP10, ← hP9] at hL1 ⊢
    clear hwc hP9 hP10 hL0
    have hsu : IntKind.i64.wrap su = su := IntWalk.i64_in _ (by omega)
    go_wp2_with (fail)
    go_region_held3 (fun w' => O15 w Q (Q + 1) P9 P10 k p t c bc bl bt sz su qu w') (first | with_reducible assumption | with_reducible exact o15_drew (by with_reducible assumption) | with_reducible exact o15_drew (o15_alloc (o15_undrew (by with_reducible assumption)) _) | with_reducible exact o15_drew (o15_alloc (by with_reducible assumption) _) | with_reducible exact o15_alloc (o15_undrew (by with_reducible assumption)) _ | with_reducible exact o15_alloc (by with_reducible assumption) _ | with_reducible exact o15_alloc (o15_alloc (by with_reducible assumption) _) _ | with_reducible exact o15_drew (o15_alloc (o15_alloc (by with_reducible assumption) _) _) | with_reducible exact o15_set (o15_set (o15_set (o15_set (o15_set (o15_alloc (by with_reducible assumption) _) _ _) _ _) _ _) _ _) _ _ | with_reducible exact o15_set (o15_set (o15_set (o15_set (o15_set (o15_alloc (o15_alloc (by with_reducible assumption) _) _) _ _) _ _) _ _) _ _) _ _)
      (first
        | (go_at_call 35; first
            | ((with_reducible refine (clone_S p (by omega) (by with_reducible assumption)).mono ?_); rintro e wx ⟨rfl, hSx, hbx⟩)
            | ((with_reducible refine (clone_S t (by omega) (by with_reducible assumption)).mono ?_); rintro e wy ⟨rfl, hSy, hby⟩; obtain ⟨z0, y0, y0a, y0b, x0, x0a, x0b⟩ := five_in (o15_five hSy) 0 (by omega); obtain ⟨z1, y1, y1a, y1b, x1, x1a, x1b⟩ := five_in (o15_five hSy) 1 (by omega); obtain ⟨z2, y2, y2a, y2b, x2, x2a, x2b⟩ := five_in (o15_five hSy) 2 (by omega); obtain ⟨z3, y3, y3a, y3b, x3, x3a, x3b⟩ := five_in (o15_five hSy) 3 (by omega); obtain ⟨z4, y4, y4a, y4b, x4, x4a, x4b⟩ := five_in (o15_five hSy) 4 (by omega))))
    · have qc := cell_lt ((o15_five hL1) 0 (by omega)).1.choose_spec
      have qx := cell_lt ((o15_five hSx) 0 (by omega)).1.choose_spec
      have qy := cell_lt ((o15_five hSy) 0 (by omega)).1.choose_spec
      have n0 : Cs _ (wc.heap.size) (List.map (Value.int .i64) [k, c, bc, bl, bt, sz, su, qu, bo]) := (((Cs.new wc #[.int .i64 k, .int .i64 c, .int .i64 bc, .int .i64 bl, .int .i64 bt, .int .i64 sz, .int .i64 su, .int .i64 qu, .int .i64 bo] 3).drew.below hbx.out).below hby.out).alloc (.cells #[.string p, .string t] 9)
      have t0 : Cs _ (wy.heap.size) (List.map Value.string [p, t]) := (Cs.new wy #[.string p, .string t] 9)
      go_wp2
      refine bodyPost_ret (v := .agg #[.int .i64 1, .int .i64 cl, .int .i64 ca, .slice (some ⟨wc.heap.size, 0, none⟩) 9 9, .slice (some ⟨wy.heap.size, 0, none⟩) 2 2]) (results_cells rfl _ _ (Q + 1) _ _ rfl (range5 ?_ ?_ ?_ ?_ ?_) Tryd.underlying27 rfl (by kernel_rfl)) rfl ⟨_, _, _, _, rfl, o15_out (by with_reducible assumption), ⟨?_, ?_, HNB.out, by simp, by simp, ?_⟩⟩
      · simp [World.cell?_setCell_other, World.cell?_setCell_same', y0, y0a, y0b]
      · simp [World.cell?_setCell_other, World.cell?_setCell_same', y1, y1a, y1b]
      · simp [World.cell?_setCell_other, World.cell?_setCell_same', y2, y2a, y2b]
      · simp [World.cell?_setCell_other, World.cell?_setCell_same', y3, y3a, y3b]
      · simp [World.cell?_setCell_other, World.cell?_setCell_same', y4, y4a, y4b]
      · exact cs_nums (ns := [k, c, bc, bl, bt, sz, su, qu, bo]) (((((n0.set (by omega)).set (by omega)).set (by omega)).set (by omega)).set (by omega))
      · exact cs_texts (ts := [p, t]) (((((t0.set (by omega)).set (by omega)).set (by omega)).set (by omega)).set (by omega))
      · intro s hs
        simp only [List.mem_cons, List.not_mem_nil, or_false] at hs
        rcases hs with rfl | rfl
        · exact hp
        · exact ht
    · have qc := cell_lt ((o15_five hL1) 0 (by omega)).1.choose_spec
      have qx := cell_lt ((o15_five hSx) 0 (by omega)).1.choose_spec
      have qy := cell_lt ((o15_five hSy) 0 (by omega)).1.choose_spec
      have n0 : Cs _ (wx.heap.size) (List.map (Value.int .i64) [k, c, bc, bl, bt, sz, su, qu, bo]) := ((Cs.new wx #[.int .i64 k, .int .i64 c, .int .i64 bc, .int .i64 bl, .int .i64 bt, .int .i64 sz, .int .i64 su, .int .i64 qu, .int .i64 bo] 3).below hby.out).alloc (.cells #[.string p, .string t] 9)
      have t0 : Cs _ (wy.heap.size) (List.map Value.string [p, t]) := (Cs.new wy #[.string p, .string t] 9)
      go_wp2
      refine bodyPost_ret (v := .agg #[.int .i64 1, .int .i64 cl, .int .i64 ca, .slice (some ⟨wx.heap.size, 0, none⟩) 9 9, .slice (some ⟨wy.heap.size, 0, none⟩) 2 2]) (results_cells rfl _ _ (Q + 1) _ _ rfl (range5 ?_ ?_ ?_ ?_ ?_) Tryd.underlying27 rfl (by kernel_rfl)) rfl ⟨_, _, _, _, rfl, o15_out (by with_reducible assumption), ⟨?_, ?_, HNB.out, by simp, by simp, ?_⟩⟩
      · simp [World.cell?_setCell_other, World.cell?_setCell_same', y0, y0a, y0b]
      · simp [World.cell?_setCell_other, World.cell?_setCell_same', y1, y1a, y1b]
      · simp [World.cell?_setCell_other, World.cell?_setCell_same', y2, y2a, y2b]
      · simp [World.cell?_setCell_other, World.cell?_setCell_same', y3, y3a, y3b]
      · simp [World.cell?_setCell_other, World.cell?_setCell_same', y4, y4a, y4b]
      · exact cs_nums (ns := [k, c, bc, bl, bt, sz, su, qu, bo]) (((((n0.set (by omega)).set (by omega)).set (by omega)).set (by omega)).set (by omega))
      · exact cs_texts (ts := [p, t]) (((((t0.set (by omega)).set (by omega)).set (by omega)).set (by omega)).set (by omega))
      · intro s hs
        simp only [List.mem_cons, List.not_mem_nil, or_false] at hs
        rcases hs with rfl | rfl
        · exact hp
        · exact ht
    · have qc := cell_lt ((o15_five hL1) 0 (by omega)).1.choose_spec
      have qx := cell_lt ((o15_five hSx) 0 (by omega)).1.choose_spec
      have qy := cell_lt ((o15_five hSy) 0 (by omega)).1.choose_spec
      have n0 : Cs _ (wy.heap.size) (List.map (Value.int .i64) [k, c, bc, bl, bt, sz, su, qu, bo]) := (Cs.new wy #[.int .i64 k, .int .i64 c, .int .i64 bc, .int .i64 bl, .int .i64 bt, .int .i64 sz, .int .i64 su, .int .i64 qu, .int .i64 bo] 3).alloc (.cells #[.string p, .string t] 9)
      have t0 : Cs ((wy.alloc (.cells #[.int .i64 k, .int .i64 c, .int .i64 bc, .int .i64 bl, .int .i64 bt, .int .i64 sz, .int .i64 su, .int .i64 qu, .int .i64 bo] 3)).alloc (.cells #[.string p, .string t] 9)) (wy.heap.size + 1) (List.map Value.string [p, t]) := by have := (Cs.new (wy.alloc (.cells #[.int .i64 k, .int .i64 c, .int .i64 bc, .int .i64 bl, .int .i64 bt, .int .i64 sz, .int .i64 su, .int .i64 qu, .int .i64 bo] 3)) #[.string p, .string t] 9); simpa using this
      go_wp2
      refine bodyPost_ret (v := .agg #[.int .i64 1, .int .i64 cl, .int .i64 ca, .slice (some ⟨wy.heap.size, 0, none⟩) 9 9, .slice (some ⟨wy.heap.size + 1, 0, none⟩) 2 2]) (results_cells rfl _ _ (Q + 1) _ _ rfl (range5 ?_ ?_ ?_ ?_ ?_) Tryd.underlying27 rfl (by kernel_rfl)) rfl ⟨_, _, _, _, rfl, o15_out (by with_reducible assumption), ⟨?_, ?_, HNB.out, by simp, by simp, ?_⟩⟩
      · simp [World.cell?_setCell_other, World.cell?_setCell_same', y0, y0a, y0b]
      · simp [World.cell?_setCell_other, World.cell?_setCell_same', y1, y1a, y1b]
      · simp [World.cell?_setCell_other, World.cell?_setCell_same', y2, y2a, y2b]
      · simp [World.cell?_setCell_other, World.cell?_setCell_same', y3, y3a, y3b]
      · simp [World.cell?_setCell_other, World.cell?_setCell_same', y4, y4a, y4b]
      · exact cs_nums (ns := [k, c, bc, bl, bt, sz, su, qu, bo]) (((((n0.set (by omega)).set (by omega)).set (by omega)).set (by omega)).set (by omega))
      · exact cs_texts (ts := [p, t]) (((((t0.set (by omega)).set (by omega)).set (by omega)).set (by omega)).set (by omega))
      · intro s hs
        simp only [List.mem_cons, List.not_mem_nil, or_false] at hs
        rcases hs with rfl | rfl
        · exact hp
        · exact ht
    · have qc := cell_lt ((o15_five hL1) 0 (by omega)).1.choose_spec
      have qx := cell_lt ((o15_five hSx) 0 (by omega)).1.choose_spec
      have qy := cell_lt ((o15_five hSy) 0 (by omega)).1.choose_spec
      have n0 : Cs ((wy.alloc (.cells #[.string p, .string t] 9)).alloc (.cells #[.int .i64 k, .int .i64 c, .int .i64 bc, .int .i64 bl, .int .i64 bt, .int .i64 sz, .int .i64 su, .int .i64 qu, .int .i64 bo] 3)) (wy.heap.size + 1) (List.map (Value.int .i64) [k, c, bc, bl, bt, sz, su, qu, bo]) := by have := (Cs.new (wy.alloc (.cells #[.string p, .string t] 9)) #[.int .i64 k, .int .i64 c, .int .i64 bc, .int .i64 bl, .int .i64 bt, .int .i64 sz, .int .i64 su, .int .i64 qu, .int .i64 bo] 3); simpa using this
      have t0 : Cs _ (wy.heap.size) (List.map Value.string [p, t]) := (Cs.new wy #[.string p, .string t] 9).alloc (.cells #[.int .i64 k, .int .i64 c, .int .i64 bc, .int .i64 bl, .int .i64 bt, .int .i64 sz, .int .i64 su, .int .i64 qu, .int .i64 bo] 3)
      go_wp2
      refine bodyPost_ret (v := .agg #[.int .i64 1, .int .i64 cl, .int .i64 ca, .slice (some ⟨wy.heap.size + 1, 0, none⟩) 9 9, .slice (some ⟨wy.heap.size, 0, none⟩) 2 2]) (results_cells rfl _ _ (Q + 1) _ _ rfl (range5 ?_ ?_ ?_ ?_ ?_) Tryd.underlying27 rfl (by kernel_rfl)) rfl ⟨_, _, _, _, rfl, o15_out (by with_reducible assumption), ⟨?_, ?_, HNB.out, by simp, by simp, ?_⟩⟩
      · simp [World.cell?_setCell_other, World.cell?_setCell_same', y0, y0a, y0b]
      · simp [World.cell?_setCell_other, World.cell?_setCell_same', y1, y1a, y1b]
      · simp [World.cell?_setCell_other, World.cell?_setCell_same', y2, y2a, y2b]
      · simp [World.cell?_setCell_other, World.cell?_setCell_same', y3, y3a, y3b]
      · simp [World.cell?_setCell_other, World.cell?_setCell_same', y4, y4a, y4b]
      · exact cs_nums (ns := [k, c, bc, bl, bt, sz, su, qu, bo]) (((((n0.set (by omega)).set (by omega)).set (by omega)).set (by omega)).set (by omega))
      · exact cs_texts (ts := [p, t]) (((((t0.set (by omega)).set (by omega)).set (by omega)).set (by omega)).set (by omega))
      · intro s hs
        simp only [List.mem_cons, List.not_mem_nil, or_false] at hs
        rcases hs with rfl | rfl
        · exact hp
        · exact ht
  · obtain ⟨wc, hwc⟩ : ∃ wc, wc = ((wb.alloc (.cells #[.int .i64 bc, .int .i64 bl, .int .i64 bt] 45)).alloc (.cells #[.int .i64 bc, .int .i64 bl, .int .i64 bt, .int .i64 sz, .int .u32 su] 48)).drew := ⟨_, rfl⟩
    have hL1 : O15 w Q (Q + 1) (wb.heap.size + 1) (wb.heap.size) k p t c bc bl bt sz su qu wc := by
      obtain ⟨g, hcs⟩ := o10_drew (o10_alloc (o10_alloc hL0 (.cells #[.int .i64 bc, .int .i64 bl, .int .i64 bt] 45)) (.cells #[.int .i64 bc, .int .i64 bl, .int .i64 bt, .int .i64 sz, .int .u32 su] 48))
      have hs := HSZ.out
      have hq := HQ.out
      rw [hwc]
      refine ⟨Lib.hid ⟨g.out.1, g.out.2.1, g.out.2.2.1, g.out.2.2.2, by omega, by omega⟩, hcs, ?_, ?_⟩ <;> simp
    rw [← hwc]
    obtain ⟨P9, hP9⟩ : ∃ P9, P9 = wb.heap.size + 1 := ⟨_, rfl⟩
    obtain ⟨P10, hP10⟩ : ∃ P10, P10 = wb.heap.size := ⟨_, rfl⟩
    rw [← hP9, ← hP10] at hL1 ⊢
    clear hwc hP9 hP10 hL0
    have hsu : IntKind.i64.wrap su = su := IntWalk.i64_in _ (by omega)
    go_wp2_with (fail)
    go_region_held3 (fun w' => O15 w Q (Q + 1) P9 P10 k p t c bc bl bt sz su qu w') (first | with_reducible assumption | with_reducible exact o15_drew (by with_reducible assumption) | with_reducible exact o15_drew (o15_alloc (o15_undrew (by with_reducible assumption)) _) | with_reducible exact o15_drew (o15_alloc (by with_reducible assumption) _) | with_reducible exact o15_alloc (o15_undrew (by with_reducible assumption)) _ | with_reducible exact o15_alloc (by with_reducible assumption) _ | with_reducible exact o15_alloc (o15_alloc (by with_reducible assumption) _) _ | with_reducible exact o15_drew (o15_alloc (o15_alloc (by with_reducible assumption) _) _) | with_reducible exact o15_set (o15_set (o15_set (o15_set (o15_set (o15_alloc (by with_reducible assumption) _) _ _) _ _) _ _) _ _) _ _ | with_reducible exact o15_set (o15_set (o15_set (o15_set (o15_set (o15_alloc (o15_alloc (by with_reducible assumption) _) _) _ _) _ _) _ _) _ _) _ _)
      (first
        | (go_at_call 35; first
            | ((with_reducible refine (clone_S p (by omega) (by with_reducible assumption)).mono ?_); rintro e wx ⟨rfl, hSx, hbx⟩)
            | ((with_reducible refine (clone_S t (by omega) (by with_reducible assumption)).mono ?_); rintro e wy ⟨rfl, hSy, hby⟩; obtain ⟨z0, y0, y0a, y0b, x0, x0a, x0b⟩ := five_in (o15_five hSy) 0 (by omega); obtain ⟨z1, y1, y1a, y1b, x1, x1a, x1b⟩ := five_in (o15_five hSy) 1 (by omega); obtain ⟨z2, y2, y2a, y2b, x2, x2a, x2b⟩ := five_in (o15_five hSy) 2 (by omega); obtain ⟨z3, y3, y3a, y3b, x3, x3a, x3b⟩ := five_in (o15_five hSy) 3 (by omega); obtain ⟨z4, y4, y4a, y4b, x4, x4a, x4b⟩ := five_in (o15_five hSy) 4 (by omega))))
    · have qc := cell_lt ((o15_five hL1) 0 (by omega)).1.choose_spec
      have qx := cell_lt ((o15_five hSx) 0 (by omega)).1.choose_spec
      have qy := cell_lt ((o15_five hSy) 0 (by omega)).1.choose_spec
      have n0 : Cs _ (wc.heap.size) (List.map (Value.int .i64) [k, c, bc, bl, bt, sz, su, qu, bo]) := (((Cs.new wc #[.int .i64 k, .int .i64 c, .int .i64 bc, .int .i64 bl, .int .i64 bt, .int .i64 sz, .int .i64 su, .int .i64 qu, .int .i64 bo] 3).drew.below hbx.out).below hby.out).alloc (.cells #[.string p, .string t] 9)
      have t0 : Cs _ (wy.heap.size) (List.map Value.string [p, t]) := (Cs.new wy #[.string p, .string t] 9)
      go_wp2
      refine bodyPost_ret (v := .agg #[.int .i64 1, .int .i64 cl, .int .i64 ca, .slice (some ⟨wc.heap.size, 0, none⟩) 9 9, .slice (some ⟨wy.heap.size, 0, none⟩) 2 2]) (results_cells rfl _ _ (Q + 1) _ _ rfl (range5 ?_ ?_ ?_ ?_ ?_) Tryd.underlying27 rfl (by kernel_rfl)) rfl ⟨_, _, _, _, rfl, o15_out (by with_reducible assumption), ⟨?_, ?_, HNB.out, by simp, by simp, ?_⟩⟩
      · simp [World.cell?_setCell_other, World.cell?_setCell_same', y0, y0a, y0b]
      · simp [World.cell?_setCell_other, World.cell?_setCell_same', y1, y1a, y1b]
      · simp [World.cell?_setCell_other, World.cell?_setCell_same', y2, y2a, y2b]
      · simp [World.cell?_setCell_other, World.cell?_setCell_same', y3, y3a, y3b]
      · simp [World.cell?_setCell_other, World.cell?_setCell_same', y4, y4a, y4b]
      · exact cs_nums (ns := [k, c, bc, bl, bt, sz, su, qu, bo]) (((((n0.set (by omega)).set (by omega)).set (by omega)).set (by omega)).set (by omega))
      · exact cs_texts (ts := [p, t]) (((((t0.set (by omega)).set (by omega)).set (by omega)).set (by omega)).set (by omega))
      · intro s hs
        simp only [List.mem_cons, List.not_mem_nil, or_false] at hs
        rcases hs with rfl | rfl
        · exact hp
        · exact ht
    · have qc := cell_lt ((o15_five hL1) 0 (by omega)).1.choose_spec
      have qx := cell_lt ((o15_five hSx) 0 (by omega)).1.choose_spec
      have qy := cell_lt ((o15_five hSy) 0 (by omega)).1.choose_spec
      have n0 : Cs _ (wx.heap.size) (List.map (Value.int .i64) [k, c, bc, bl, bt, sz, su, qu, bo]) := ((Cs.new wx #[.int .i64 k, .int .i64 c, .int .i64 bc, .int .i64 bl, .int .i64 bt, .int .i64 sz, .int .i64 su, .int .i64 qu, .int .i64 bo] 3).below hby.out).alloc (.cells #[.string p, .string t] 9)
      have t0 : Cs _ (wy.heap.size) (List.map Value.string [p, t]) := (Cs.new wy #[.string p, .string t] 9)
      go_wp2
      refine bodyPost_ret (v := .agg #[.int .i64 1, .int .i64 cl, .int .i64 ca, .slice (some ⟨wx.heap.size, 0, none⟩) 9 9, .slice (some ⟨wy.heap.size, 0, none⟩) 2 2]) (results_cells rfl _ _ (Q + 1) _ _ rfl (range5 ?_ ?_ ?_ ?_ ?_) Tryd.underlying27 rfl (by kernel_rfl)) rfl ⟨_, _, _, _, rfl, o15_out (by with_reducible assumption), ⟨?_, ?_, HNB.out, by simp, by simp, ?_⟩⟩
      · simp [World.cell?_setCell_other, World.cell?_setCell_same', y0, y0a, y0b]
      · simp [World.cell?_setCell_other, World.cell?_setCell_same', y1, y1a, y1b]
      · simp [World.cell?_setCell_other, World.cell?_setCell_same', y2, y2a, y2b]
      · simp [World.cell?_setCell_other, World.cell?_setCell_same', y3, y3a, y3b]
      · simp [World.cell?_setCell_other, World.cell?_setCell_same', y4, y4a, y4b]
      · exact cs_nums (ns := [k, c, bc, bl, bt, sz, su, qu, bo]) (((((n0.set (by omega)).set (by omega)).set (by omega)).set (by omega)).set (by omega))
      · exact cs_texts (ts := [p, t]) (((((t0.set (by omega)).set (by omega)).set (by omega)).set (by omega)).set (by omega))
      · intro s hs
        simp only [List.mem_cons, List.not_mem_nil, or_false] at hs
        rcases hs with rfl | rfl
        · exact hp
        · exact ht
    · have qc := cell_lt ((o15_five hL1) 0 (by omega)).1.choose_spec
      have qx := cell_lt ((o15_five hSx) 0 (by omega)).1.choose_spec
      have qy := cell_lt ((o15_five hSy) 0 (by omega)).1.choose_spec
      have n0 : Cs _ (wy.heap.size) (List.map (Value.int .i64) [k, c, bc, bl, bt, sz, su, qu, bo]) := (Cs.new wy #[.int .i64 k, .int .i64 c, .int .i64 bc, .int .i64 bl, .int .i64 bt, .int .i64 sz, .int .i64 su, .int .i64 qu, .int .i64 bo] 3).alloc (.cells #[.string p, .string t] 9)
      have t0 : Cs ((wy.alloc (.cells #[.int .i64 k, .int .i64 c, .int .i64 bc, .int .i64 bl, .int .i64 bt, .int .i64 sz, .int .i64 su, .int .i64 qu, .int .i64 bo] 3)).alloc (.cells #[.string p, .string t] 9)) (wy.heap.size + 1) (List.map Value.string [p, t]) := by have := (Cs.new (wy.alloc (.cells #[.int .i64 k, .int .i64 c, .int .i64 bc, .int .i64 bl, .int .i64 bt, .int .i64 sz, .int .i64 su, .int .i64 qu, .int .i64 bo] 3)) #[.string p, .string t] 9); simpa using this
      go_wp2
      refine bodyPost_ret (v := .agg #[.int .i64 1, .int .i64 cl, .int .i64 ca, .slice (some ⟨wy.heap.size, 0, none⟩) 9 9, .slice (some ⟨wy.heap.size + 1, 0, none⟩) 2 2]) (results_cells rfl _ _ (Q + 1) _ _ rfl (range5 ?_ ?_ ?_ ?_ ?_) Tryd.underlying27 rfl (by kernel_rfl)) rfl ⟨_, _, _, _, rfl, o15_out (by with_reducible assumption), ⟨?_, ?_, HNB.out, by simp, by simp, ?_⟩⟩
      · simp [World.cell?_setCell_other, World.cell?_setCell_same', y0, y0a, y0b]
      · simp [World.cell?_setCell_other, World.cell?_setCell_same', y1, y1a, y1b]
      · simp [World.cell?_setCell_other, World.cell?_setCell_same', y2, y2a, y2b]
      · simp [World.cell?_setCell_other, World.cell?_setCell_same', y3, y3a, y3b]
      · simp [World.cell?_setCell_other, World.cell?_setCell_same', y4, y4a, y4b]
      · exact cs_nums (ns := [k, c, bc, bl, bt, sz, su, qu, bo]) (((((n0.set (by omega)).set (by omega)).set (by omega)).set (by omega)).set (by omega))
      · exact cs_texts (ts := [p, t]) (((((t0.set (by omega)).set (by omega)).set (by omega)).set (by omega)).set (by omega))
      · intro s hs
        simp only [List.mem_cons, List.not_mem_nil, or_false] at hs
        rcases hs with rfl | rfl
        · exact hp
        · exact ht
    · have qc := cell_lt ((o15_five hL1) 0 (by omega)).1.choose_spec
      have qx := cell_lt ((o15_five hSx) 0 (by omega)).1.choose_spec
      have qy := cell_lt ((o15_five hSy) 0 (by omega)).1.choose_spec
      have n0 : Cs ((wy.alloc (.cells #[.string p, .string t] 9)).alloc (.cells #[.int .i64 k, .int .i64 c, .int .i64 bc, .int .i64 bl, .int .i64 bt, .int .i64 sz, .int .i64 su, .int .i64 qu, .int .i64 bo] 3)) (wy.heap.size + 1) (List.map (Value.int .i64) [k, c, bc, bl, bt, sz, su, qu, bo]) := by have := (Cs.new (wy.alloc (.cells #[.string p, .string t] 9)) #[.int .i64 k, .int .i64 c, .int .i64 bc, .int .i64 bl, .int .i64 bt, .int .i64 sz, .int .i64 su, .int .i64 qu, .int .i64 bo] 3); simpa using this
      have t0 : Cs _ (wy.heap.size) (List.map Value.string [p, t]) := (Cs.new wy #[.string p, .string t] 9).alloc (.cells #[.int .i64 k, .int .i64 c, .int .i64 bc, .int .i64 bl, .int .i64 bt, .int .i64 sz, .int .i64 su, .int .i64 qu, .int .i64 bo] 3)
      go_wp2
      refine bodyPost_ret (v := .agg #[.int .i64 1, .int .i64 cl, .int .i64 ca, .slice (some ⟨wy.heap.size + 1, 0, none⟩) 9 9, .slice (some ⟨wy.heap.size, 0, none⟩) 2 2]) (results_cells rfl _ _ (Q + 1) _ _ rfl (range5 ?_ ?_ ?_ ?_ ?_) Tryd.underlying27 rfl (by kernel_rfl)) rfl ⟨_, _, _, _, rfl, o15_out (by with_reducible assumption), ⟨?_, ?_, HNB.out, by simp, by simp, ?_⟩⟩
      · simp [World.cell?_setCell_other, World.cell?_setCell_same', y0, y0a, y0b]
      · simp [World.cell?_setCell_other, World.cell?_setCell_same', y1, y1a, y1b]
      · simp [World.cell?_setCell_other, World.cell?_setCell_same', y2, y2a, y2b]
      · simp [World.cell?_setCell_other, World.cell?_setCell_same', y3, y3a, y3b]
      · simp [World.cell?_setCell_other, World.cell?_setCell_same', y4, y4a, y4b]
      · exact cs_nums (ns := [k, c, bc, bl, bt, sz, su, qu, bo]) (((((n0.set (by omega)).set (by omega)).set (by omega)).set (by omega)).set (by omega))
      · exact cs_texts (ts := [p, t]) (((((t0.set (by omega)).set (by omega)).set (by omega)).set (by omega)).set (by omega))
      · intro s hs
        simp only [List.mem_cons, List.not_mem_nil, or_false] at hs
        rcases hs with rfl | rfl
        · exact hp
        · exact ht
end Go.Proofs.YtndcmjgjecdgcaaDoor
