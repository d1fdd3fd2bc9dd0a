/- The contract of record.Op: the change of a message. -/
import Derived.Test.YtndcmjgjecdgcaaDoorRecOf
namespace Go.Proofs.YtndcmjgjecdgcaaDoor
open Go.RowKit
/-- n cells that may be written -/
def Fr (n : Nat) (w : World) (r : Nat) : Prop := ∀ j, j < n → (∃ v, w.cell? ⟨r, j, none⟩ = some v) ∧ w.frozen? ⟨r, j, none⟩ = false
theorem Fr.below {n : Nat} {w w' : World} {r : Nat} (h : Fr n w r) (hb : Below w.heap.size w w') : Fr n w' r := fun j hj => by
  obtain ⟨⟨v, hv⟩, hf⟩ := h j hj
  have e : w'.heap[r]? = w.heap[r]? := hb.block r (cell_lt hv)
  exact ⟨⟨v, (World.cell?_of_block (a := ⟨r, _, none⟩) e).trans hv⟩, (World.frozen?_of_block (a := ⟨r, _, none⟩) e).trans hf⟩
theorem Fr.set {n : Nat} {w : World} {r : Nat} (h : Fr n w r) (i : Nat) (u : Value) : Fr n (w.setCell ⟨r, i, none⟩ u) r := fun j hj => by
  obtain ⟨⟨v, hv⟩, hf⟩ := h j hj
  refine ⟨?_, by rw [World.frozen?_setCell]; exact hf⟩
  by_cases hij : i = j
  · subst hij
    exact ⟨u, World.cell?_setCell_same _ _ _ hv⟩
  · exact ⟨v, (World.cell?_setCell_other _ _ _ _ (by intro e; injection e with _ e2; exact hij e2)).trans hv⟩
theorem Fr.new (w : World) (vs : Array Value) (ty : TypeId) : Fr vs.size (w.alloc (.cells vs ty)) w.heap.size := fun j hj => ⟨⟨vs[j], by simp [hj]⟩, by simp [World.frozen?_alloc_at]⟩
theorem Fr.lt {n : Nat} {w : World} {r : Nat} (h : Fr (n + 1) w r) : r < w.heap.size := cell_lt (h 0 (by omega)).1.choose_spec
theorem fr_in {n : Nat} {w : World} {r : Nat} (h : Fr n w r) (j : Nat) (hj : j < n) : ∃ z, w.cell? ⟨r, j, none⟩ = some z ∧ w.frozen? ⟨r, j, none⟩ = false := by
  obtain ⟨⟨z, hz⟩, hf⟩ := h j hj
  exact ⟨z, hz, hf⟩
theorem cs_range {w : World} {q : Nat} {vs : List Value} (h : Cs w q vs) : w.rangeAt q 0 vs := by
  intro j v hj
  have := h j v hj
  simpa using this
theorem results_ct {P : Program} {fn : Func} {p t : Tmp} {ty : TypeId} (h : fn.results = #[.cell p ty, .tmp t]) (tmps : Array Value) (w : World) (q : Nat) (cs : List Value) (d : TypeDesc)
    (hp : tmps.getD p undef = .pointer (some ⟨q, 0, none⟩)) (hc : w.rangeAt q 0 cs) (hu : P.underlying ty = some d) (hd : d.isRow = true) (hi : (P.info? ty).map (·.size) = some cs.length) (v : Value) (hv : tmps.getD t undef = v) :
    (results fn tmps).run P w = .ok (.tuple #[.agg cs.toArray, v]) w := by
  subst hv
  have hp' : tmps[p]?.getD undef = .pointer (some ⟨q, 0, none⟩) := by simpa using hp
  simp [results, h, hp', asAddr, run_loadVar_mid w q 0 ty cs d hc hu hd hi]
set_option maxRecDepth 100000 in
theorem cs_ten {w : World} {r : Nat} (h : Fr 10 w r) (v0 v1 v2 v3 v4 v5 v6 v7 v8 v9 : Value) : Cs ((((((((((w.setCell ⟨r, 0, none⟩ v0).setCell ⟨r, 1, none⟩ v1).setCell ⟨r, 2, none⟩ v2).setCell ⟨r, 3, none⟩ v3).setCell ⟨r, 4, none⟩ v4).setCell ⟨r, 5, none⟩ v5).setCell ⟨r, 6, none⟩ v6).setCell ⟨r, 7, none⟩ v7).setCell ⟨r, 8, none⟩ v8).setCell ⟨r, 9, none⟩ v9) r [v0, v1, v2, v3, v4, v5, v6, v7, v8, v9] := by
  obtain ⟨z0, y0, _⟩ := fr_in h 0 (by omega)
  obtain ⟨z1, y1, _⟩ := fr_in h 1 (by omega)
  obtain ⟨z2, y2, _⟩ := fr_in h 2 (by omega)
  obtain ⟨z3, y3, _⟩ := fr_in h 3 (by omega)
  obtain ⟨z4, y4, _⟩ := fr_in h 4 (by omega)
  obtain ⟨z5, y5, _⟩ := fr_in h 5 (by omega)
  obtain ⟨z6, y6, _⟩ := fr_in h 6 (by omega)
  obtain ⟨z7, y7, _⟩ := fr_in h 7 (by omega)
  obtain ⟨z8, y8, _⟩ := fr_in h 8 (by omega)
  obtain ⟨z9, y9, _⟩ := fr_in h 9 (by omega)
  intro i v hv
  match i, hv with
  | 0, hv => simp at hv; subst hv; simp [World.cell?_setCell_other, World.cell?_setCell_same', y0]
  | 1, hv => simp at hv; subst hv; simp [World.cell?_setCell_other, World.cell?_setCell_same', y1]
  | 2, hv => simp at hv; subst hv; simp [World.cell?_setCell_other, World.cell?_setCell_same', y2]
  | 3, hv => simp at hv; subst hv; simp [World.cell?_setCell_other, World.cell?_setCell_same', y3]
  | 4, hv => simp at hv; subst hv; simp [World.cell?_setCell_other, World.cell?_setCell_same', y4]
  | 5, hv => simp at hv; subst hv; simp [World.cell?_setCell_other, World.cell?_setCell_same', y5]
  | 6, hv => simp at hv; subst hv; simp [World.cell?_setCell_other, World.cell?_setCell_same', y6]
  | 7, hv => simp at hv; subst hv; simp [World.cell?_setCell_other, World.cell?_setCell_same', y7]
  | 8, hv => simp at hv; subst hv; simp [World.cell?_setCell_other, World.cell?_setCell_same', y8]
  | 9, hv => simp at hv; subst hv; simp [World.cell?_setCell_other, World.cell?_setCell_same', y9]
  | i + 10, hv => simp at hv
/-- a message of nine numbers and two texts, its box, and the box of the result, in any world behind w0 -/
abbrev S1 (w0 : World) (q r b o b' o' cn ct : Nat) (n0 n1 n2 n3 n4 n5 n6 n7 n8 : Int) (s0 s1 : ByteArray) (w : World) : Prop :=
  Hid (Below w0.heap.size w0 w ∧ Fr 10 w r ∧ q ≠ r ∧ w0.heap.size ≤ r ∧ b ≠ r ∧ b' ≠ r) ∧ (w.cell? ⟨q, 3, none⟩ = some (.slice (some ⟨b, o, none⟩) 9 cn) ∧ w.cell? ⟨q, 4, none⟩ = some (.slice (some ⟨b', o', none⟩) 2 ct)) ∧ (w.cell? ⟨b, o, none⟩ = some (.int .i64 n0) ∧ w.cell? ⟨b, o + 1, none⟩ = some (.int .i64 n1) ∧ w.cell? ⟨b, o + 2, none⟩ = some (.int .i64 n2) ∧ w.cell? ⟨b, o + 3, none⟩ = some (.int .i64 n3) ∧ w.cell? ⟨b, o + 4, none⟩ = some (.int .i64 n4) ∧ w.cell? ⟨b, o + 5, none⟩ = some (.int .i64 n5) ∧ w.cell? ⟨b, o + 6, none⟩ = some (.int .i64 n6) ∧ w.cell? ⟨b, o + 7, none⟩ = some (.int .i64 n7) ∧ w.cell? ⟨b, o + 8, none⟩ = some (.int .i64 n8)) ∧ (w.cell? ⟨b', o', none⟩ = some (.string s0) ∧ w.cell? ⟨b', o' + 1, none⟩ = some (.string s1))
section
variable {w0 w w' : World} {q r b o b' o' cn ct x : Nat} {n0 n1 n2 n3 n4 n5 n6 n7 n8 : Int} {s0 s1 : ByteArray}
theorem s1_below (h : S1 w0 q r b o b' o' cn ct n0 n1 n2 n3 n4 n5 n6 n7 n8 s0 s1 w) (hb : Below w.heap.size w w') : S1 w0 q r b o b' o' cn ct n0 n1 n2 n3 n4 n5 n6 n7 n8 s0 s1 w' := by
  obtain ⟨g, ⟨h0, h1⟩, ⟨h2, h3, h4, h5, h6, h7, h8, h9, h10⟩, ⟨h11, h12⟩⟩ := h
  exact ⟨Lib.hid ⟨g.out.1.trans (hb.mono g.out.1.size), g.out.2.1.below hb, g.out.2.2⟩, ⟨below_cell h0 hb, below_cell h1 hb⟩, ⟨below_cell h2 hb, below_cell h3 hb, below_cell h4 hb, below_cell h5 hb, below_cell h6 hb, below_cell h7 hb, below_cell h8 hb, below_cell h9 hb, below_cell h10 hb⟩, ⟨below_cell h11 hb, below_cell h12 hb⟩⟩
theorem s1_drew (h : S1 w0 q r b o b' o' cn ct n0 n1 n2 n3 n4 n5 n6 n7 n8 s0 s1 w) : S1 w0 q r b o b' o' cn ct n0 n1 n2 n3 n4 n5 n6 n7 n8 s0 s1 w.drew := s1_below h ⟨rfl, rfl, rfl, Nat.le_refl _, fun _ _ => rfl⟩
theorem s1_undrew (h : S1 w0 q r b o b' o' cn ct n0 n1 n2 n3 n4 n5 n6 n7 n8 s0 s1 w.drew) : S1 w0 q r b o b' o' cn ct n0 n1 n2 n3 n4 n5 n6 n7 n8 s0 s1 w := s1_below h ⟨rfl, rfl, rfl, Nat.le_refl _, fun _ _ => rfl⟩
theorem s1_alloc (h : S1 w0 q r b o b' o' cn ct n0 n1 n2 n3 n4 n5 n6 n7 n8 s0 s1 w) (ob : Obj) : S1 w0 q r b o b' o' cn ct n0 n1 n2 n3 n4 n5 n6 n7 n8 s0 s1 (w.alloc ob) := s1_below h (below_alloc w ob)
theorem s1_set (h : S1 w0 q r b o b' o' cn ct n0 n1 n2 n3 n4 n5 n6 n7 n8 s0 s1 w) (j : Nat) (v : Value) : S1 w0 q r b o b' o' cn ct n0 n1 n2 n3 n4 n5 n6 n7 n8 s0 s1 (w.setCell ⟨r, j, none⟩ v) := by
  obtain ⟨g, ⟨h0, h1⟩, ⟨h2, h3, h4, h5, h6, h7, h8, h9, h10⟩, ⟨h11, h12⟩⟩ := h
  obtain ⟨f1, f2, f3, f4, f5, f6⟩ := g.out
  exact ⟨Lib.hid ⟨f1.setCell f4 v, f2.set j v, f3, f4, f5, f6⟩, ⟨set_cell h0 f3.symm, set_cell h1 f3.symm⟩, ⟨set_cell h2 f5.symm, set_cell h3 f5.symm, set_cell h4 f5.symm, set_cell h5 f5.symm, set_cell h6 f5.symm, set_cell h7 f5.symm, set_cell h8 f5.symm, set_cell h9 f5.symm, set_cell h10 f5.symm⟩, ⟨set_cell h11 f6.symm, set_cell h12 f6.symm⟩⟩
end
/-- .. and the box of its block -/
abbrev S2 (w0 : World) (q r b o b' o' cn ct : Nat) (n0 n1 n2 n3 n4 n5 n6 n7 n8 : Int) (s0 s1 : ByteArray) (x : Nat) (w : World) : Prop := S1 w0 q r b o b' o' cn ct n0 n1 n2 n3 n4 n5 n6 n7 n8 s0 s1 w ∧ Hid (x ≠ r) ∧ (w.cell? ⟨x, 0, none⟩ = some (.int .i64 n2) ∧ w.cell? ⟨x, 1, none⟩ = some (.int .i64 n3) ∧ w.cell? ⟨x, 2, none⟩ = some (.int .i64 n4))
section
variable {w0 w w' : World} {q r b o b' o' cn ct x : Nat} {n0 n1 n2 n3 n4 n5 n6 n7 n8 : Int} {s0 s1 : ByteArray}
theorem s2_below (h : S2 w0 q r b o b' o' cn ct n0 n1 n2 n3 n4 n5 n6 n7 n8 s0 s1 x w) (hb : Below w.heap.size w w') : S2 w0 q r b o b' o' cn ct n0 n1 n2 n3 n4 n5 n6 n7 n8 s0 s1 x w' := ⟨s1_below h.1 hb, h.2.1, below_cell h.2.2.1 hb, below_cell h.2.2.2.1 hb, below_cell h.2.2.2.2 hb⟩
theorem s2_drew (h : S2 w0 q r b o b' o' cn ct n0 n1 n2 n3 n4 n5 n6 n7 n8 s0 s1 x w) : S2 w0 q r b o b' o' cn ct n0 n1 n2 n3 n4 n5 n6 n7 n8 s0 s1 x w.drew := s2_below h ⟨rfl, rfl, rfl, Nat.le_refl _, fun _ _ => rfl⟩
theorem s2_set (h : S2 w0 q r b o b' o' cn ct n0 n1 n2 n3 n4 n5 n6 n7 n8 s0 s1 x w) (j : Nat) (v : Value) : S2 w0 q r b o b' o' cn ct n0 n1 n2 n3 n4 n5 n6 n7 n8 s0 s1 x (w.setCell ⟨r, j, none⟩ v) := ⟨s1_set h.1 j v, h.2.1, set_cell h.2.2.1 h.2.1.out.symm, set_cell h.2.2.2.1 h.2.1.out.symm, set_cell h.2.2.2.2 h.2.1.out.symm⟩
theorem s2_out (h : S2 w0 q r b o b' o' cn ct n0 n1 n2 n3 n4 n5 n6 n7 n8 s0 s1 x w) : Below w0.heap.size w0 w := h.1.1.out.1
theorem s2_ten (h : S2 w0 q r b o b' o' cn ct n0 n1 n2 n3 n4 n5 n6 n7 n8 s0 s1 x w) : Fr 10 w r := h.1.1.out.2.1
theorem clone_S2 (s : ByteArray) (hs : s.size ≤ 281474976710656) (h : S2 w0 q r b o b' o' cn ct n0 n1 n2 n3 n4 n5 n6 n7 n8 s0 s1 x w) :
    Calls Tryd.prog 35 #[.string s] w fun e w' => e = .returned (.string s) ∧ S2 w0 q r b o b' o' cn ct n0 n1 n2 n3 n4 n5 n6 n7 n8 s0 s1 x w' := by
  refine (clone_any s w hs).mono ?_
  rintro e w' ⟨rfl, hb⟩
  exact ⟨rfl, s2_below h hb⟩
end
set_option maxRecDepth 100000 in
set_option maxHeartbeats 4000000 in
theorem op_no (k c i : Int) (A C : Option Addr) (cn ct : Nat) (ns : List Int) (ts : List ByteArray) (w : World) (hS : Shp w) (hM : MsgAt w w.heap.size A C ns ts) (hk : validB k ns.length ts.length = false ∨ ¬ k = 1) :
    Calls Tryd.prog 18 #[.agg #[.int .i64 k, .int .i64 c, .int .i64 i, .slice A ns.length cn, .slice C ts.length ct]] w fun e w' => e = .returned (Value.tuple #[.agg #[.int .i64 0, .string ⟨#[]⟩, .string ⟨#[]⟩, .int .i64 0, .int .i64 0, .int .i64 0, .int .i64 0, .int .i64 0, .int .u32 0, .int .i64 0], .int .i64 21]) ∧ Below w.heap.size w w' := by
  have hn : ns.length ≤ 140737488351232 := by have := hM.nl; omega
  have ht : ts.length ≤ 140737488351232 := by have := hM.tl; omega
  have HS := Lib.hid hS
  clear hS hM
  by_cases hv : validB k ns.length ts.length = true
  · have hk1 : ¬ k = 1 := hk.resolve_left (by simp [hv])
    have hk2 : (k != 1) = true := by simpa using hk1
    have hk3 : (k == 1) = false := by simpa using hk1
    clear hk
    go_enter Tryd.func18, Tryd.ntmps18
    go_wp2_with (fail)
    refine (valid_any k c i A C ns.length ts.length cn ct _ ((HS.out.alloc _).alloc _) hn ht).mono ?_
    rw [hv]
    rintro e w1 ⟨rfl, hb⟩
    have BB := Lib.hid (((below_alloc w _).alloc (by simp) _).trans (hb.mono (by simp; omega)))
    have F : Hid (Fr 10 w1 (w.heap.size + 1)) := Lib.hid (by have hF := (Fr.new (w.alloc (.cells #[.int .i64 k, .int .i64 c, .int .i64 i, .slice A ns.length cn, .slice C ts.length ct] 27)) #[.int .i64 0, .string ⟨#[]⟩, .string ⟨#[]⟩, .int .i64 0, .int .i64 0, .int .i64 0, .int .i64 0, .int .i64 0, .int .u32 0, .int .i64 0] 52).below hb; rw [World.size_alloc] at hF; exact hF)
    have M := Lib.hid (((M5.new w k c i A ns.length cn C ts.length ct 27).below (below_alloc _ (.cells #[.int .i64 0, .string ⟨#[]⟩, .string ⟨#[]⟩, .int .i64 0, .int .i64 0, .int .i64 0, .int .i64 0, .int .i64 0, .int .u32 0, .int .i64 0] 52)) (by simp)).below hb (by simp; omega))
    have c0 := M.out.c0
    obtain ⟨z0, y0, x0⟩ := fr_in F.out 0 (by omega)
    obtain ⟨z1, y1, x1⟩ := fr_in F.out 1 (by omega)
    obtain ⟨z2, y2, x2⟩ := fr_in F.out 2 (by omega)
    obtain ⟨z3, y3, x3⟩ := fr_in F.out 3 (by omega)
    obtain ⟨z4, y4, x4⟩ := fr_in F.out 4 (by omega)
    obtain ⟨z5, y5, x5⟩ := fr_in F.out 5 (by omega)
    obtain ⟨z6, y6, x6⟩ := fr_in F.out 6 (by omega)
    obtain ⟨z7, y7, x7⟩ := fr_in F.out 7 (by omega)
    obtain ⟨z8, y8, x8⟩ := fr_in F.out 8 (by omega)
    obtain ⟨z9, y9, x9⟩ := fr_in F.out 9 (by omega)
    have G := Lib.hid (cs_ten F.out (.int .i64 0) (.string ⟨#[]⟩) (.string ⟨#[]⟩) (.int .i64 0) (.int .i64 0) (.int .i64 0) (.int .i64 0) (.int .i64 0) (.int .u32 0) (.int .i64 0))
    have hr : w.heap.size ≤ w.heap.size + 1 := by omega
    clear hb
    go_wp2_with (fail)
    refine bodyPost_ret (v := Value.tuple #[.agg #[.int .i64 0, .string ⟨#[]⟩, .string ⟨#[]⟩, .int .i64 0, .int .i64 0, .int .i64 0, .int .i64 0, .int .i64 0, .int .u32 0, .int .i64 0], .int .i64 21]) (results_ct rfl _ _ (w.heap.size + 1) _ _ rfl (cs_range G.out) Tryd.underlying52 rfl (by kernel_rfl) _ rfl) rfl ⟨rfl, ?_⟩
    exact (((((((((BB.out.setCell hr _).setCell hr _).setCell hr _).setCell hr _).setCell hr _).setCell hr _).setCell hr _).setCell hr _).setCell hr _).setCell hr _
  · have hv2 : validB k ns.length ts.length = false := by simpa using hv
    go_enter Tryd.func18, Tryd.ntmps18
    go_wp2_with (fail)
    refine (valid_any k c i A C ns.length ts.length cn ct _ ((HS.out.alloc _).alloc _) hn ht).mono ?_
    rw [hv2]
    rintro e w1 ⟨rfl, hb⟩
    have BB := Lib.hid (((below_alloc w _).alloc (by simp) _).trans (hb.mono (by simp; omega)))
    have F : Hid (Fr 10 w1 (w.heap.size + 1)) := Lib.hid (by have hF := (Fr.new (w.alloc (.cells #[.int .i64 k, .int .i64 c, .int .i64 i, .slice A ns.length cn, .slice C ts.length ct] 27)) #[.int .i64 0, .string ⟨#[]⟩, .string ⟨#[]⟩, .int .i64 0, .int .i64 0, .int .i64 0, .int .i64 0, .int .i64 0, .int .u32 0, .int .i64 0] 52).below hb; rw [World.size_alloc] at hF; exact hF)
    have M := Lib.hid (((M5.new w k c i A ns.length cn C ts.length ct 27).below (below_alloc _ (.cells #[.int .i64 0, .string ⟨#[]⟩, .string ⟨#[]⟩, .int .i64 0, .int .i64 0, .int .i64 0, .int .i64 0, .int .i64 0, .int .u32 0, .int .i64 0] 52)) (by simp)).below hb (by simp; omega))
    have c0 := M.out.c0
    obtain ⟨z0, y0, x0⟩ := fr_in F.out 0 (by omega)
    obtain ⟨z1, y1, x1⟩ := fr_in F.out 1 (by omega)
    obtain ⟨z2, y2, x2⟩ := fr_in F.out 2 (by omega)
    obtain ⟨z3, y3, x3⟩ := fr_in F.out 3 (by omega)
    obtain ⟨z4, y4, x4⟩ := fr_in F.out 4 (by omega)
    obtain ⟨z5, y5, x5⟩ := fr_in F.out 5 (by omega)
    obtain ⟨z6, y6, x6⟩ := fr_in F.out 6 (by omega)
    obtain ⟨z7, y7, x7⟩ := fr_in F.out 7 (by omega)
    obtain ⟨z8, y8, x8⟩ := fr_in F.out 8 (by omega)
    obtain ⟨z9, y9, x9⟩ := fr_in F.out 9 (by omega)
    have G := Lib.hid (cs_ten F.out (.int .i64 0) (.string ⟨#[]⟩) (.string ⟨#[]⟩) (.int .i64 0) (.int .i64 0) (.int .i64 0) (.int .i64 0) (.int .i64 0) (.int .u32 0) (.int .i64 0))
    have hr : w.heap.size ≤ w.heap.size + 1 := by omega
    clear hb
    go_wp2_with (fail)
    refine bodyPost_ret (v := Value.tuple #[.agg #[.int .i64 0, .string ⟨#[]⟩, .string ⟨#[]⟩, .int .i64 0, .int .i64 0, .int .i64 0, .int .i64 0, .int .i64 0, .int .u32 0, .int .i64 0], .int .i64 21]) (results_ct rfl _ _ (w.heap.size + 1) _ _ rfl (cs_range G.out) Tryd.underlying52 rfl (by kernel_rfl) _ rfl) rfl ⟨rfl, ?_⟩
    exact (((((((((BB.out.setCell hr _).setCell hr _).setCell hr _).setCell hr _).setCell hr _).setCell hr _).setCell hr _).setCell hr _).setCell hr _).setCell hr _
end Go.Proofs.YtndcmjgjecdgcaaDoor
