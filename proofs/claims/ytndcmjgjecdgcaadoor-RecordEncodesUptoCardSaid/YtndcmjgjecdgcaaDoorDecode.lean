/- The contract of record.Decode: the message that bytes are, or the first error. -/
import Derived.Test.YtndcmjgjecdgcaaDoorDecList
import Derived.Test.YtndcmjgjecdgcaaDoorRecOp2
namespace Go.Proofs.YtndcmjgjecdgcaaDoor
open Go.RowKit
/-- the message of bytes, or the error -/
def dec (n : Nat) (L : List UInt8) : Except Int (Int × Int × Int × List Int × List ByteArray) :=
  let h1 := Wire.tInt L 0
  let h2 := Wire.tInt h1.2.1 h1.2.2
  let h3 := Wire.tInt h2.2.1 h2.2.2
  let a := listI n h3.2.1 h3.2.2
  if a.2.2 ≠ 0 then .error a.2.2 else
  let b := listT n a.2.1 0
  if b.2.2 ≠ 0 then .error b.2.2 else
  if Wire.tEnd b.2.1 0 ≠ 0 then .error (Wire.tEnd b.2.1 0) else
  if validB h1.1 a.1.length b.1.length then .ok (h1.1, h2.1, h3.1, a.1, b.1) else .error 21
section
variable {n : Nat} {L l1 l2 l3 l4 l5 : List UInt8} {k c i e1 e2 e3 e4 e5 : Int} {ns : List Int} {ts : List ByteArray}
theorem dec_a (hk : Wire.tInt L 0 = (k, l1, e1)) (hc : Wire.tInt l1 e1 = (c, l2, e2)) (hi : Wire.tInt l2 e2 = (i, l3, e3)) (hA : listI n l3 e3 = (ns, l4, e4)) (h4 : e4 ≠ 0) : dec n L = .error e4 := by
  simp only [dec, hk, hc, hi, hA]; rw [if_pos h4]
theorem dec_b (hk : Wire.tInt L 0 = (k, l1, e1)) (hc : Wire.tInt l1 e1 = (c, l2, e2)) (hi : Wire.tInt l2 e2 = (i, l3, e3)) (hA : listI n l3 e3 = (ns, l4, 0)) (hB : listT n l4 0 = (ts, l5, e5)) (h5 : e5 ≠ 0) : dec n L = .error e5 := by
  simp only [dec, hk, hc, hi, hA, hB]; rw [if_neg (by simp), if_pos h5]
theorem dec_c (hk : Wire.tInt L 0 = (k, l1, e1)) (hc : Wire.tInt l1 e1 = (c, l2, e2)) (hi : Wire.tInt l2 e2 = (i, l3, e3)) (hA : listI n l3 e3 = (ns, l4, 0)) (hB : listT n l4 0 = (ts, l5, 0)) (h6 : Wire.tEnd l5 0 ≠ 0) : dec n L = .error (Wire.tEnd l5 0) := by
  simp only [dec, hk, hc, hi, hA, hB]; rw [if_neg (by simp), if_neg (by simp), if_pos h6]
theorem dec_d (hk : Wire.tInt L 0 = (k, l1, e1)) (hc : Wire.tInt l1 e1 = (c, l2, e2)) (hi : Wire.tInt l2 e2 = (i, l3, e3)) (hA : listI n l3 e3 = (ns, l4, 0)) (hB : listT n l4 0 = (ts, l5, 0)) (h6 : Wire.tEnd l5 0 = 0) (hv : validB k ns.length ts.length = false) : dec n L = .error 21 := by
  simp only [dec, hk, hc, hi, hA, hB]; rw [if_neg (by simp), if_neg (by simp), if_neg (by simp [h6]), if_neg (by simp [hv])]
theorem dec_e (hk : Wire.tInt L 0 = (k, l1, e1)) (hc : Wire.tInt l1 e1 = (c, l2, e2)) (hi : Wire.tInt l2 e2 = (i, l3, e3)) (hA : listI n l3 e3 = (ns, l4, 0)) (hB : listT n l4 0 = (ts, l5, 0)) (h6 : Wire.tEnd l5 0 = 0) (hv : validB k ns.length ts.length = true) : dec n L = .ok (k, c, i, ns, ts) := by
  simp only [dec, hk, hc, hi, hA, hB]; rw [if_neg (by simp), if_neg (by simp), if_neg (by simp [h6]), if_pos hv]
end
theorem takeI_len : ∀ (n : Nat) (l : List UInt8) (er : Int), (takeI n l er).1.length ≤ n
  | 0, _, _ => by simp [takeI]
  | n + 1, l, er => by
    unfold takeI
    split
    · simp
    · have := takeI_len n (Wire.tInt l er).2.1 0
      simp only [List.length_cons]; omega
theorem takeT_len : ∀ (n : Nat) (l : List UInt8) (er : Int), (takeT n l er).1.length ≤ n
  | 0, _, _ => by simp [takeT]
  | n + 1, l, er => by
    unfold takeT
    split
    · simp
    · have := takeT_len n (Wire.tText l er).2.1 0
      simp only [List.length_cons]; omega
theorem listI_len (n : Nat) (l : List UInt8) (er : Int) : (listI n l er).1.length ≤ n := by
  unfold listI
  split
  · simp
  · have := takeI_len (Wire.tInt l er).1.toNat (Wire.tInt l er).2.1 (Wire.tInt l er).2.2
    omega
theorem listT_len (n : Nat) (l : List UInt8) (er : Int) : (listT n l er).1.length ≤ n := by
  unfold listT
  split
  · simp
  · have := takeT_len (Wire.tInt l er).1.toNat (Wire.tInt l er).2.1 (Wire.tInt l er).2.2
    omega
theorem own_down {w : World} {B B' n : Nat} {e : TypeId} {x : Value} {xs : List Value} (h : w.ownsRow B e 1 x n xs) (hB : B' ≤ B) : w.ownsRow B' e 1 x n xs := by
  obtain ⟨hl, h⟩ := h
  refine ⟨hl, ?_⟩
  rcases h with h | ⟨g, cap, cur, h1, h2, h3⟩
  · exact .inl h
  · exact .inr ⟨g, cap, cur, h1, by omega, h3⟩
theorem own_below {w w' : World} {B n : Nat} {e : TypeId} {x : Value} {xs : List Value} (h : w.ownsRow B e 1 x n xs) (hb : Below w.heap.size w w') : w'.ownsRow B e 1 x n xs := by
  obtain ⟨hl, h⟩ := h
  refine ⟨hl, ?_⟩
  rcases h with h | ⟨g, cap, cur, h1, h2, h3, h4⟩
  · exact .inl h
  · have hg : g < w.heap.size := by
      rcases Nat.lt_or_ge g w.heap.size with hl | hl
      · exact hl
      · rw [Array.getElem?_eq_none hl] at h3; cases h3
    exact .inr ⟨g, cap, cur, h1, h2, (hb.block g hg).trans h3, h4⟩
/-- the boxes of Decode: of the result, and of the message -/
structure DS (w0 w : World) (q : Nat) (v0 v1 v2 v3 v4 : Value) : Prop where
  bel : Below w0.heap.size w0 w
  hq : q = w0.heap.size + 1
  fr : Fr 5 w w0.heap.size
  fq : Fr 5 w q
  cq : Cs w q [v0, v1, v2, v3, v4]
theorem fr_of_block {n : Nat} {w w' : World} {r : Nat} (h : Fr n w r) (e : w'.heap[r]? = w.heap[r]?) : Fr n w' r := fun j hj => by
  obtain ⟨⟨v, hv⟩, hf⟩ := h j hj
  exact ⟨⟨v, (World.cell?_of_block (a := ⟨r, _, none⟩) e).trans hv⟩, (World.frozen?_of_block (a := ⟨r, _, none⟩) e).trans hf⟩
theorem cs_of_block {w w' : World} {r : Nat} {vs : List Value} (h : Cs w r vs) (e : w'.heap[r]? = w.heap[r]?) : Cs w' r vs := fun i v hv => (World.cell?_of_block (a := ⟨r, i, none⟩) e).trans (h i v hv)
section
variable {w0 w w' : World} {q u : Nat} {v0 v1 v2 v3 v4 : Value}
theorem DS.lt (h : DS w0 w q v0 v1 v2 v3 v4) : q < w.heap.size := h.fq.lt
theorem DS.grown (h : DS w0 w q v0 v1 v2 v3 v4) (hg : w.grownBy w' (some u)) (hu : w0.heap.size + 1 < u) : DS w0 w' q v0 v1 v2 v3 v4 := by
  have hl := h.lt
  have hqe := h.hq
  have ne : ∀ k, k ≤ w0.heap.size + 1 → some k ≠ some u := fun k hk e => by injection e with e; omega
  have eq : w'.heap[q]? = w.heap[q]? := hg.block q hl (ne q (by omega))
  have er : w'.heap[w0.heap.size]? = w.heap[w0.heap.size]? := hg.block _ (by omega) (ne _ (by omega))
  exact ⟨⟨hg.os.trans h.bel.os, hg.tape.trans h.bel.tape, hg.output.trans h.bel.output, Nat.le_trans h.bel.size hg.size, fun k hk => (hg.block k (Nat.lt_of_lt_of_le hk h.bel.size) (ne k (by omega))).trans (h.bel.block k hk)⟩, hqe, fr_of_block h.fr er, fr_of_block h.fq eq, cs_of_block h.cq eq⟩
theorem DS.below (h : DS w0 w q v0 v1 v2 v3 v4) (hb : Below w.heap.size w w') : DS w0 w' q v0 v1 v2 v3 v4 :=
  ⟨h.bel.trans (hb.mono h.bel.size), h.hq, h.fr.below hb, h.fq.below hb, h.cq.below hb⟩
theorem DS.set (h : DS w0 w q v0 v1 v2 v3 v4) (j : Nat) (v : Value) : Below w0.heap.size w0 (w.setCell ⟨q, j, none⟩ v) ∧ Fr 5 (w.setCell ⟨q, j, none⟩ v) w0.heap.size ∧ Fr 5 (w.setCell ⟨q, j, none⟩ v) q := by
  have hqe := h.hq
  refine ⟨h.bel.setCell (by show w0.heap.size ≤ q; omega) v, fr_of_block h.fr ?_, h.fq.set j v⟩
  exact Below.heap_setCell _ _ _ _ (by show _ ≠ q; omega)
theorem cs_set {j : Nat} {vs : List Value} {v x : Value} (h : Cs w q vs) (hx : w.cell? ⟨q, j, none⟩ = some x) : Cs (w.setCell ⟨q, j, none⟩ v) q (vs.set j v) := fun i y hy => by
  by_cases hij : i = j
  · subst hij
    have hl : i < vs.length := by
      rcases Nat.lt_or_ge i vs.length with hl | hl
      · exact hl
      · rw [List.getElem?_eq_none (by simpa using hl)] at hy; cases hy
    rw [List.getElem?_set_self hl] at hy
    injection hy with hy
    subst hy
    exact World.cell?_setCell_same _ _ _ hx
  · rw [List.getElem?_set_ne (fun e => hij e.symm)] at hy
    exact (World.cell?_setCell_other _ _ _ _ (by intro e; injection e with _ e2; exact hij e2.symm)).trans (h i y hy)
theorem DS.set0 (h : DS w0 w q v0 v1 v2 v3 v4) (v : Value) : DS w0 (w.setCell ⟨q, 0, none⟩ v) q v v1 v2 v3 v4 := by
  obtain ⟨a, b, c⟩ := h.set 0 v
  exact ⟨a, h.hq, b, c, cs_set h.cq (h.cq 0 _ rfl)⟩
theorem DS.set1 (h : DS w0 w q v0 v1 v2 v3 v4) (v : Value) : DS w0 (w.setCell ⟨q, 1, none⟩ v) q v0 v v2 v3 v4 := by
  obtain ⟨a, b, c⟩ := h.set 1 v
  exact ⟨a, h.hq, b, c, cs_set h.cq (h.cq 1 _ rfl)⟩
theorem DS.set2 (h : DS w0 w q v0 v1 v2 v3 v4) (v : Value) : DS w0 (w.setCell ⟨q, 2, none⟩ v) q v0 v1 v v3 v4 := by
  obtain ⟨a, b, c⟩ := h.set 2 v
  exact ⟨a, h.hq, b, c, cs_set h.cq (h.cq 2 _ rfl)⟩
theorem DS.set3 (h : DS w0 w q v0 v1 v2 v3 v4) (v : Value) : DS w0 (w.setCell ⟨q, 3, none⟩ v) q v0 v1 v2 v v4 := by
  obtain ⟨a, b, c⟩ := h.set 3 v
  exact ⟨a, h.hq, b, c, cs_set h.cq (h.cq 3 _ rfl)⟩
theorem DS.set4 (h : DS w0 w q v0 v1 v2 v3 v4) (v : Value) : DS w0 (w.setCell ⟨q, 4, none⟩ v) q v0 v1 v2 v3 v := by
  obtain ⟨a, b, c⟩ := h.set 4 v
  exact ⟨a, h.hq, b, c, cs_set h.cq (h.cq 4 _ rfl)⟩
theorem UnIs.set {s : ByteArray} {l : List UInt8} {er : Int} {j : Nat} {v : Value} (h : UnIs w u s l er) (hne : u ≠ q) : UnIs (w.setCell ⟨q, j, none⟩ v) u s l er := h.grown (grown_set w q j v) hne
theorem own_set {B j n : Nat} {e : TypeId} {x v : Value} {xs : List Value} (h : w.ownsRow B e 1 x n xs) (hq : q < B) : (w.setCell ⟨q, j, none⟩ v).ownsRow B e 1 x n xs := ownsRow_grown h (grown_set w q j v) hq
theorem own_shape {B n : Nat} {e : TypeId} {x : Value} {xs : List Value} (h : w.ownsRow B e 1 x n xs) : ∃ A cn, x = .slice A n cn ∧ SlOf w w.heap.size A n (fun i => xs.getD i undef) ∧ ∀ g o, A = some ⟨g, o, none⟩ → B ≤ g := by
  obtain ⟨hl, h⟩ := h
  rcases h with ⟨rfl, rfl⟩ | ⟨g, cap, cur, rfl, hB, hg, hnc, hcm, hcs, ht⟩
  · exact ⟨none, 0, rfl, fun i hi => absurd hi (by omega), fun g o e => by cases e⟩
  · have hgl : g < w.heap.size := by
      rcases Nat.lt_or_ge g w.heap.size with hl | hl
      · exact hl
      · rw [Array.getElem?_eq_none hl] at hg; cases hg
    refine ⟨some ⟨g, 0, none⟩, cap, rfl, fun i hi => ⟨g, 0, rfl, hgl, ?_⟩, fun g' o e => by injection e with e; injection e with e1 _; omega⟩
    have hx : xs.getD i undef = cur[i]'(by omega) := by
      rw [← ht]
      simp [List.getD, List.getElem?_take, show i < n * 1 by omega, show i < cur.size by omega]
      rw [if_pos hi]; rfl
    show w.cell? ⟨g, 0 + i, none⟩ = some (xs.getD i undef)
    rw [hx]
    simp [World.cell?, hg, show i < cur.size by omega]
end
/-- how Decode leaves by its label -/
def DJ (w : World) (s : ByteArray) (R : Except Int (Int × Int × Int × List Int × List ByteArray)) (l : Nat) (a' : Act) (w' : World) : Prop :=
  l = 0 ∧ ∃ (r : Nat) (er : Int), r = w.heap.size ∧ R = .error er ∧ er ≠ 0 ∧ Below w.heap.size w w' ∧ Fr 5 w' r ∧ ∃ u1 u3 u4 u6 u7 u8 u9 u10 u11 u12 u13 u14 u15 u16 u17 u18 u19 u20 u21 u22 u23 u24 u25 u26 u27 u28 u29 u30 u31 u32 u33 u34 u35 u36 u37 u38 u39 u40 u41 u42 u43 u44 u45 u46 u47 u48 u49 u50 u51 : Value, a' = { tmps := #[.string s, u1, .pointer (some ⟨r, 0, none⟩), u3, u4, .int .i64 er, u6, u7, u8, u9, u10, u11, u12, u13, u14, u15, u16, u17, u18, u19, u20, u21, u22, u23, u24, u25, u26, u27, u28, u29, u30, u31, u32, u33, u34, u35, u36, u37, u38, u39, u40, u41, u42, u43, u44, u45, u46, u47, u48, u49, u50, u51], defers := [] }
def DecPost (w : World) (R : Except Int (Int × Int × Int × List Int × List ByteArray)) (e : Ending) (w' : World) : Prop :=
  match R with
  | .error er => e = .returned (.tuple #[.agg #[.int .i64 0, .int .i64 0, .int .i64 0, .slice none 0 0, .slice none 0 0], .int .i64 er]) ∧ er ≠ 0 ∧ Below w.heap.size w w'
  | .ok (k, c, i, ns, ts) => ∃ x y, e = .returned (.tuple #[.agg #[.int .i64 k, .int .i64 c, .int .i64 i, x, y], .int .i64 0]) ∧ Below w.heap.size w w' ∧ w'.ownsRow (w.heap.size + 2) 3 1 x ns.length (ns.map (Value.int .i64)) ∧ w'.ownsRow (w.heap.size + 2) 9 1 y ts.length (ts.map Value.string)
theorem range5f {w : World} {r : Nat} (h : Fr 5 w r) (v0 v1 v2 v3 v4 : Value) : Cs (((((w.setCell ⟨r, 0, none⟩ v0).setCell ⟨r, 1, none⟩ v1).setCell ⟨r, 2, none⟩ v2).setCell ⟨r, 3, none⟩ v3).setCell ⟨r, 4, none⟩ v4) r [v0, v1, v2, v3, v4] := by
  obtain ⟨z0, y0, _⟩ := fr_in h 0 (by omega)
  obtain ⟨z1, y1, _⟩ := fr_in h 1 (by omega)
  obtain ⟨z2, y2, _⟩ := fr_in h 2 (by omega)
  obtain ⟨z3, y3, _⟩ := fr_in h 3 (by omega)
  obtain ⟨z4, y4, _⟩ := fr_in h 4 (by omega)
  intro i v hv
  match i, hv with
  | 0, hv => simp at hv; subst hv; simp [World.cell?_setCell_other, World.cell?_setCell_same', y0]
  | 1, hv => simp at hv; subst hv; simp [World.cell?_setCell_other, World.cell?_setCell_same', y1]
  | 2, hv => simp at hv; subst hv; simp [World.cell?_setCell_other, World.cell?_setCell_same', y2]
  | 3, hv => simp at hv; subst hv; simp [World.cell?_setCell_other, World.cell?_setCell_same', y3]
  | 4, hv => simp at hv; subst hv; simp [World.cell?_setCell_other, World.cell?_setCell_same', y4]
  | i + 5, hv => simp at hv
set_option maxRecDepth 100000 in
set_option maxHeartbeats 4000000 in
theorem decode_any (s : ByteArray) (w : World) (hS : Shp w) (hs : s.size ≤ 16777216) :
    Calls Tryd.prog 15 #[.string s] w (DecPost w (dec s.size s.data.toList)) := by
  obtain ⟨R, hR⟩ : ∃ R, R = dec s.size s.data.toList := ⟨_, rfl⟩
  rw [← hR]
  have HS := Lib.hid hS
  have HR := Lib.hid hR
  clear hS hR
  go_enter Tryd.func15, Tryd.ntmps15
  go_wp2
  refine wp_scope_hops (DJ w s R) (fun _ _ _ => 0) ?_ ?_ ?_
  · rintro l a' w' ⟨rfl, _⟩; exact ⟨_, rfl⟩
  · rintro l rest a' w' hrest ⟨rfl, r, er, hr, he, hne, hb, hF, hat⟩
    obtain ⟨u1, u3, u4, u6, u7, u8, u9, u10, u11, u12, u13, u14, u15, u16, u17, u18, u19, u20, u21, u22, u23, u24, u25, u26, u27, u28, u29, u30, u31, u32, u33, u34, u35, u36, u37, u38, u39, u40, u41, u42, u43, u44, u45, u46, u47, u48, u49, u50, u51, rfl⟩ := hat
    obtain rfl := (Code.seq.inj (Option.some.inj hrest)).2.symm
    clear hrest
    have HRR := Lib.hid (And.intro hr (And.intro he (And.intro hne hb)))
    obtain ⟨z0, y0, x0⟩ := fr_in hF 0 (by omega)
    obtain ⟨z1, y1, x1⟩ := fr_in hF 1 (by omega)
    obtain ⟨z2, y2, x2⟩ := fr_in hF 2 (by omega)
    obtain ⟨z3, y3, x3⟩ := fr_in hF 3 (by omega)
    obtain ⟨z4, y4, x4⟩ := fr_in hF 4 (by omega)
    have G := Lib.hid (range5f hF (.int .i64 0) (.int .i64 0) (.int .i64 0) (.slice none 0 0) (.slice none 0 0))
    clear hr he hb hF hne
    go_wp2_with (fail)
    simp only [Hops]
    refine bodyPost_ret (v := Value.tuple #[.agg #[.int .i64 0, .int .i64 0, .int .i64 0, .slice none 0 0, .slice none 0 0], .int .i64 er]) (results_ct rfl _ _ r _ _ rfl (cs_range G.out) Tryd.underlying27 rfl (by kernel_rfl) _ rfl) rfl ?_
    obtain ⟨hr, he, hne, hb⟩ := HRR.out
    rw [he]
    exact ⟨rfl, hne, ((((hb.setCell (by show _ ≤ r; omega) _).setCell (by show _ ≤ r; omega) _).setCell (by show _ ≤ r; omega) _).setCell (by show _ ≤ r; omega) _).setCell (by show _ ≤ r; omega) _⟩
  · intro _
    have hs2 : s.size ≤ 140737488351232 := by omega
    go_wp2_with (fail)
    refine (open_any s _).mono ?_
    rintro e w1 ⟨u, rfl, hu, hU, hb⟩
    obtain ⟨q, hq⟩ : ∃ q, q = w.heap.size + 1 := ⟨_, rfl⟩
    have D1 : Hid (DS w w1 q (.int .i64 0) (.int .i64 0) (.int .i64 0) (.slice none 0 0) (.slice none 0 0)) := Lib.hid (by
      have hb2 : Below w.heap.size w w1 := (((below_alloc w _).alloc (by simp) _).trans (hb.mono (by simp; omega)))
      have f1 := ((Fr.new w #[.int .i64 0, .int .i64 0, .int .i64 0, .slice none 0 0, .slice none 0 0] 27).below (below_alloc _ (.cells #[.int .i64 0, .int .i64 0, .int .i64 0, .slice none 0 0, .slice none 0 0] 27))).below hb
      have f2 := (Fr.new (w.alloc (.cells #[.int .i64 0, .int .i64 0, .int .i64 0, .slice none 0 0, .slice none 0 0] 27)) #[.int .i64 0, .int .i64 0, .int .i64 0, .slice none 0 0, .slice none 0 0] 27).below hb
      have f3 := (Cs.new (w.alloc (.cells #[.int .i64 0, .int .i64 0, .int .i64 0, .slice none 0 0, .slice none 0 0] 27)) #[.int .i64 0, .int .i64 0, .int .i64 0, .slice none 0 0, .slice none 0 0] 27).below hb
      rw [World.size_alloc, ← hq] at f2 f3
      exact ⟨hb2, hq, f1, f2, f3⟩)
    have hu2 : w.heap.size + 1 < u := by rw [hu]; simp
    have hqu : u ≠ q := by omega
    have HQ := Lib.hid (And.intro hq (And.intro hu2 hqu))
    have U1 := Lib.hid hU
    rw [← hq]
    obtain ⟨L, hL⟩ : ∃ L, L = s.data.toList := ⟨_, rfl⟩
    obtain ⟨k, l1, e1, hk⟩ : ∃ k l1 e1, Wire.tInt L 0 = (k, l1, e1) := ⟨_, _, _, rfl⟩
    obtain ⟨c, l2, e2, hc⟩ : ∃ c l2 e2, Wire.tInt l1 e1 = (c, l2, e2) := ⟨_, _, _, rfl⟩
    obtain ⟨i, l3, e3, hi⟩ : ∃ i l3 e3, Wire.tInt l2 e2 = (i, l3, e3) := ⟨_, _, _, rfl⟩
    have h22 : e3 ≠ 22 := by
      have a1 := tInt22 (l := L) (er := 0) (by decide); rw [hk] at a1
      have a2 := tInt22 (l := l1) (er := e1) a1; rw [hc] at a2
      have a3 := tInt22 (l := l2) (er := e2) a2; rw [hi] at a3
      exact a3
    have HH := Lib.hid (And.intro hL (And.intro hk (And.intro hc (And.intro hi h22))))
    clear hu hq hU hb hu2 hqu hL hk hc hi h22
    go_wp2_with (fail)
    refine (uint_any u s _ 0 w1 hs2 U1.out).mono ?_
    rw [← HH.out.1, HH.out.2.1]
    rintro e w2 ⟨rfl, hU2, hg2⟩
    have U2 := Lib.hid hU2
    have D2 := Lib.hid (D1.out.grown hg2 HQ.out.2.1)
    obtain ⟨z, f0, g0⟩ := fr_in D2.out.fq 0 (by omega)
    clear hU2 hg2 D1 U1
    go_wp2_with (fail)
    have U3 := Lib.hid (U2.out.set (j := 0) (v := .int .i64 k) HQ.out.2.2)
    have D3 := Lib.hid (D2.out.set0 (.int .i64 k))
    clear U2 D2 f0 g0
    refine (uint_any u s _ e1 _ hs2 U3.out).mono ?_
    rw [HH.out.2.2.1]
    rintro e w4 ⟨rfl, hU4, hg4⟩
    have U4 := Lib.hid hU4
    have D4 := Lib.hid (D3.out.grown hg4 HQ.out.2.1)
    obtain ⟨z, f0, g0⟩ := fr_in D4.out.fq 1 (by omega)
    clear hU4 hg4 D3 U3
    go_wp2_with (fail)
    have U5 := Lib.hid (U4.out.set (j := 1) (v := .int .i64 c) HQ.out.2.2)
    have D5 := Lib.hid (D4.out.set1 (.int .i64 c))
    clear U4 D4 f0 g0
    refine (uint_any u s _ e2 _ hs2 U5.out).mono ?_
    rw [HH.out.2.2.2.1]
    rintro e w6 ⟨rfl, hU6, hg6⟩
    have U6 := Lib.hid hU6
    have D6 := Lib.hid (D5.out.grown hg6 HQ.out.2.1)
    obtain ⟨z, f0, g0⟩ := fr_in D6.out.fq 2 (by omega)
    clear hU6 hg6 D5 U5
    go_wp2_with (fail)
    have U7 := Lib.hid (U6.out.set (j := 2) (v := .int .i64 i) HQ.out.2.2)
    have D7 := Lib.hid (D6.out.set2 (.int .i64 i))
    clear U6 D6 f0 g0
    obtain ⟨w7, hw7⟩ : ∃ w7, w7 = w6.setCell ⟨q, 2, none⟩ (.int .i64 i) := ⟨_, rfl⟩
    rw [← hw7] at U7 D7 ⊢
    clear hw7
    refine (list_ints u s.size s l3 e3 w7 hs2 hs U7.out HH.out.2.2.2.2).mono ?_
    obtain ⟨ns, l4, e4, hA⟩ : ∃ ns l4 e4, listI s.size l3 e3 = (ns, l4, e4) := ⟨_, _, _, rfl⟩
    rw [hA]
    have HA := Lib.hid hA
    rintro e w8 ⟨x, rfl, hO8, hU8, hg8⟩
    have hO8' : w8.ownsRow w7.heap.size 3 1 x ns.length (ns.map (Value.int .i64)) := by rw [List.length_map] at hO8; exact hO8
    obtain ⟨A8, c8, hx8, _, _⟩ := own_shape hO8'
    subst hx8
    have U8 := Lib.hid hU8
    have O8 := Lib.hid hO8'
    clear hO8'
    have D8 := Lib.hid (D7.out.grown hg8 HQ.out.2.1)
    obtain ⟨z, f0, g0⟩ := fr_in D8.out.fq 3 (by omega)
    have hqB : q < w7.heap.size := D7.out.lt
    have HQB := Lib.hid hqB
    have HU7 := Lib.hid U7.out.1
    clear hU8 hg8 D7 U7 hO8 hA hqB
    have EX : ∀ (er : Int) (wx : World) (u1 u3 u4 u6 u7 u8 u9 u10 u11 u12 u13 u14 u15 u16 u17 u18 u19 u20 u21 u22 u23 u24 u25 u26 u27 u28 u29 u30 u31 u32 u33 u34 u35 u36 u37 u38 u39 u40 u41 u42 u43 u44 u45 u46 u47 u48 u49 u50 u51 : Value) (v0 v1 v2 v3 v4 : Value), R = .error er → er ≠ 0 → DS w wx q v0 v1 v2 v3 v4 →
        DJ w s R 0 { tmps := #[.string s, u1, .pointer (some ⟨w.heap.size, 0, none⟩), u3, u4, .int .i64 er, u6, u7, u8, u9, u10, u11, u12, u13, u14, u15, u16, u17, u18, u19, u20, u21, u22, u23, u24, u25, u26, u27, u28, u29, u30, u31, u32, u33, u34, u35, u36, u37, u38, u39, u40, u41, u42, u43, u44, u45, u46, u47, u48, u49, u50, u51], defers := [] } wx := by
      intro er wx u1 u3 u4 u6 u7 u8 u9 u10 u11 u12 u13 u14 u15 u16 u17 u18 u19 u20 u21 u22 u23 u24 u25 u26 u27 u28 u29 u30 u31 u32 u33 u34 u35 u36 u37 u38 u39 u40 u41 u42 u43 u44 u45 u46 u47 u48 u49 u50 u51 v0 v1 v2 v3 v4 hr hne hd
      exact ⟨rfl, _, er, rfl, hr, hne, hd.bel, hd.fr, _, _, _, _, _, _, _, _, _, _, _, _, _, _, _, _, _, _, _, _, _, _, _, _, _, _, _, _, _, _, _, _, _, _, _, _, _, _, _, _, _, _, _, _, _, _, _, _, _, rfl⟩
    have HEX := Lib.hid EX
    clear EX
    by_cases h4 : e4 = 0
    · subst h4
      have U8' : Hid (UnIs w8 u s l4 0) := Lib.hid (U8.out.resolve_left (by simp))
      clear U8
      go_wp2_with (fail)
      have U9 := Lib.hid (U8'.out.set (j := 3) (v := .slice A8 ns.length c8) HQ.out.2.2)
      have D9 := Lib.hid (D8.out.set3 (.slice A8 ns.length c8))
      have O9 := Lib.hid (own_set (j := 3) (v := .slice A8 ns.length c8) O8.out HQB.out)
      clear U8' D8 O8 f0 g0
      obtain ⟨w9, hw9⟩ : ∃ w9, w9 = w8.setCell ⟨q, 3, none⟩ (.slice A8 ns.length c8) := ⟨_, rfl⟩
      rw [← hw9] at U9 D9 O9 ⊢
      clear hw9
      refine (list_texts u s.size s l4 0 w9 hs2 hs U9.out (by decide)).mono ?_
      obtain ⟨ts, l5, e5, hB⟩ : ∃ ts l5 e5, listT s.size l4 0 = (ts, l5, e5) := ⟨_, _, _, rfl⟩
      rw [hB]
      have HB := Lib.hid hB
      rintro e w10 ⟨y, rfl, hO10, hU10, hg10⟩
      have hO10' : w10.ownsRow w9.heap.size 9 1 y ts.length (ts.map Value.string) := by rw [List.length_map] at hO10; exact hO10
      obtain ⟨A10, c10, hx10, _, _⟩ := own_shape hO10'
      subst hx10
      have U10 := Lib.hid hU10
      have O10 := Lib.hid hO10'
      have P10 := Lib.hid (ownsRow_grown O9.out hg10 HU7.out)
      have D10 := Lib.hid (D9.out.grown hg10 HQ.out.2.1)
      obtain ⟨z, f0, g0⟩ := fr_in D10.out.fq 4 (by omega)
      have HQ9 := Lib.hid D9.out.lt
      have HU9 := Lib.hid U9.out.1
      clear hU10 hg10 D9 U9 hO10 hO10' hB O9
      by_cases h5 : e5 = 0
      · subst h5
        have U10' : Hid (UnIs w10 u s l5 0) := Lib.hid (U10.out.resolve_left (by simp))
        clear U10
        go_wp2_with (fail)
        have U11 := Lib.hid (U10'.out.set (j := 4) (v := .slice A10 ts.length c10) HQ.out.2.2)
        have D11 := Lib.hid (D10.out.set4 (.slice A10 ts.length c10))
        have O11 := Lib.hid (own_set (j := 4) (v := .slice A10 ts.length c10) P10.out HQB.out)
        have P11 := Lib.hid (own_set (j := 4) (v := .slice A10 ts.length c10) O10.out HQ9.out)
        clear U10' D10 O10 P10 f0 g0
        obtain ⟨w11, hw11⟩ : ∃ w11, w11 = w10.setCell ⟨q, 4, none⟩ (.slice A10 ts.length c10) := ⟨_, rfl⟩
        rw [← hw11] at U11 D11 O11 P11 ⊢
        clear hw11
        refine (uend_any u s l5 0 w11 hs2 U11.out).mono ?_
        obtain ⟨en, hen⟩ : ∃ en, Wire.tEnd l5 0 = en := ⟨_, rfl⟩
        rw [hen]
        have HEN := Lib.hid hen
        rintro e w12 ⟨rfl, n, rfl⟩
        have hbn : Below w11.heap.size w11 (w11.drewN n) := below_drewN (Below.refl _ _) n
        have D12 := Lib.hid (D11.out.below hbn)
        have O12 := Lib.hid (ownsRow_grown O11.out (grown_drewN (grown_refl w11 (some u)) n) HU7.out)
        have P12 := Lib.hid (ownsRow_grown P11.out (grown_drewN (grown_refl w11 (some u)) n) HU9.out)
        obtain ⟨w12, hw12⟩ : ∃ w12, w12 = w11.drewN n := ⟨_, rfl⟩
        rw [← hw12] at D12 O12 P12 ⊢
        clear hw12 hbn D11 O11 P11 U11 hen
        by_cases h6 : en = 0
        · subst h6
          have c0 := D12.out.cq 0 _ rfl
          have c1 := D12.out.cq 1 _ rfl
          have c2 := D12.out.cq 2 _ rfl
          have c3 := D12.out.cq 3 _ rfl
          have c4 := D12.out.cq 4 _ rfl
          have hnl : ns.length ≤ 140737488351232 := by have := listI_len s.size l3 e3; rw [HA.out] at this; simp only at this; omega
          have htl : ts.length ≤ 140737488351232 := by have := listT_len s.size l4 0; rw [HB.out] at this; simp only at this; omega
          have HNT := Lib.hid (And.intro hnl htl)
          clear hnl htl
          go_wp2_with (fail)
          refine (valid_any k c i A8 A10 ns.length ts.length c8 c10 w12 (HS.out.below D12.out.bel (Nat.le_refl _)) HNT.out.1 HNT.out.2).mono ?_
          obtain ⟨V, hV⟩ : ∃ V, validB k ns.length ts.length = V := ⟨_, rfl⟩
          rw [hV]
          have HV := Lib.hid hV
          rintro e w13 ⟨rfl, hb13⟩
          have D13 := Lib.hid (D12.out.below hb13)
          have O13 := Lib.hid (own_down (own_below O12.out hb13) (B' := w.heap.size + 2) (by have := HU7.out; have := HQ.out.2.1; omega))
          have P13 := Lib.hid (own_down (own_below P12.out hb13) (B' := w.heap.size + 2) (by have := HU9.out; have := HQ.out.2.1; omega))
          clear hb13 D12 O12 P12 hV c0 c1 c2 c3 c4
          cases V with
          | false =>
            go_wp2_with (fail)
            go_step3
            exact HEX.out _ _ _ _ _ _ _ _ _ _ _ _ _ _ _ _ _ _ _ _ _ _ _ _ _ _ _ _ _ _ _ _ _ _ _ _ _ _ _ _ _ _ _ _ _ _ _ _ _ _ _ _ _ _ _ _ (HR.out.trans (by rw [← HH.out.1]; exact dec_d HH.out.2.1 HH.out.2.2.1 HH.out.2.2.2.1 HA.out HB.out HEN.out HV.out)) (by decide) D13.out
          | true =>
            have c0 := D13.out.cq 0 _ rfl
            have c1 := D13.out.cq 1 _ rfl
            have c2 := D13.out.cq 2 _ rfl
            have c3 := D13.out.cq 3 _ rfl
            have c4 := D13.out.cq 4 _ rfl
            obtain ⟨z0, y0, x0⟩ := fr_in D13.out.fr 0 (by omega)
            obtain ⟨z1, y1, x1⟩ := fr_in D13.out.fr 1 (by omega)
            obtain ⟨z2, y2, x2⟩ := fr_in D13.out.fr 2 (by omega)
            obtain ⟨z3, y3, x3⟩ := fr_in D13.out.fr 3 (by omega)
            obtain ⟨z4, y4, x4⟩ := fr_in D13.out.fr 4 (by omega)
            have G := Lib.hid (range5f D13.out.fr (.int .i64 k) (.int .i64 c) (.int .i64 i) (.slice A8 ns.length c8) (.slice A10 ts.length c10))
            obtain ⟨r, hr⟩ : ∃ r, r = w.heap.size := ⟨_, rfl⟩
            have HRR := Lib.hid hr
            rw [← hr] at y0 y1 y2 y3 y4 x0 x1 x2 x3 x4 G ⊢
            clear hr
            go_wp2_with (fail)
            simp only [Hops]
            refine bodyPost_ret (v := Value.tuple #[.agg #[.int .i64 k, .int .i64 c, .int .i64 i, .slice A8 ns.length c8, .slice A10 ts.length c10], .int .i64 0]) (results_ct rfl _ _ r _ _ rfl (cs_range G.out) Tryd.underlying27 rfl (by kernel_rfl) _ rfl) rfl ?_
            have hr := HRR.out
            have hR : R = .ok (k, c, i, ns, ts) := HR.out.trans (by rw [← HH.out.1]; exact dec_e HH.out.2.1 HH.out.2.2.1 HH.out.2.2.2.1 HA.out HB.out HEN.out HV.out)
            rw [hR]
            have hlt : r < w.heap.size + 2 := by omega
            exact ⟨_, _, rfl, ((((D13.out.bel.setCell (by show _ ≤ r; omega) _).setCell (by show _ ≤ r; omega) _).setCell (by show _ ≤ r; omega) _).setCell (by show _ ≤ r; omega) _).setCell (by show _ ≤ r; omega) _,
              own_set (own_set (own_set (own_set (own_set O13.out hlt) hlt) hlt) hlt) hlt, own_set (own_set (own_set (own_set (own_set P13.out hlt) hlt) hlt) hlt) hlt⟩
        · have t6 : (en != 0) = true := by simpa using h6
          have H6 := Lib.hid h6
          clear h6
          go_wp2_with (fail)
          go_step3
          exact HEX.out _ _ _ _ _ _ _ _ _ _ _ _ _ _ _ _ _ _ _ _ _ _ _ _ _ _ _ _ _ _ _ _ _ _ _ _ _ _ _ _ _ _ _ _ _ _ _ _ _ _ _ _ _ _ _ _ (HR.out.trans (by rw [← HH.out.1]; have hx := dec_c HH.out.2.1 HH.out.2.2.1 HH.out.2.2.2.1 HA.out HB.out (by rw [HEN.out]; exact H6.out); rw [HEN.out] at hx; exact hx)) H6.out D12.out
      · have t5 : (e5 != 0) = true := by simpa using h5
        have H5 := Lib.hid h5
        clear h5
        go_wp2_with (fail)
        go_step3
        exact HEX.out _ _ _ _ _ _ _ _ _ _ _ _ _ _ _ _ _ _ _ _ _ _ _ _ _ _ _ _ _ _ _ _ _ _ _ _ _ _ _ _ _ _ _ _ _ _ _ _ _ _ _ _ _ _ _ _ (HR.out.trans (by rw [← HH.out.1]; exact dec_b HH.out.2.1 HH.out.2.2.1 HH.out.2.2.2.1 HA.out HB.out H5.out)) H5.out (D10.out.set4 _)
    · have t4 : (e4 != 0) = true := by simpa using h4
      have H4 := Lib.hid h4
      clear h4
      go_wp2_with (fail)
      go_step3
      exact HEX.out _ _ _ _ _ _ _ _ _ _ _ _ _ _ _ _ _ _ _ _ _ _ _ _ _ _ _ _ _ _ _ _ _ _ _ _ _ _ _ _ _ _ _ _ _ _ _ _ _ _ _ _ _ _ _ _ (HR.out.trans (by rw [← HH.out.1]; exact dec_a HH.out.2.1 HH.out.2.2.1 HH.out.2.2.2.1 HA.out H4.out)) H4.out (D8.out.set3 _)
end Go.Proofs.YtndcmjgjecdgcaaDoor
