/- The contract of the reference's Decode. -/
import Derived.Test.YtndcmjgjecdgcaaDoorDecode
import Derived.Test.YtndcmjgjecdgcaaDoorRefTakeB
import Derived.Test.YtndcmjgjecdgcaaDoorRefValid
import Derived.Deep.CutBlock
import Derived.Deep.DeepCutAuto
import Derived.Deep.RegionHeld3
namespace Go.Proofs.YtndcmjgjecdgcaaDoor
open Go.RowKit
/-- the boxes of the reference's Decode: of the result, of what is left, and of the message -/
structure RS (w0 w : World) (q d : Nat) (v0 v1 v2 v3 v4 : Value) : Prop where
  bel : Below w0.heap.size w0 w
  hq : q = w0.heap.size + 2
  hd : d = w0.heap.size + 1
  fr : Fr 5 w w0.heap.size
  fq : Fr 5 w q
  cq : Cs w q [v0, v1, v2, v3, v4]
section
variable {w0 w w' : World} {q d : Nat} {v0 v1 v2 v3 v4 : Value}
theorem RS.lt (h : RS w0 w q d v0 v1 v2 v3 v4) : q < w.heap.size := h.fq.lt
theorem RS.grownO {p : Option Nat} (h : RS w0 w q d v0 v1 v2 v3 v4) (hg : w.grownBy w' p) (hp : ∀ k, p = some k → k = d ∨ q < k) : RS w0 w' q d v0 v1 v2 v3 v4 := by
  have hl := h.lt
  have hqe := h.hq
  have hde := h.hd
  have ne : ∀ k, k ≤ q → k ≠ d → some k ≠ p := fun k hk hkd e => by have := hp k e.symm; omega
  have eq : w'.heap[q]? = w.heap[q]? := hg.block q hl (ne q (by omega) (by omega))
  have er : w'.heap[w0.heap.size]? = w.heap[w0.heap.size]? := hg.block _ (by omega) (ne _ (by omega) (by omega))
  exact ⟨⟨hg.os.trans h.bel.os, hg.tape.trans h.bel.tape, hg.output.trans h.bel.output, Nat.le_trans h.bel.size hg.size, fun k hk => (hg.block k (Nat.lt_of_lt_of_le hk h.bel.size) (ne k (by omega) (by omega))).trans (h.bel.block k hk)⟩, hqe, hde, fr_of_block h.fr er, fr_of_block h.fq eq, cs_of_block h.cq eq⟩
theorem RS.grown (h : RS w0 w q d v0 v1 v2 v3 v4) (hg : w.grownBy w' (some d)) : RS w0 w' q d v0 v1 v2 v3 v4 := h.grownO hg (fun k e => by injection e with e; exact .inl e.symm)
theorem RS.below (h : RS w0 w q d v0 v1 v2 v3 v4) (hb : Below w.heap.size w w') : RS w0 w' q d v0 v1 v2 v3 v4 :=
  ⟨h.bel.trans (hb.mono h.bel.size), h.hq, h.hd, h.fr.below hb, h.fq.below hb, h.cq.below hb⟩
theorem RS.set (h : RS w0 w q d v0 v1 v2 v3 v4) (j : Nat) (v : Value) : Below w0.heap.size w0 (w.setCell ⟨q, j, none⟩ v) ∧ Fr 5 (w.setCell ⟨q, j, none⟩ v) w0.heap.size ∧ Fr 5 (w.setCell ⟨q, j, none⟩ v) q := by
  have hqe := h.hq
  refine ⟨h.bel.setCell (by show w0.heap.size ≤ q; omega) v, fr_of_block h.fr ?_, h.fq.set j v⟩
  exact Below.heap_setCell _ _ _ _ (by show _ ≠ q; omega)
theorem RS.set0 (h : RS w0 w q d v0 v1 v2 v3 v4) (v : Value) : RS w0 (w.setCell ⟨q, 0, none⟩ v) q d v v1 v2 v3 v4 := by
  obtain ⟨a, b, c⟩ := h.set 0 v
  exact ⟨a, h.hq, h.hd, b, c, cs_set h.cq (h.cq 0 _ rfl)⟩
theorem RS.set1 (h : RS w0 w q d v0 v1 v2 v3 v4) (v : Value) : RS w0 (w.setCell ⟨q, 1, none⟩ v) q d v0 v v2 v3 v4 := by
  obtain ⟨a, b, c⟩ := h.set 1 v
  exact ⟨a, h.hq, h.hd, b, c, cs_set h.cq (h.cq 1 _ rfl)⟩
theorem RS.set2 (h : RS w0 w q d v0 v1 v2 v3 v4) (v : Value) : RS w0 (w.setCell ⟨q, 2, none⟩ v) q d v0 v1 v v3 v4 := by
  obtain ⟨a, b, c⟩ := h.set 2 v
  exact ⟨a, h.hq, h.hd, b, c, cs_set h.cq (h.cq 2 _ rfl)⟩
theorem RS.set3 (h : RS w0 w q d v0 v1 v2 v3 v4) (v : Value) : RS w0 (w.setCell ⟨q, 3, none⟩ v) q d v0 v1 v2 v v4 := by
  obtain ⟨a, b, c⟩ := h.set 3 v
  exact ⟨a, h.hq, h.hd, b, c, cs_set h.cq (h.cq 3 _ rfl)⟩
theorem RS.set4 (h : RS w0 w q d v0 v1 v2 v3 v4) (v : Value) : RS w0 (w.setCell ⟨q, 4, none⟩ v) q d v0 v1 v2 v3 v := by
  obtain ⟨a, b, c⟩ := h.set 4 v
  exact ⟨a, h.hq, h.hd, b, c, cs_set h.cq (h.cq 4 _ rfl)⟩
theorem RefIs.setq {l : List UInt8} {er : Int} {j : Nat} {v : Value} (h : RefIs w d l er) (hne : d ≠ q) : RefIs (w.setCell ⟨q, j, none⟩ v) d l er := h.grown (grown_set w q j v) hne
theorem RS.setd (h : RS w0 w q d v0 v1 v2 v3 v4) (j : Nat) (v : Value) : RS w0 (w.setCell ⟨d, j, none⟩ v) q d v0 v1 v2 v3 v4 := h.grown (grown_set w d j v)
end
/-- an append of one element to a row of the call's own, as one step of a region that draws its order -/
theorem step_app_own {P : Program} {ops : Array Oper} {o : Oper} {a : Act} {w : World} {K : Act → World → Prop} {Q : Exit → Act → World → Prop} {E : Prop}
    (hg : o.guard = none) (s x : Operand) (t : TypeId) (hop : o.op = Op.call { callee := Callee.builtin Builtin.append, args := #[s, x], argTypes := #[t, t] })
    (base : Nat) (e : TypeId) (i : TypeInfo) (z : Value) (bytes : Nat) (ht : P.underlying t = some (.slice e)) (hi : P.info? e = some i) (hz : i.zero = some z) (hsz : i.size = 1) (hby : i.bytes = bytes) (hzs : z.cells.size = 1)
    (v : Value) (n : Nat) (xs : List Value) (hs : a.eval s = v) (hown : w.ownsRow base e 1 v n xs) (ad : Addr) (c : Nat) (u : Value) (hx : a.eval x = .slice (some ad) 1 c) (hc : w.cell? ad = some u) (hu : u.oneCell' = true)
    (b1 : n + 1 ≤ maxLen) (b2 : (n + 1) * bytes ≤ 140737488355328) (b3 : base ≤ w.heap.size)
    (hK : ∀ v' w', w'.ownsRow base e 1 v' (n + 1) (xs ++ [u]) → w.grownBy w' v.ownBlock → K (a.put o.dst v') w') :
    if Region.wanted o (yielded ops a.tmps) = true then Oper.wp P o a w K Q else E := by
  have hw : Region.wanted o (yielded ops a.tmps) = true := by simp [Region.wanted, hg]
  rw [if_pos hw]
  refine wp_append_own w s x t hop base e i z 1 bytes ht hi hz hsz hby hzs (by decide) v n xs hs hown ad 1 c [u] hx rfl ?_ ?_ b1 b2 b3 ?_
  · intro j y hj
    match j, hj with
    | 0, hj =>
      simp at hj; subst hj
      have : ad.add 0 = ad := by obtain ⟨b, o, sp⟩ := ad; simp [Addr.add]
      rw [this]; exact hc
  · intro y hy; simp at hy; subst hy; exact hu
  · intro v' w' h1 h2 _
    exact hK v' w' h1 h2
/-- the state of the region that appends: the boxes, and the cell of the list -/
theorem rs_app {w0 w w2 : World} {q d n B : Nat} {v0 v1 v2 v3 v4 v : Value} {e : TypeId} {xs : List Value} (h : RS w0 w q d v0 v1 v2 v3 v4) (hown : w.ownsRow B e 1 v n xs) (hB : q < B) (hg : w.grownBy w2 v.ownBlock) : RS w0 w2 q d v0 v1 v2 v3 v4 :=
  h.grownO hg (fun k hk => .inr (by have := ownsRow_from hown k hk; omega))
theorem ref_app {w w2 : World} {d n B : Nat} {l : List UInt8} {er : Int} {v : Value} {e : TypeId} {xs : List Value} (h : RefIs w d l er) (hown : w.ownsRow B e 1 v n xs) (hB : d < B) (hg : w.grownBy w2 v.ownBlock) : RefIs w2 d l er := by
  obtain ⟨hd, hl, h0, h1, f0, f1⟩ := h
  have hk : w2.heap[d]? = w.heap[d]? := hg.block d hd (by intro hb'; have := ownsRow_from hown d hb'.symm; omega)
  have := hg.size
  exact ⟨by omega, hl, (World.cell?_of_block (a := ⟨d, _, none⟩) hk).trans h0, (World.cell?_of_block (a := ⟨d, _, none⟩) hk).trans h1, (World.frozen?_of_block (a := ⟨d, _, none⟩) hk).trans f0, (World.frozen?_of_block (a := ⟨d, _, none⟩) hk).trans f1⟩
theorem tInt_err0 {l l2 : List UInt8} {er n e2 : Int} (h : Wire.tInt l er = (n, l2, e2)) : e2 ≠ 0 → n = 0 := by
  intro he
  unfold Wire.tInt at h
  by_cases h3 : er = 0
  · rw [if_neg (by simp [h3])] at h
    cases hr : Wire.rd l with
    | ok v m => rw [hr] at h; simp at h; omega
    | short => rw [hr] at h; simp at h; omega
    | wrong => rw [hr] at h; simp at h; omega
  · rw [if_pos h3] at h; simp at h; omega
theorem own_app {w w2 : World} {B B' n m : Nat} {e e' : TypeId} {x y : Value} {xs ys : List Value} (h : w.ownsRow B e 1 x n xs) (h' : w.ownsRow B' e' 1 y m ys) (hne : e ≠ e') (hg : w.grownBy w2 y.ownBlock) : w2.ownsRow B e 1 x n xs := by
  obtain ⟨hl, h⟩ := h
  refine ⟨hl, ?_⟩
  rcases h with h | ⟨g, cap, cur, h1, h2, h3, h4⟩
  · exact .inl h
  · have hgl : g < w.heap.size := by
      rcases Nat.lt_or_ge g w.heap.size with hl | hl
      · exact hl
      · rw [Array.getElem?_eq_none hl] at h3; cases h3
    refine .inr ⟨g, cap, cur, h1, h2, (hg.block g hgl ?_).trans h3, h4⟩
    intro hb
    rcases h'.2 with ⟨rfl, _⟩ | ⟨g', cap', cur', rfl, _, h3', _⟩
    · cases hb
    · injection hb with hb
      subst hb
      rw [h3] at h3'
      injection h3' with h3'
      injection h3' with _ h3'
      exact hne h3'
theorem tEnd_er {l : List UInt8} {er : Int} (h : er ≠ 0) : Wire.tEnd l er = er := by unfold Wire.tEnd; rw [if_pos h]
section
variable {n : Nat} {L l1 l2 l3 l5 l5' l7 l7' : List UInt8} {k c i e1 e2 e3 e5 e5' e7 e7' : Int} {ns : List Int} {ts : List ByteArray}
theorem ref_err (hk : Wire.tInt L 0 = (k, l1, e1)) (hc : Wire.tInt l1 e1 = (c, l2, e2)) (hi : Wire.tInt l2 e2 = (i, l3, e3)) (hA : listI n l3 e3 = (ns, l5, e5)) (h5 : e5 = e5') (h5l : e5' = 0 → l5 = l5')
    (hB : listT n l5' e5' = (ts, l7, e7)) (hz : e5' ≠ 0 → e7 = e5') (h7 : e7 = e7') (h7l : e7' = 0 → l7 = l7') (h9 : Wire.tEnd l7' e7' ≠ 0) : dec n L = .error (Wire.tEnd l7' e7') := by
  subst h5 h7
  by_cases h0 : e5 = 0
  · have hl := h5l h0
    subst hl
    subst h0
    by_cases h1 : e7 = 0
    · have hl2 := h7l h1
      subst hl2
      subst h1
      exact dec_c hk hc hi hA hB h9
    · rw [tEnd_er h1]
      exact dec_b hk hc hi hA hB h1
  · have h1 := hz h0
    subst h1
    rw [tEnd_er h0]
    exact dec_a hk hc hi hA h0
theorem ref_ok (hA : listI n l3 e3 = (ns, l5, e5)) (h5 : e5 = e5') (h5l : e5' = 0 → l5 = l5')
    (hB : listT n l5' e5' = (ts, l7, e7)) (hz : e5' ≠ 0 → e7 = e5') (h7 : e7 = e7') (h7l : e7' = 0 → l7 = l7') (h9 : Wire.tEnd l7' e7' = 0) : e5' = 0 ∧ e7' = 0 ∧ listI n l3 e3 = (ns, l5, 0) ∧ listT n l5 0 = (ts, l7, 0) ∧ Wire.tEnd l7 0 = 0 := by
  subst h5 h7
  have h1 : e7 = 0 := by
    by_cases h1 : e7 = 0
    · exact h1
    · rw [tEnd_er h1] at h9; exact h9
  have h0 : e5 = 0 := by
    by_cases h0 : e5 = 0
    · exact h0
    · have := hz h0; omega
  subst h1 h0
  have hl := h5l rfl
  have hl2 := h7l rfl
  subst hl hl2
  exact ⟨rfl, rfl, hA, hB, h9⟩
end
/-- what the question behind a number says: b, where e4 is the error so far and e5 the list's -/
def RelB (b : Bool) (e4 e5 : Int) (G : Prop) : Prop := (b = true → e4 = 0 ∧ e5 = 21) ∧ (b = false → (e4 = 0 ∧ G) ∨ (e4 ≠ 0 ∧ e5 = e4))
theorem RelB.t {e5 : Int} {G : Prop} (h : e5 = 21) : RelB true 0 e5 G := ⟨fun _ => ⟨rfl, h⟩, fun h => by cases h⟩
theorem RelB.f {e5 : Int} {G : Prop} (h : G) : RelB false 0 e5 G := ⟨fun h => (by cases h), fun _ => .inl ⟨rfl, h⟩⟩
theorem RelB.e {e4 e5 : Int} {G : Prop} (h : e4 ≠ 0) (h2 : e5 = e4) : RelB false e4 e5 G := ⟨fun h => (by cases h), fun _ => .inr ⟨h, h2⟩⟩
/-- the error E behind that question -/
def RelE (E e5 : Int) (G : Prop) : Prop := (E = 0 ∧ G) ∨ (E ≠ 0 ∧ e5 = E)
theorem RelE.ok {e5 : Int} {G : Prop} (h : G) : RelE 0 e5 G := .inl ⟨rfl, h⟩
theorem RelE.no {E e5 : Int} {G : Prop} (h : E ≠ 0) (h2 : e5 = E) : RelE E e5 G := .inr ⟨h, h2⟩
/-- how far the loop is -/
def RelL (size : Nat) (n : Int) (j : Nat) (l' : List UInt8) (e' : Int) (vals : List Value) (R : List Value × List UInt8 × Int) (T : Nat → List UInt8 → List Value × List UInt8 × Int) : Prop :=
  vals.length = j ∧ ((e' = 0 ∧ 0 ≤ n ∧ n ≤ size ∧ (j : Int) ≤ n ∧ R = (vals ++ (T (n.toNat - j) l').1, (T (n.toNat - j) l').2)) ∨ (e' ≠ 0 ∧ R.2.2 = e'))
def tkI (n : Nat) (l : List UInt8) : List Value × List UInt8 × Int := ((takeI n l 0).1.map (Value.int .i64), (takeI n l 0).2)
def tkT (n : Nat) (l : List UInt8) : List Value × List UInt8 × Int := ((takeT n l 0).1.map Value.string, (takeT n l 0).2)
theorem tkI_bad {n : Nat} {l : List UInt8} {x : Int} {l2 : List UInt8} {e2 : Int} (h : Wire.tInt l 0 = (x, l2, e2)) (he : e2 ≠ 0) : tkI (n + 1) l = ([], l2, e2) := by unfold tkI; rw [takeI_bad h he]; rfl
theorem tkI_ok {n : Nat} {l : List UInt8} {x : Int} {l2 : List UInt8} (h : Wire.tInt l 0 = (x, l2, 0)) : tkI (n + 1) l = (.int .i64 x :: (tkI n l2).1, (tkI n l2).2) := by unfold tkI; rw [takeI_ok h]; rfl
theorem tkT_bad {n : Nat} {l x l2 : List UInt8} {e2 : Int} (h : Wire.tText l 0 = (x, l2, e2)) (he : e2 ≠ 0) : tkT (n + 1) l = ([], l2, e2) := by unfold tkT; rw [takeT_bad h he]; rfl
theorem tkT_ok {n : Nat} {l x l2 : List UInt8} (h : Wire.tText l 0 = (x, l2, 0)) : tkT (n + 1) l = (.string (S x) :: (tkT n l2).1, (tkT n l2).2) := by unfold tkT; rw [takeT_ok h]; rfl
theorem RelL.start {size : Nat} {n : Int} {l' : List UInt8} {E : Int} {R : List Value × List UInt8 × Int} {T : Nat → List UInt8 → List Value × List UInt8 × Int} (h : RelE E R.2.2 (0 ≤ n ∧ n ≤ size ∧ R = T n.toNat l')) : RelL size n 0 l' E [] R T := by
  refine ⟨rfl, ?_⟩
  rcases h with ⟨h0, h1, h2, h3⟩ | ⟨h0, h1⟩
  · exact .inl ⟨h0, h1, h2, by simpa using h1, by rw [h3]; simp⟩
  · exact .inr ⟨h0, h1⟩
theorem RelL.next {size : Nat} {n : Int} {j : Nat} {l' : List UInt8} {vals : List Value} {R : List Value × List UInt8 × Int} {T : Nat → List UInt8 → List Value × List UInt8 × Int} {y : Value} {l2 : List UInt8} {e2 : Int} (h : RelL size n j l' 0 vals R T) (hj : (j : Int) < n)
    (ok : e2 = 0 → T (n.toNat - (j + 1) + 1) l' = (y :: (T (n.toNat - (j + 1)) l2).1, (T (n.toNat - (j + 1)) l2).2)) (bad : e2 ≠ 0 → T (n.toNat - (j + 1) + 1) l' = ([], l2, e2)) : RelL size n (j + 1) l2 e2 (vals ++ [y]) R T := by
  obtain ⟨hl, h⟩ := h
  rcases h with ⟨_, h1, h2, h3, h4⟩ | ⟨h0, _⟩
  · refine ⟨by simp [hl], ?_⟩
    rw [show n.toNat - j = n.toNat - (j + 1) + 1 by omega] at h4
    by_cases he : e2 = 0
    · rw [ok he] at h4
      exact .inl ⟨he, h1, h2, by omega, by rw [h4]; simp⟩
    · rw [bad he] at h4
      exact .inr ⟨he, by rw [h4]⟩
  · exact absurd rfl h0
theorem RelL.stop {size : Nat} {n : Int} {j : Nat} {l' : List UInt8} {e' : Int} {vals : List Value} {R : List Value × List UInt8 × Int} {T : Nat → List UInt8 → List Value × List UInt8 × Int} (h : RelL size n j l' e' vals R T) (hT : ∀ l, T 0 l = ([], l, 0)) (hj : e' = 0 → ¬ (j : Int) < n) : R.2.2 = e' ∧ (e' = 0 → R = (vals, l', 0)) := by
  obtain ⟨hl, h⟩ := h
  rcases h with ⟨h0, h1, h2, h3, h4⟩ | ⟨h0, h5⟩
  · have := hj h0
    rw [show n.toNat - j = 0 by omega, hT] at h4
    rw [h4]
    exact ⟨h0.symm, fun _ => by simp⟩
  · exact ⟨h5, fun h => absurd h h0⟩
/-- the state of the region that appends -/
abbrev SN (w0 : World) (q d j : Nat) (v0 v1 v2 v3 v4 v : Value) (w : World) : Prop := Hid (RS w0 w q d v0 v1 v2 v3 v4) ∧ w.cell? ⟨q, j, none⟩ = some v
section
variable {w0 w w' : World} {q d j B : Nat} {v0 v1 v2 v3 v4 v : Value}
theorem sn_below (h : SN w0 q d j v0 v1 v2 v3 v4 v w) (hb : Below w.heap.size w w') : SN w0 q d j v0 v1 v2 v3 v4 v w' := ⟨Lib.hid (h.1.out.below hb), below_cell h.2 hb⟩
theorem sn_drew (h : SN w0 q d j v0 v1 v2 v3 v4 v w) : SN w0 q d j v0 v1 v2 v3 v4 v w.drew := sn_below h ⟨rfl, rfl, rfl, Nat.le_refl _, fun _ _ => rfl⟩
theorem sn_undrew (h : SN w0 q d j v0 v1 v2 v3 v4 v w.drew) : SN w0 q d j v0 v1 v2 v3 v4 v w := sn_below h ⟨rfl, rfl, rfl, Nat.le_refl _, fun _ _ => rfl⟩
theorem sn_alloc (h : SN w0 q d j v0 v1 v2 v3 v4 v w) (o : Obj) : SN w0 q d j v0 v1 v2 v3 v4 v (w.alloc o) := sn_below h (below_alloc w o)
theorem sn_app {n : Nat} {x : Value} {e : TypeId} {xs : List Value} (h : SN w0 q d j v0 v1 v2 v3 v4 v w) (hown : w.ownsRow B e 1 x n xs) (hB : q < B) (hg : w.grownBy w' x.ownBlock) : SN w0 q d j v0 v1 v2 v3 v4 v w' := by
  have hk : w'.heap[q]? = w.heap[q]? := hg.block q (cell_lt h.2) (by intro hb'; have := ownsRow_from hown q hb'.symm; omega)
  exact ⟨Lib.hid (rs_app h.1.out hown hB hg), (World.cell?_of_block (a := ⟨q, _, none⟩) hk).trans h.2⟩
theorem sn_grown (h : SN w0 q d j v0 v1 v2 v3 v4 v w) (hg : w.grownBy w' (some d)) (hne : q ≠ d) : SN w0 q d j v0 v1 v2 v3 v4 v w' := by
  have hk : w'.heap[q]? = w.heap[q]? := hg.block q (cell_lt h.2) (by intro e; injection e with e; exact hne e)
  exact ⟨Lib.hid (h.1.out.grown hg), (World.cell?_of_block (a := ⟨q, _, none⟩) hk).trans h.2⟩
theorem takeI_S {l l2 : List UInt8} {x e2 : Int} {n : Nat} {y : Value} {e : TypeId} {xs : List Value} (hx : Hid (Wire.tInt l 0 = (x, l2, e2))) (hU : Hid (RefIs w d l 0)) (hO : Hid (w.ownsRow B e 1 y n xs)) (hB : Hid (B ≤ w.heap.size ∧ d < B ∧ q ≠ d)) (h : SN w0 q d j v0 v1 v2 v3 v4 v w) :
    Calls Tryd.prog 32 #[.pointer (some ⟨d, 0, none⟩)] w fun e' w' => e' = .returned (.int .i64 x) ∧ SN w0 q d j v0 v1 v2 v3 v4 v w' ∧ Hid (RefIs w' d l2 e2) ∧ Hid (w'.ownsRow B e 1 y n xs) ∧ Hid (B ≤ w'.heap.size) := by
  refine (rtake_int d l 0 w hU.out).mono ?_
  rw [hx.out]
  rintro e' w' ⟨rfl, hr, hg⟩
  exact ⟨rfl, sn_grown h hg hB.out.2.2, Lib.hid hr, Lib.hid (ownsRow_grown hO.out hg hB.out.2.1), Lib.hid (by have := hg.size; have := hB.out.1; omega)⟩
theorem takeT_S {l x l2 : List UInt8} {e2 : Int} {n : Nat} {y : Value} {e : TypeId} {xs : List Value} (hx : Hid (Wire.tText l 0 = (x, l2, e2))) (hU : Hid (RefIs w d l 0)) (hO : Hid (w.ownsRow B e 1 y n xs)) (hB : Hid (B ≤ w.heap.size ∧ d < B ∧ q ≠ d)) (h : SN w0 q d j v0 v1 v2 v3 v4 v w) :
    Calls Tryd.prog 33 #[.pointer (some ⟨d, 0, none⟩)] w fun e' w' => e' = .returned (.string (S x)) ∧ SN w0 q d j v0 v1 v2 v3 v4 v w' ∧ Hid (RefIs w' d l2 e2) ∧ Hid (w'.ownsRow B e 1 y n xs) ∧ Hid (B ≤ w'.heap.size) ∧ Hid (w.grownBy w' (some d)) := by
  refine (rtake_text d l 0 w hU.out).mono ?_
  rw [hx.out]
  rintro e' w' ⟨rfl, hr, hg⟩
  exact ⟨rfl, sn_grown h hg hB.out.2.2, Lib.hid hr, Lib.hid (ownsRow_grown hO.out hg hB.out.2.1), Lib.hid (by have := hg.size; have := hB.out.1; omega), Lib.hid hg⟩
end
set_option maxRecDepth 100000 in
set_option maxHeartbeats 4000000 in
theorem rdecode_any (s : ByteArray) (w : World) (hs : s.size ≤ 16777216) :
    Calls Tryd.prog 16 #[.string s] w (DecPost w (dec s.size s.data.toList)) := by
  obtain ⟨R, hR⟩ : ∃ R, R = dec s.size s.data.toList := ⟨_, rfl⟩
  rw [← hR]
  have HR := Lib.hid hR
  clear hR
  obtain ⟨L, hL⟩ : ∃ L, L = s.data.toList := ⟨_, rfl⟩
  obtain ⟨k, l1, e1, hk⟩ : ∃ k l1 e1, Wire.tInt L 0 = (k, l1, e1) := ⟨_, _, _, rfl⟩
  obtain ⟨c, l2, e2, hc⟩ : ∃ c l2 e2, Wire.tInt l1 e1 = (c, l2, e2) := ⟨_, _, _, rfl⟩
  obtain ⟨i, l3, e3, hi⟩ : ∃ i l3 e3, Wire.tInt l2 e2 = (i, l3, e3) := ⟨_, _, _, rfl⟩
  obtain ⟨n, l4, e4, hn⟩ : ∃ n l4 e4, Wire.tInt l3 e3 = (n, l4, e4) := ⟨_, _, _, rfl⟩
  have hLs : L.length ≤ 140737488351232 := by rw [hL]; simp; omega
  have HH := Lib.hid (And.intro hL (And.intro hk (And.intro hc (And.intro hi hn))))
  obtain ⟨ns, l5, e5, hA⟩ : ∃ ns l5 e5, listI s.size l3 e3 = (ns, l5, e5) := ⟨_, _, _, rfl⟩
  have HA := Lib.hid hA
  have hlu : listI s.size l3 e3 = if n < 0 ∨ (s.size : Int) < n then ([], l4, 21) else takeI n.toNat l4 e4 := by unfold listI; rw [hn]
  have HLU := Lib.hid hlu
  have hne4 : Hid (e4 ≠ 0 → n = 0) := Lib.hid (by
    intro h
    have h2 := hn
    unfold Wire.tInt at h2
    by_cases h3 : e3 = 0
    · rw [if_neg (by simp [h3])] at h2
      cases hr : Wire.rd l3 with
      | ok v m => rw [hr] at h2; simp at h2; omega
      | short => rw [hr] at h2; simp at h2; omega
      | wrong => rw [hr] at h2; simp at h2; omega
    · rw [if_pos h3] at h2; simp at h2; omega)
  have hsl : Hid (s = S L) := Lib.hid (S_of hL.symm)
  clear hA hlu hL hk hc hi hn
  go_enter Tryd.func16, Tryd.ntmps16
  go_wp2_with (fail)
  obtain ⟨q, hq⟩ : ∃ q, q = w.heap.size + 1 + 1 := ⟨_, rfl⟩
  obtain ⟨d, hd⟩ : ∃ d, d = w.heap.size + 1 := ⟨_, rfl⟩
  obtain ⟨w1, hw1⟩ : ∃ w1, w1 = ((w.alloc (.cells #[.int .i64 0, .int .i64 0, .int .i64 0, .slice none 0 0, .slice none 0 0] 33)).alloc (.cells #[.string s, .int .i64 0] 82)).alloc (.cells #[.int .i64 0, .int .i64 0, .int .i64 0, .slice none 0 0, .slice none 0 0] 33) := ⟨_, rfl⟩
  have D1 : Hid (RS w w1 q d (.int .i64 0) (.int .i64 0) (.int .i64 0) (.slice none 0 0) (.slice none 0 0)) := Lib.hid (by
    have b1 := below_alloc w (.cells #[.int .i64 0, .int .i64 0, .int .i64 0, .slice none 0 0, .slice none 0 0] 33)
    have b2 := below_alloc (w.alloc (.cells #[.int .i64 0, .int .i64 0, .int .i64 0, .slice none 0 0, .slice none 0 0] 33)) (.cells #[.string s, .int .i64 0] 82)
    have b3 := below_alloc ((w.alloc (.cells #[.int .i64 0, .int .i64 0, .int .i64 0, .slice none 0 0, .slice none 0 0] 33)).alloc (.cells #[.string s, .int .i64 0] 82)) (.cells #[.int .i64 0, .int .i64 0, .int .i64 0, .slice none 0 0, .slice none 0 0] 33)
    have f1 := ((Fr.new w #[.int .i64 0, .int .i64 0, .int .i64 0, .slice none 0 0, .slice none 0 0] 33).below b2).below b3
    have f2 := Fr.new ((w.alloc (.cells #[.int .i64 0, .int .i64 0, .int .i64 0, .slice none 0 0, .slice none 0 0] 33)).alloc (.cells #[.string s, .int .i64 0] 82)) #[.int .i64 0, .int .i64 0, .int .i64 0, .slice none 0 0, .slice none 0 0] 33
    have f3 := Cs.new ((w.alloc (.cells #[.int .i64 0, .int .i64 0, .int .i64 0, .slice none 0 0, .slice none 0 0] 33)).alloc (.cells #[.string s, .int .i64 0] 82)) #[.int .i64 0, .int .i64 0, .int .i64 0, .slice none 0 0, .slice none 0 0] 33
    rw [World.size_alloc, World.size_alloc, ← hq] at f2 f3
    rw [hw1]
    exact ⟨(b1.trans (b2.mono (by simp))).trans (b3.mono (by simp; omega)), by omega, hd, f1, f2, f3⟩)
  have U1 : Hid (RefIs w1 d L 0) := Lib.hid (by
    rw [hw1, hd]
    refine ⟨by simp, hLs, ?_, ?_, ?_, ?_⟩
    · rw [← hsl.out]
      exact alloc_cell (by simp)
    · exact alloc_cell (by simp)
    · have := ((Fr.new (w.alloc (.cells #[.int .i64 0, .int .i64 0, .int .i64 0, .slice none 0 0, .slice none 0 0] 33)) #[.string s, .int .i64 0] 82).below (below_alloc _ (.cells #[.int .i64 0, .int .i64 0, .int .i64 0, .slice none 0 0, .slice none 0 0] 33))) 0 (by simp)
      simpa using this.2
    · have := ((Fr.new (w.alloc (.cells #[.int .i64 0, .int .i64 0, .int .i64 0, .slice none 0 0, .slice none 0 0] 33)) #[.string s, .int .i64 0] 82).below (below_alloc _ (.cells #[.int .i64 0, .int .i64 0, .int .i64 0, .slice none 0 0, .slice none 0 0] 33))) 1 (by simp)
      simpa using this.2)
  have HQ := Lib.hid (show d ≠ q by omega)
  rw [← hw1, ← hq, ← hd]
  clear hw1 hd hq hLs
  refine (rtake_int d L 0 w1 U1.out).mono ?_
  rw [HH.out.2.1]
  rintro e w2 ⟨rfl, hU2, hg2⟩
  have U2 := Lib.hid hU2
  have D2 := Lib.hid (D1.out.grown hg2)
  obtain ⟨z, f0, g0⟩ := fr_in D2.out.fq 0 (by omega)
  clear hU2 hg2 D1 U1
  go_wp2_with (fail)
  have U3 := Lib.hid (U2.out.setq (j := 0) (v := .int .i64 k) HQ.out)
  have D3 := Lib.hid (D2.out.set0 (.int .i64 k))
  clear U2 D2 f0 g0
  refine (rtake_int d l1 e1 _ U3.out).mono ?_
  rw [HH.out.2.2.1]
  rintro e w4 ⟨rfl, hU4, hg4⟩
  have U4 := Lib.hid hU4
  have D4 := Lib.hid (D3.out.grown hg4)
  obtain ⟨z, f0, g0⟩ := fr_in D4.out.fq 1 (by omega)
  clear hU4 hg4 D3 U3
  go_wp2_with (fail)
  have U5 := Lib.hid (U4.out.setq (j := 1) (v := .int .i64 c) HQ.out)
  have D5 := Lib.hid (D4.out.set1 (.int .i64 c))
  clear U4 D4 f0 g0
  refine (rtake_int d l2 e2 _ U5.out).mono ?_
  rw [HH.out.2.2.2.1]
  rintro e w6 ⟨rfl, hU6, hg6⟩
  have U6 := Lib.hid hU6
  have D6 := Lib.hid (D5.out.grown hg6)
  obtain ⟨z, f0, g0⟩ := fr_in D6.out.fq 2 (by omega)
  clear hU6 hg6 D5 U5
  go_wp2_with (fail)
  have U7 := Lib.hid (U6.out.setq (j := 2) (v := .int .i64 i) HQ.out)
  have D7 := Lib.hid (D6.out.set2 (.int .i64 i))
  clear U6 D6 f0 g0
  refine (rtake_int d l3 e3 _ U7.out).mono ?_
  rw [HH.out.2.2.2.2]
  rintro e w8 ⟨rfl, hU8, hg8⟩
  have U8 := Lib.hid hU8
  have D8 := Lib.hid (D7.out.grown hg8)
  clear hU8 hg8 D7 U7
  go_upto_region 7 with (fail)
  go_cut [38] (fun s38 wx => w8 = wx ∧ ∃ b : Bool, s38 = .bool b ∧ RelB b e4 e5 (0 ≤ n ∧ n ≤ s.size ∧ (ns, l5, e5) = takeI n.toNat l4 0))
  case first =>
    obtain ⟨hlm, c0, c1, fz0, fz1⟩ := U8.out.raw
    clear hlm
    by_cases h4 : e4 = 0
    · subst h4
      by_cases h0 : n < 0
      · have hx : e5 = 21 := by have h := HLU.out; rw [HA.out, if_pos (.inl h0)] at h; injection h with _ h; injection h
        have HX := Lib.hid hx
        clear hx
        go_wp2_with (fail)
        go_meet
        exact ⟨rfl, true, rfl, RelB.t HX.out⟩
      · by_cases h1 : (s.size : Int) < n
        · have hx : e5 = 21 := by have h := HLU.out; rw [HA.out, if_pos (.inr h1)] at h; injection h with _ h; injection h
          have HX := Lib.hid hx
          clear hx
          go_wp2_with (fail)
          go_meet
          exact ⟨rfl, true, rfl, RelB.t HX.out⟩
        · have hx : (ns, l5, e5) = takeI n.toNat l4 0 := by have h := HLU.out; rw [HA.out, if_neg (by omega)] at h; exact h
          have HX := Lib.hid (And.intro hx (show 0 ≤ n ∧ n ≤ s.size by omega))
          clear hx
          go_wp2_with (fail)
          go_meet
          exact ⟨rfl, false, rfl, RelB.f ⟨HX.out.2.1, HX.out.2.2, HX.out.1⟩⟩
    · have t4 : (e4 == 0) = false := by simpa using h4
      have hx : e5 = e4 := by
        have h := HLU.out
        have hn0 := hne4.out h4
        subst hn0
        rw [HA.out, if_neg (by omega)] at h
        have h2 : takeI (0 : Int).toNat l4 e4 = ([], l4, e4) := rfl
        rw [h2] at h
        injection h with _ h
        injection h
      have HX := Lib.hid (And.intro hx h4)
      clear hx h4
      go_wp2_with (fail)
      go_meet
      exact ⟨rfl, false, rfl, RelB.e HX.out.2 HX.out.1⟩
  case rest =>
    obtain ⟨rfl, b, rfl, HT⟩ := hcut
    go_upto_if 38 with (fail)
    go_cut [39] (fun _ wx => Hid (RS w wx q d (.int .i64 k) (.int .i64 c) (.int .i64 i) (.slice none 0 0) (.slice none 0 0)) ∧ ∃ E, Hid (RefIs wx d l4 E) ∧ RelE E e5 (0 ≤ n ∧ n ≤ s.size ∧ (ns, l5, e5) = takeI n.toNat l4 0))
    case first =>
      obtain ⟨hlm, c0, c1, fz0, fz1⟩ := U8.out.raw
      clear hlm
      cases b with
      | true =>
        have h4 := Lib.hid (HT.1 rfl)
        go_wp2_with (fail)
        go_meet
        exact ⟨D8.out.setd 1 _, 21, U8.out.err 21, RelE.no (by decide) h4.out.2⟩
      | false =>
        have HX := Lib.hid (HT.2 rfl)
        go_wp2_with (fail)
        go_meet
        rcases HX.out with ⟨h4, hx⟩ | ⟨h4, hx⟩
        · exact ⟨D8.out, 0, by have := U8; rw [h4] at this; exact this, RelE.ok hx⟩
        · exact ⟨D8.out, e4, U8, RelE.no h4 hx⟩
    case rest =>
      obtain ⟨D9, E, U9, HE⟩ := hcut
      clear D8 U8 HT
      go_upto_block 0 with (fail)
      obtain ⟨B, hB⟩ : ∃ B, B = w.heap.size + 3 := ⟨_, rfl⟩
      have HB := Lib.hid hB
      obtain ⟨i0, hi0, hz0, hz1, hz2⟩ := info_parts infoInt
      have HI := Lib.hid (And.intro hi0 (And.intro hz0 (And.intro hz1 hz2)))
      obtain ⟨LI, hLI⟩ : ∃ LI : List Value × List UInt8 × Int, LI = (ns.map (Value.int .i64), l5, e5) := ⟨_, rfl⟩
      have HLI := Lib.hid hLI
      have HE2 : Hid (RelE E LI.2.2 (0 ≤ n ∧ n ≤ s.size ∧ LI = tkI n.toNat l4)) := Lib.hid (by
        rw [hLI]
        rcases HE with ⟨h0, h1, h2, h3⟩ | ⟨h0, h1⟩
        · exact .inl ⟨h0, h1, h2, by unfold tkI; rw [← h3]⟩
        · exact .inr ⟨h0, h1⟩)
      clear hB hi0 hz0 hz1 hz2 hLI HE
      go_cut [7] (fun _ wx => ∃ v3 l5' e5', Hid (RS w wx q d (.int .i64 k) (.int .i64 c) (.int .i64 i) v3 (.slice none 0 0)) ∧ Hid (RefIs wx d l5' e5') ∧ Hid (LI.2.2 = e5' ∧ (e5' = 0 → LI.2.1 = l5' ∧ wx.ownsRow B 3 1 v3 LI.1.length LI.1)))
      case first =>
        go_wp2_with (fail)
        go_loopg [7] n.toNat (fun m s7 wr => ∃ (j : Nat) (v3 : Value) (vals : List Value) (l' : List UInt8) (e' : Int), s7 = .int .i64 (j : Int) ∧ Hid (m = n.toNat - j) ∧ Hid (RelL s.size n j l' e' vals LI tkI) ∧ Hid (RS w wr q d (.int .i64 k) (.int .i64 c) (.int .i64 i) v3 (.slice none 0 0)) ∧ Hid (RefIs wr d l' e') ∧ Hid (wr.ownsRow B 3 1 v3 j vals))
        case atStart => exact ⟨0, .slice none 0 0, [], l4, E, rfl, rfl, RelL.start HE2.out, D9, U9, ⟨rfl, .inl ⟨rfl, rfl⟩⟩⟩
        case round =>
          obtain ⟨j, v3, vals, l', e', rfl, HJ, HL, DR, UR, OR⟩ := hrel
          clear D9 U9 HE2
          obtain ⟨hlm, c0, c1, fz0, fz1⟩ := UR.out.raw
          clear hlm c0 fz0 fz1
          by_cases hlt : (j : Int) < n
          · by_cases he : e' = 0
            · subst he
              have HLT := Lib.hid hlt
              obtain ⟨x, l2', e2', hx⟩ : ∃ x l2' e2', Wire.tInt l' 0 = (x, l2', e2') := ⟨_, _, _, rfl⟩
              have HX := Lib.hid hx
              clear hx
              obtain ⟨A3, c3, hv3, _, _⟩ := own_shape OR.out
              subst hv3
              have URd : Hid (RefIs wr.drew d l' 0) := Lib.hid (show RefIs wr.drew d l' 0 from UR.out)
              have ORd : Hid (wr.drew.ownsRow B 3 1 (.slice A3 j c3) j vals) := Lib.hid (show wr.drew.ownsRow B 3 1 (.slice A3 j c3) j vals from OR.out)
              have HBd : Hid (B ≤ wr.drew.heap.size ∧ d < B ∧ q ≠ d) := Lib.hid ⟨by have := DR.out.lt; have := DR.out.hq; have := HB.out; show B ≤ wr.heap.size; omega, by have := DR.out.hd; have := HB.out; omega, fun e => HQ.out e.symm⟩
              have hqB : q < B := by have := DR.out.hq; have := HB.out; omega
              have HQB := Lib.hid hqB
              have hjb : j ≤ 16777216 := by rcases HL.out.2 with ⟨_, h1, h2, h3, _⟩ | ⟨h0, _⟩ <;> omega
              have HJB := Lib.hid hjb
              have SS : SN w q d 3 (.int .i64 k) (.int .i64 c) (.int .i64 i) (.slice A3 j c3) (.slice none 0 0) (.slice A3 j c3) wr := ⟨DR, DR.out.cq 3 _ rfl⟩
              clear DR UR OR hqB
              go_wp2_with (fail)
              have q3 := SS.2
              have SSd := sn_drew SS
              go_region_law (first
                  | (refine step_app_own (by rfl) (.tmp 55) (.tmp 58) 22 (by rfl) B 3 i0 (.int .i64 0) 8 Tryd.underlying22 HI.out.1 HI.out.2.1 HI.out.2.2.1 HI.out.2.2.2 rfl _ j vals (by rfl) (hOa.out.alloc _) ⟨wa.heap.size, 0, none⟩ 1 (.int .i64 x) (by rfl) (by simp) rfl (by unfold maxLen; omega) (by omega) (by have := hBa.out; simp; omega) ?_; intro v' wb hown' hgrow'; have hSb := sn_app (sn_alloc hSa _) (hOa.out.alloc _) HQB.out hgrow'; obtain ⟨A4, c4, hv4, _, _⟩ := own_shape hown'; subst hv4; have HOB := Lib.hid hown'; have HUB := Lib.hid (ref_app (hUa.out.below (below_alloc wa _) (Nat.le_refl _)) (hOa.out.alloc _) HBd.out.2.1 hgrow'); clear hown' hgrow'; obtain ⟨z3, y3, x3⟩ := fr_in hSb.1.out.fq 3 (by omega))
                  | (go_simp; go_at_call 32; (with_reducible refine (takeI_S HX URd ORd HBd SSd).mono ?_); rintro e wa ⟨rfl, hSa, hUa, hOa, hBa⟩; have q3a := hSa.2; have q3b := fun o => alloc_cell (o := o) hSa.2))
              all_goals
                have HNX := Lib.hid (HL.out.next (y := .int .i64 x) HLT.out (fun h => by subst h; exact tkI_ok HX.out) (fun h => tkI_bad HX.out h))
                have HD5 := Lib.hid (hSb.1.out.set3 (.slice A4 (j + 1) c4))
                have HU5 := Lib.hid (HUB.out.setq (j := 3) (v := .slice A4 (j + 1) c4) HQ.out)
                have HO5 := Lib.hid (own_set (j := 3) (v := .slice A4 (j + 1) c4) HOB.out HQB.out)
                clear hSb HUB HOB y3 x3 hUa hOa hBa
                go_wp2
                go_roundg (n.toNat - (j + 1))
                case measure => have := HJ.out; have := HLT.out; omega
                case rel => exact ⟨j + 1, .slice A4 (j + 1) c4, vals ++ [.int .i64 x], l2', e2', by go_num, rfl, HNX, HD5, HU5, HO5⟩
            · have t0 : (e' == 0) = false := by simpa using he
              have HS := Lib.hid (HL.out.stop (fun l => rfl) (fun h => absurd h he))
              clear he
              go_wp2_with (fail)
              go_meet
              exact ⟨v3, l', e', DR, UR, Lib.hid ⟨HS.out.1, fun h => by have h2 := HS.out.2 h; rw [h2]; exact ⟨rfl, by have := OR.out; rw [← HL.out.1] at this; exact this⟩⟩⟩
          · have HS := Lib.hid (HL.out.stop (fun l => rfl) (fun _ => hlt))
            go_wp2_with (fail)
            go_meet
            exact ⟨v3, l', e', DR, UR, Lib.hid ⟨HS.out.1, fun h => by have h2 := HS.out.2 h; rw [h2]; exact ⟨rfl, by have := OR.out; rw [← HL.out.1] at this; exact this⟩⟩⟩
      case rest =>
        obtain ⟨v3, l5', e5', D10, U10, HF1⟩ := hcut
        have HDB : Hid (d < B) := Lib.hid (by have := D10.out.hd; have := HB.out; omega)
        obtain ⟨n2, l6, e6, hn2⟩ : ∃ n2 l6 e6, Wire.tInt l5' e5' = (n2, l6, e6) := ⟨_, _, _, rfl⟩
        obtain ⟨ts, l7, e7, hB2⟩ : ∃ ts l7 e7, listT s.size l5' e5' = (ts, l7, e7) := ⟨_, _, _, rfl⟩
        have HB2 := Lib.hid hB2
        have HN2 := Lib.hid hn2
        have HLV := Lib.hid (show listT s.size l5' e5' = if n2 < 0 ∨ (s.size : Int) < n2 then ([], l6, 21) else takeT n2.toNat l6 e6 by unfold listT; rw [hn2])
        have hne6 : Hid (e6 ≠ 0 → n2 = 0) := Lib.hid (tInt_err0 hn2)
        have HZ5 : Hid (e5' ≠ 0 → e7 = e5') := Lib.hid (by
          intro h
          have h2 : Wire.tInt l5' e5' = (0, l5', e5') := by unfold Wire.tInt; rw [if_pos h]
          rw [hn2] at h2
          injection h2 with h3 h4
          injection h4 with h4 h5
          subst h3 h4 h5
          have h6 := HLV.out
          rw [hB2, if_neg (by omega)] at h6
          have h7 : takeT (0 : Int).toNat l6 e6 = ([], l6, e6) := rfl
          rw [h7] at h6
          injection h6 with _ h6
          injection h6)
        clear hn2 hB2
        go_wp2_with (fail)
        refine (rtake_int d l5' e5' _ U10.out).mono ?_
        rw [HN2.out]
        rintro e w11 ⟨rfl, hU11, hg11⟩
        have U11 := Lib.hid hU11
        have D11 := Lib.hid (D10.out.grown hg11)
        have O11 : Hid (e5' = 0 → w11.ownsRow B 3 1 v3 LI.1.length LI.1) := Lib.hid (fun h => ownsRow_grown (HF1.out.2 h).2 hg11 HDB.out)
        clear hU11 hg11 D10 U10
        go_upto_region 14 with (fail)
        go_cut [77] (fun s77 wx => w11 = wx ∧ ∃ b : Bool, s77 = .bool b ∧ RelB b e6 e7 (0 ≤ n2 ∧ n2 ≤ s.size ∧ (ts, l7, e7) = takeT n2.toNat l6 0))
        case first =>
          obtain ⟨hlm, c0, c1, fz0, fz1⟩ := U11.out.raw
          clear hlm
          by_cases h6 : e6 = 0
          · subst h6
            by_cases h0 : n2 < 0
            · have hx : e7 = 21 := by have h := HLV.out; rw [HB2.out, if_pos (.inl h0)] at h; injection h with _ h; injection h
              have HX := Lib.hid hx
              clear hx
              go_wp2_with (fail)
              go_meet
              exact ⟨rfl, true, rfl, RelB.t HX.out⟩
            · by_cases h1 : (s.size : Int) < n2
              · have hx : e7 = 21 := by have h := HLV.out; rw [HB2.out, if_pos (.inr h1)] at h; injection h with _ h; injection h
                have HX := Lib.hid hx
                clear hx
                go_wp2_with (fail)
                go_meet
                exact ⟨rfl, true, rfl, RelB.t HX.out⟩
              · have hx : (ts, l7, e7) = takeT n2.toNat l6 0 := by have h := HLV.out; rw [HB2.out, if_neg (by omega)] at h; exact h
                have HX := Lib.hid (And.intro hx (show 0 ≤ n2 ∧ n2 ≤ s.size by omega))
                clear hx
                go_wp2_with (fail)
                go_meet
                exact ⟨rfl, false, rfl, RelB.f ⟨HX.out.2.1, HX.out.2.2, HX.out.1⟩⟩
          · have t4 : (e6 == 0) = false := by simpa using h6
            have hx : e7 = e6 := by
              have h := HLV.out
              have hm0 := hne6.out h6
              subst hm0
              rw [HB2.out, if_neg (by omega)] at h
              have h2 : takeT (0 : Int).toNat l6 e6 = ([], l6, e6) := rfl
              rw [h2] at h
              injection h with _ h
              injection h
            have HX := Lib.hid (And.intro hx h6)
            clear hx h6
            go_wp2_with (fail)
            go_meet
            exact ⟨rfl, false, rfl, RelB.e HX.out.2 HX.out.1⟩
        case rest =>
          obtain ⟨rfl, b, rfl, HT⟩ := hcut
          go_upto_if 77 with (fail)
          go_cut [78] (fun _ wx => Hid (RS w wx q d (.int .i64 k) (.int .i64 c) (.int .i64 i) v3 (.slice none 0 0)) ∧ ∃ E, Hid (RefIs wx d l6 E) ∧ Hid (e5' = 0 → wx.ownsRow B 3 1 v3 LI.1.length LI.1) ∧ RelE E e7 (0 ≤ n2 ∧ n2 ≤ s.size ∧ (ts, l7, e7) = takeT n2.toNat l6 0))
          case first =>
            obtain ⟨hlm, c0, c1, fz0, fz1⟩ := U11.out.raw
            clear hlm
            cases b with
            | true =>
              have h6 := Lib.hid (HT.1 rfl)
              go_wp2_with (fail)
              go_meet
              exact ⟨D11.out.setd 1 _, 21, U11.out.err 21, Lib.hid (fun h => own_set (O11.out h) HDB.out), RelE.no (by decide) h6.out.2⟩
            | false =>
              have HX := Lib.hid (HT.2 rfl)
              go_wp2_with (fail)
              go_meet
              rcases HX.out with ⟨h6, hx⟩ | ⟨h6, hx⟩
              · exact ⟨D11.out, 0, by have := U11; rw [h6] at this; exact this, O11, RelE.ok hx⟩
              · exact ⟨D11.out, e6, U11, O11, RelE.no h6 hx⟩
          case rest =>
            obtain ⟨D9, E, U9, O9, HE⟩ := hcut
            clear D11 U11 HT O11
            go_upto_block 2 with (fail)
            obtain ⟨i1, hi1, hz0, hz1, hz2⟩ := info_parts infoStr
            have HJ1 := Lib.hid (And.intro hi1 (And.intro hz0 (And.intro hz1 hz2)))
            obtain ⟨LT, hLT⟩ : ∃ LT : List Value × List UInt8 × Int, LT = (ts.map Value.string, l7, e7) := ⟨_, rfl⟩
            have HLT0 := Lib.hid hLT
            have HE3 : Hid (RelE E LT.2.2 (0 ≤ n2 ∧ n2 ≤ s.size ∧ LT = tkT n2.toNat l6)) := Lib.hid (by
              rw [hLT]
              rcases HE with ⟨h0, h1, h2, h3⟩ | ⟨h0, h1⟩
              · exact .inl ⟨h0, h1, h2, by unfold tkT; rw [← h3]⟩
              · exact .inr ⟨h0, h1⟩)
            clear hi1 hz0 hz1 hz2 hLT HE
            go_cut [8] (fun _ wx => ∃ v4 l7' e7', Hid (RS w wx q d (.int .i64 k) (.int .i64 c) (.int .i64 i) v3 v4) ∧ Hid (RefIs wx d l7' e7') ∧ Hid (LT.2.2 = e7' ∧ (e7' = 0 → LT.2.1 = l7' ∧ wx.ownsRow B 9 1 v4 LT.1.length LT.1)) ∧ Hid (e5' = 0 → wx.ownsRow B 3 1 v3 LI.1.length LI.1))
            case first =>
              go_wp2_with (fail)
              go_loopg [8] n2.toNat (fun m s8 wr => ∃ (j : Nat) (v4 : Value) (vals : List Value) (l' : List UInt8) (e' : Int), s8 = .int .i64 (j : Int) ∧ Hid (m = n2.toNat - j) ∧ Hid (RelL s.size n2 j l' e' vals LT tkT) ∧ Hid (RS w wr q d (.int .i64 k) (.int .i64 c) (.int .i64 i) v3 v4) ∧ Hid (RefIs wr d l' e') ∧ Hid (wr.ownsRow B 9 1 v4 j vals) ∧ Hid (e5' = 0 → wr.ownsRow B 3 1 v3 LI.1.length LI.1))
              case atStart => exact ⟨0, .slice none 0 0, [], l6, E, rfl, rfl, RelL.start HE3.out, D9, U9, ⟨rfl, .inl ⟨rfl, rfl⟩⟩, O9⟩
              case round =>
                obtain ⟨j, v4, vals, l', e', rfl, HJ, HL, DR, UR, OR, O3⟩ := hrel
                clear D9 U9 HE3 O9
                obtain ⟨hlm, c0, c1, fz0, fz1⟩ := UR.out.raw
                clear hlm c0 fz0 fz1
                by_cases hlt : (j : Int) < n2
                · by_cases he : e' = 0
                  · subst he
                    have HLT := Lib.hid hlt
                    obtain ⟨x, l2', e2', hx⟩ : ∃ x l2' e2', Wire.tText l' 0 = (x, l2', e2') := ⟨_, _, _, rfl⟩
                    have HX := Lib.hid hx
                    clear hx
                    obtain ⟨A3, c3, hv3, _, _⟩ := own_shape OR.out
                    subst hv3
                    have URd : Hid (RefIs wr.drew d l' 0) := Lib.hid (show RefIs wr.drew d l' 0 from UR.out)
                    have ORd : Hid (wr.drew.ownsRow B 9 1 (.slice A3 j c3) j vals) := Lib.hid (show wr.drew.ownsRow B 9 1 (.slice A3 j c3) j vals from OR.out)
                    have O3d : Hid (e5' = 0 → wr.drew.ownsRow B 3 1 v3 LI.1.length LI.1) := Lib.hid (show e5' = 0 → wr.drew.ownsRow B 3 1 v3 LI.1.length LI.1 from O3.out)
                    have HBd : Hid (B ≤ wr.drew.heap.size ∧ d < B ∧ q ≠ d) := Lib.hid ⟨by have := DR.out.lt; have := DR.out.hq; have := HB.out; show B ≤ wr.heap.size; omega, by have := DR.out.hd; have := HB.out; omega, fun e => HQ.out e.symm⟩
                    have hqB : q < B := by have := DR.out.hq; have := HB.out; omega
                    have HQB := Lib.hid hqB
                    have hjb : j ≤ 16777216 := by rcases HL.out.2 with ⟨_, h1, h2, h3, _⟩ | ⟨h0, _⟩ <;> omega
                    have SS : SN w q d 4 (.int .i64 k) (.int .i64 c) (.int .i64 i) v3 (.slice A3 j c3) (.slice A3 j c3) wr := ⟨DR, DR.out.cq 4 _ rfl⟩
                    clear DR UR OR hqB O3
                    go_wp2_with (fail)
                    have q3 := SS.2
                    have SSd := sn_drew SS
                    go_region_law (first
                        | (refine step_app_own (by rfl) (.tmp 94) (.tmp 97) 23 (by rfl) B 9 i1 (.string ⟨#[]⟩) 16 Tryd.underlying23 HJ1.out.1 HJ1.out.2.1 HJ1.out.2.2.1 HJ1.out.2.2.2 rfl _ j vals (by rfl) (hOa.out.alloc _) ⟨wa.heap.size, 0, none⟩ 1 (.string (S x)) (by rfl) (by simp) rfl (by unfold maxLen; omega) (by omega) (by have := hBa.out; simp; omega) ?_; intro v' wb hown' hgrow'; have hSb := sn_app (sn_alloc hSa _) (hOa.out.alloc _) HQB.out hgrow'; have hO3b : Hid (e5' = 0 → wb.ownsRow B 3 1 v3 LI.1.length LI.1) := Lib.hid (fun h => own_app ((O3a.out h).alloc _) (hOa.out.alloc (.cells #[.string (S x)] 9)) (by decide) hgrow'); obtain ⟨A4, c4, hv4, _, _⟩ := own_shape hown'; subst hv4; have HOB := Lib.hid hown'; have HUB := Lib.hid (ref_app (hUa.out.below (below_alloc wa _) (Nat.le_refl _)) (hOa.out.alloc _) HBd.out.2.1 hgrow'); clear hown' hgrow'; obtain ⟨z3, y3, x3⟩ := fr_in hSb.1.out.fq 4 (by omega))
                        | (go_simp; go_at_call 33; (with_reducible refine (takeT_S HX URd ORd HBd SSd).mono ?_); rintro e wa ⟨rfl, hSa, hUa, hOa, hBa, hGa⟩; have O3a : Hid (e5' = 0 → wa.ownsRow B 3 1 v3 LI.1.length LI.1) := Lib.hid (fun h => ownsRow_grown (O3d.out h) hGa.out HBd.out.2.1); have q3a := hSa.2; have q3b := fun o => alloc_cell (o := o) hSa.2))
                    all_goals
                      have HNX := Lib.hid (HL.out.next (y := .string (S x)) HLT.out (fun h => by subst h; exact tkT_ok HX.out) (fun h => tkT_bad HX.out h))
                      have HD5 := Lib.hid (hSb.1.out.set4 (.slice A4 (j + 1) c4))
                      have HU5 := Lib.hid (HUB.out.setq (j := 4) (v := .slice A4 (j + 1) c4) HQ.out)
                      have HO5 := Lib.hid (own_set (j := 4) (v := .slice A4 (j + 1) c4) HOB.out HQB.out)
                      have HP5 := Lib.hid (fun h => own_set (j := 4) (v := .slice A4 (j + 1) c4) (hO3b.out h) HQB.out)
                      clear hSb HUB HOB y3 x3 hUa hOa hBa hGa O3a hO3b
                      go_wp2
                      go_roundg (n2.toNat - (j + 1))
                      case measure => have := HJ.out; have := HLT.out; omega
                      case rel => exact ⟨j + 1, .slice A4 (j + 1) c4, vals ++ [.string (S x)], l2', e2', by go_num, rfl, HNX, HD5, HU5, HO5, HP5⟩
                  · have t0 : (e' == 0) = false := by simpa using he
                    have HS := Lib.hid (HL.out.stop (fun l => rfl) (fun h => absurd h he))
                    clear he
                    go_wp2_with (fail)
                    go_meet
                    exact ⟨v4, l', e', DR, UR, Lib.hid ⟨HS.out.1, fun h => by have h2 := HS.out.2 h; rw [h2]; exact ⟨rfl, by have := OR.out; rw [← HL.out.1] at this; exact this⟩⟩, O3⟩
                · have HS := Lib.hid (HL.out.stop (fun l => rfl) (fun _ => hlt))
                  go_wp2_with (fail)
                  go_meet
                  exact ⟨v4, l', e', DR, UR, Lib.hid ⟨HS.out.1, fun h => by have h2 := HS.out.2 h; rw [h2]; exact ⟨rfl, by have := OR.out; rw [← HL.out.1] at this; exact this⟩⟩, O3⟩
            case rest =>
              obtain ⟨v4, l7', e7', D12, U12, HF2, O12⟩ := hcut
              obtain ⟨hlm, c0, c1, fz0, fz1⟩ := U12.out.raw
              clear hlm fz0 fz1
              go_wp2_with (fail)
              refine (rend_any l7' e7' wc).mono ?_
              obtain ⟨e9, h9⟩ : ∃ e9, Wire.tEnd l7' e7' = e9 := ⟨_, rfl⟩
              rw [h9]
              rintro e w13 ⟨rfl, hb13⟩
              have H9 := Lib.hid h9
              have HF : Hid (e5 = e5' ∧ (e5' = 0 → l5 = l5') ∧ e7 = e7' ∧ (e7' = 0 → l7 = l7')) := Lib.hid (by
                have a1 := HF1.out
                have a2 := HF2.out
                rw [HLI.out] at a1
                rw [HLT0.out] at a2
                exact ⟨a1.1, fun h => (a1.2 h).1, a2.1, fun h => (a2.2 h).1⟩)
              have D13 := Lib.hid (D12.out.below hb13)
              by_cases h0 : e9 = 0
              · have HOK := Lib.hid (ref_ok HA.out HF.out.1 HF.out.2.1 HB2.out HZ5.out HF.out.2.2.1 HF.out.2.2.2 (h9.trans h0))
                have P13 : Hid (w13.ownsRow B 3 1 v3 ns.length (ns.map (Value.int .i64))) := Lib.hid (by
                  have := own_below (O12.out HOK.out.1) hb13
                  rw [HLI.out] at this
                  simpa using this)
                have Q13 : Hid (w13.ownsRow B 9 1 v4 ts.length (ts.map Value.string)) := Lib.hid (by
                  have := own_below (HF2.out.2 HOK.out.2.1).2 hb13
                  rw [HLT0.out] at this
                  simpa using this)
                obtain ⟨A8, c8, hx8, _, _⟩ := own_shape P13.out
                obtain ⟨A10, c10, hx10, _, _⟩ := own_shape Q13.out
                subst hx8 hx10
                subst h0
                have hnl : ns.length ≤ 140737488351232 := by have := listI_len s.size l3 e3; rw [HA.out] at this; simp only at this; omega
                have htl : ts.length ≤ 140737488351232 := by have := listT_len s.size l5' e5'; rw [HB2.out] at this; simp only at this; omega
                have HNT := Lib.hid (And.intro hnl htl)
                obtain ⟨V, hV⟩ : ∃ V, validB k ns.length ts.length = V := ⟨_, rfl⟩
                have HV := Lib.hid hV
                have k0 := D13.out.cq 0 _ rfl
                have k1 := D13.out.cq 1 _ rfl
                have k2 := D13.out.cq 2 _ rfl
                have k3 := D13.out.cq 3 _ rfl
                have k4 := D13.out.cq 4 _ rfl
                obtain ⟨r, hr⟩ : ∃ r, r = w.heap.size := ⟨_, rfl⟩
                have HRR := Lib.hid hr
                have hfr := D13.out.fr
                rw [← hr] at hfr ⊢
                obtain ⟨z0, y0, x0⟩ := fr_in hfr 0 (by omega)
                obtain ⟨z1, y1, x1⟩ := fr_in hfr 1 (by omega)
                obtain ⟨z2, y2, x2⟩ := fr_in hfr 2 (by omega)
                obtain ⟨z3, y3, x3⟩ := fr_in hfr 3 (by omega)
                obtain ⟨z4, y4, x4⟩ := fr_in hfr 4 (by omega)
                have HFR := Lib.hid hfr
                clear hb13 h9 hnl htl hV c0 c1 D12 O12 hr hfr
                go_wp2_with (fail)
                refine (rvalid_any k ns.length ts.length w13 (by have := HNT.out.1; omega) (by have := HNT.out.2; omega)).mono ?_
                rw [Int.toNat_natCast, Int.toNat_natCast, HV.out]
                rintro e w14 ⟨rfl, rfl⟩
                have hlt : Hid (r < B) := Lib.hid (by have := HRR.out; have := HB.out; omega)
                cases V with
                | false =>
                  have G := Lib.hid (range5f HFR.out (.int .i64 0) (.int .i64 0) (.int .i64 0) (.slice none 0 0) (.slice none 0 0))
                  go_wp2_with (fail)
                  refine bodyPost_ret (v := Value.tuple #[.agg #[.int .i64 0, .int .i64 0, .int .i64 0, .slice none 0 0, .slice none 0 0], .int .i64 21]) (results_ct rfl _ _ r _ _ rfl (cs_range G.out) Tryd.underlying33 rfl (by kernel_rfl) _ rfl) rfl ?_
                  have hr := HRR.out
                  have hR : R = .error 21 := HR.out.trans (by rw [← HH.out.1]; exact dec_d HH.out.2.1 HH.out.2.2.1 HH.out.2.2.2.1 HOK.out.2.2.1 HOK.out.2.2.2.1 HOK.out.2.2.2.2 HV.out)
                  rw [hR]
                  exact ⟨rfl, by decide, ((((D13.out.bel.setCell (by show _ ≤ r; omega) _).setCell (by show _ ≤ r; omega) _).setCell (by show _ ≤ r; omega) _).setCell (by show _ ≤ r; omega) _).setCell (by show _ ≤ r; omega) _⟩
                | true =>
                  have G := Lib.hid (range5f HFR.out (.int .i64 k) (.int .i64 c) (.int .i64 i) (.slice A8 ns.length c8) (.slice A10 ts.length c10))
                  go_wp2_with (fail)
                  refine bodyPost_ret (v := Value.tuple #[.agg #[.int .i64 k, .int .i64 c, .int .i64 i, .slice A8 ns.length c8, .slice A10 ts.length c10], .int .i64 0]) (results_ct rfl _ _ r _ _ rfl (cs_range G.out) Tryd.underlying33 rfl (by kernel_rfl) _ rfl) rfl ?_
                  have hr := HRR.out
                  have hR : R = .ok (k, c, i, ns, ts) := HR.out.trans (by rw [← HH.out.1]; exact dec_e HH.out.2.1 HH.out.2.2.1 HH.out.2.2.2.1 HOK.out.2.2.1 HOK.out.2.2.2.1 HOK.out.2.2.2.2 HV.out)
                  rw [hR]
                  have hBB := HB.out
                  exact ⟨_, _, rfl, ((((D13.out.bel.setCell (by show _ ≤ r; omega) _).setCell (by show _ ≤ r; omega) _).setCell (by show _ ≤ r; omega) _).setCell (by show _ ≤ r; omega) _).setCell (by show _ ≤ r; omega) _,
                    own_down (own_set (own_set (own_set (own_set (own_set P13.out hlt.out) hlt.out) hlt.out) hlt.out) hlt.out) (by omega), own_down (own_set (own_set (own_set (own_set (own_set Q13.out hlt.out) hlt.out) hlt.out) hlt.out) hlt.out) (by omega)⟩
              · have t9 : (e9 == 0) = false := by simpa using h0
                have t8 : (e9 != 0) = true := by simpa using h0
                have H0 := Lib.hid h0
                obtain ⟨r, hr⟩ : ∃ r, r = w.heap.size := ⟨_, rfl⟩
                have HRR := Lib.hid hr
                have hfr := D13.out.fr
                rw [← hr] at hfr ⊢
                obtain ⟨z0, y0, x0⟩ := fr_in hfr 0 (by omega)
                obtain ⟨z1, y1, x1⟩ := fr_in hfr 1 (by omega)
                obtain ⟨z2, y2, x2⟩ := fr_in hfr 2 (by omega)
                obtain ⟨z3, y3, x3⟩ := fr_in hfr 3 (by omega)
                obtain ⟨z4, y4, x4⟩ := fr_in hfr 4 (by omega)
                have G := Lib.hid (range5f hfr (.int .i64 0) (.int .i64 0) (.int .i64 0) (.slice none 0 0) (.slice none 0 0))
                clear hb13 h9 c0 c1 D12 O12 hr hfr h0
                go_wp2_with (fail)
                refine bodyPost_ret (v := Value.tuple #[.agg #[.int .i64 0, .int .i64 0, .int .i64 0, .slice none 0 0, .slice none 0 0], .int .i64 e9]) (results_ct rfl _ _ r _ _ rfl (cs_range G.out) Tryd.underlying33 rfl (by kernel_rfl) _ rfl) rfl ?_
                have hr := HRR.out
                have hR : R = .error e9 := HR.out.trans (by rw [← HH.out.1, ← H9.out]; exact ref_err HH.out.2.1 HH.out.2.2.1 HH.out.2.2.2.1 HA.out HF.out.1 HF.out.2.1 HB2.out HZ5.out HF.out.2.2.1 HF.out.2.2.2 (by rw [H9.out]; exact H0.out))
                rw [hR]
                exact ⟨rfl, H0.out, ((((D13.out.bel.setCell (by show _ ≤ r; omega) _).setCell (by show _ ≤ r; omega) _).setCell (by show _ ≤ r; omega) _).setCell (by show _ ≤ r; omega) _).setCell (by show _ ≤ r; omega) _⟩
end Go.Proofs.YtndcmjgjecdgcaaDoor
