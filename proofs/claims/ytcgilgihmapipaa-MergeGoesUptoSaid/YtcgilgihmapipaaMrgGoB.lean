/- Merging: a loop over merge.All's iterator that appends to one list, beside another one that stays. -/
import Derived.Test.YtcgilgihmapipaaMrgAllG
import Derived.Test.YtcgilgihmapipaaMrgAll
namespace Go.Proofs.Ytcgilgihmapipaa
open Go.RowKit

theorem bears_ne {W : World} {k : Nat} {e e' : TypeId} {cs : Array Value} (h : W.heap[k]? = some (.cells cs e (0, 0))) (hne : e ≠ e') : ¬ Bears W k e' := by
  rintro ⟨cs', hc⟩
  rw [h] at hc
  injection hc with hc
  injection hc with h1 h2
  exact hne h2
/-- the list that grows, the other one, and what lay before -/
structure GS (R : Rn) (w4 W : World) (B0 M bA bO : Nat) (u : Value) (P pre : List It) (D : Option Nat) : Prop where
  a : ∃ v, Boxed W bA 32 v ∧ W.ownsRow M 34 2 v pre.length (prC R pre)
  o : Boxed W bO 32 u ∧ W.ownsRow B0 34 2 u P.length (prC R P) ∧ ∀ j, u.ownBlock = some j → j < M
  bel : Below B0 w4 W
  d : ∀ k, D = some k → W.heap[k]? = some (.deferred (some []))
  m1 : B0 ≤ M
  m2 : M ≤ W.heap.size
  m3 : B0 ≤ bA
  m5 : bA ≠ bO
section
variable {R : Rn} {w4 W W' : World} {B0 M bA bO : Nat} {u : Value} {P pre : List It} {D : Option Nat}
theorem row_grown {B n sz : Nat} {e : TypeId} {v : Value} {xs : List Value} {row : Option Nat} (h : W.ownsRow B e sz v n xs) (hg : W.grownBy W' row) (hr : ∀ r, row = some r → ∃ o : Obj, W.heap[r]? = some o ∧ o.isCells = false) : W'.ownsRow B e sz v n xs :=
  h.kept hg (by
    rcases h.2 with ⟨rfl, _⟩ | ⟨g, cap, cur, rfl, _, hb, _⟩
    · exact .inl rfl
    · refine .inr (fun e => ?_)
      obtain ⟨o, ho, hc⟩ := hr g e.symm
      rw [hb] at ho
      cases ho
      cases hc)
theorem box_grown {b : Nat} {t : TypeId} {v : Value} {row : Option Nat} (h : Boxed W b t v) (hg : W.grownBy W' row) (hr : ∀ r, row = some r → ∃ o : Obj, W.heap[r]? = some o ∧ o.isCells = false) : Boxed W' b t v :=
  h.kept hg (fun e => by
    obtain ⟨o, ho, hc⟩ := hr b e.symm
    have h9 : W.heap[b]? = _ := h
    rw [h9] at ho
    cases ho
    cases hc)
theorem GS.grown {row : Option Nat} {Q : Nat} (h : GS R w4 W B0 M bA bO u P pre D) (hQ : M ≤ Q) (hD : ∀ k, D = some k → k < Q) (hg : W.grownBy W' row) (hr : ∀ r, row = some r → Q ≤ r ∧ ∃ o : Obj, W.heap[r]? = some o ∧ o.isCells = false) : GS R w4 W' B0 M bA bO u P pre D := by
  obtain ⟨v, h1, h2⟩ := h.a
  obtain ⟨k1, k2, k3⟩ := h.o
  have hr2 := fun r e => (hr r e).2
  have hm := h.m1
  have hm2 := h.m2
  refine ⟨⟨v, box_grown h1 hg hr2, row_grown h2 hg hr2⟩, ⟨box_grown k1 hg hr2, row_grown k2 hg hr2, k3⟩, ?_, fun k e => ?_, h.m1, Nat.le_trans h.m2 hg.size, h.m3, h.m5⟩
  · exact h.bel.grown hg (by omega) (fun j e => by have := (hr j e).1; omega)
  · refine (hg.block k (Array.getElem?_eq_some_iff.1 (h.d k e)).1 (fun q => ?_)).trans (h.d k e)
    have := (hr k q.symm).1
    have := hD k e
    omega
theorem row_T {N B n sz : Nat} {e : TypeId} {v : Value} {xs : List Value} (h : W.ownsRow B e sz v n xs) (hk : KpT B0 N W W') (h1 : e ≠ 65) (h2 : e ≠ 67) : W'.ownsRow B e sz v n xs := by
  refine ⟨h.1, ?_⟩
  rcases h.2 with q | ⟨g, cap, cur, rfl, hb, hg, rest⟩
  · exact .inl q
  · exact .inr ⟨g, cap, cur, rfl, hb, hk.block g _ hg (.inr ⟨.inr rfl, bears_ne hg h1, bears_ne hg h2⟩), rest⟩
theorem box_T {N b : Nat} {t : TypeId} {v : Value} (h : Boxed W b t v) (hk : KpT B0 N W W') (h1 : t ≠ 65) (h2 : t ≠ 67) : Boxed W' b t v :=
  hk.block b _ h (.inr ⟨.inr rfl, bears_ne h h1, bears_ne h h2⟩)
theorem GS.T {N : Nat} (h : GS R w4 W B0 M bA bO u P pre D) (hD : ∀ k, D = some k → k < N) (hk : KpT B0 N W W') : GS R w4 W' B0 M bA bO u P pre D := by
  obtain ⟨v, h1, h2⟩ := h.a
  obtain ⟨k1, k2, k3⟩ := h.o
  have hm := h.m1
  have hm2 := h.m2
  refine ⟨⟨v, box_T h1 hk (by decide) (by decide), row_T h2 hk (by decide) (by decide)⟩, ⟨box_T k1 hk (by decide) (by decide), row_T k2 hk (by decide) (by decide), k3⟩, ?_, fun k e => ?_, h.m1, Nat.le_trans h.m2 hk.size, h.m3, h.m5⟩
  · refine h.bel.trans ⟨hk.os, hk.tape, hk.output, hk.size, fun k hlt => ?_⟩
    have hlt' : k < W.heap.size := by omega
    exact (hk.block k _ (Array.getElem?_eq_getElem hlt') (.inl hlt)).trans (Array.getElem?_eq_getElem hlt').symm
  · exact hk.block k _ (h.d k e) (.inr ⟨.inl (hD k e), bears_not (h.d k e) rfl, bears_not (h.d k e) rfl⟩)
/-- a round that appends: the state behind it, and what it pays -/
theorem GS.tail {w1 : World} {v v' : Value} {x : It} {tmp : Obj} {s : Nat} (h : GS R w4 W B0 M bA bO u P pre D) (hv : Boxed W bA 32 v) (hrow : W.ownsRow M 34 2 v pre.length (prC R pre))
    (hown : w1.ownsRow M 34 2 v' (pre.length + 1) (prC R pre ++ [.string (R.K x.1 x.2), .string (R.V x.1 x.2)])) (hg : (W.alloc tmp).grownBy w1 v.ownBlock) :
    Boxed w1 bA 32 v ∧ GS R w4 (w1.setCell ⟨bA, 0, none⟩ v') B0 M bA bO u P (pre ++ [x]) D ∧ (∀ N, KpO B0 N W (w1.setCell ⟨bA, 0, none⟩ v')) ∧ KeepsAt s W (w1.setCell ⟨bA, 0, none⟩ v') := by
  have hv1 : Boxed w1 bA 32 v := (hv.alloc tmp).kept hg (hv.not_row (by decide) hrow)
  have hlt := hv.lt
  have hsz : W.heap.size ≤ (w1.setCell ⟨bA, 0, none⟩ v').heap.size := by
    have := hg.size
    simp at this ⊢
    omega
  have hoth : ∀ j, j < W.heap.size → j ≠ bA → some j ≠ v.ownBlock → (w1.setCell ⟨bA, 0, none⟩ v').heap[j]? = W.heap[j]? := fun j hj h1 h2 =>
    (Below.heap_setCell _ _ _ _ h1).trans ((hg.block j (by simp; omega) h2).trans (Below.heap_alloc _ _ _ hj))
  have hrb : ∀ j, v.ownBlock = some j → M ≤ j ∧ ∃ cs, W.heap[j]? = some (.cells cs 34 (0, 0)) := fun j e => by
    rcases hrow.2 with ⟨rfl, _⟩ | ⟨g, cap, cur, rfl, hb, hgb, _⟩
    · cases e
    · have : g = j := by simpa [Value.ownBlock] using e
      subst this
      exact ⟨hb, _, hgb⟩
  have hm := h.m1
  have hm2 := h.m2
  have hm3 := h.m3
  have htyp : ∀ j e, Bears W j e → e ≠ 32 → e ≠ 34 → (w1.setCell ⟨bA, 0, none⟩ v').heap[j]? = W.heap[j]? := fun j e hb n1 n2 => by
    obtain ⟨cs, hc⟩ := hb
    refine hoth j (Array.getElem?_eq_some_iff.1 hc).1 (fun q => ?_) (fun q => ?_)
    · subst q
      exact bears_ne (cs := #[v]) hv (Ne.symm n1) ⟨cs, hc⟩
    · obtain ⟨_, cs2, hc2⟩ := hrb j q.symm
      exact bears_ne hc2 (Ne.symm n2) ⟨cs, hc⟩
  have hnc : ∀ (k : Nat) (o : Obj), W.heap[k]? = some o → o.isCells = false → (w1.setCell ⟨bA, 0, none⟩ v').heap[k]? = some o := fun k o ho hc => by
    refine (hoth k (Array.getElem?_eq_some_iff.1 ho).1 (fun q => ?_) (fun q => ?_)).trans ho
    · subst q
      have h9 : W.heap[k]? = _ := hv
      rw [ho] at h9
      cases h9
      cases hc
    · obtain ⟨_, cs2, hc2⟩ := hrb k q.symm
      rw [ho] at hc2
      cases hc2
      cases hc
  obtain ⟨k1, k2, k3⟩ := h.o
  have hbO : bO < W.heap.size := k1.lt
  have hlow : ∀ j, j < M → j ≠ bA → j < W.heap.size → (w1.setCell ⟨bA, 0, none⟩ v').heap[j]? = W.heap[j]? := fun j hj h1 h2 => hoth j h2 h1 (fun q => by have := (hrb j q.symm).1; omega)
  refine ⟨hv1, ⟨⟨v', hv1.set v', ?_⟩, ⟨?_, ?_, k3⟩, ?_, fun k e => hnc k _ (h.d k e) rfl, h.m1, by omega, h.m3, h.m5⟩, fun N => ⟨hsz, fun k hk hn => ?_, fun k o _ ho hc => hnc k o ho hc⟩, fun k o _ ho hc => hnc k o ho hc⟩
  · rw [List.length_append, prC_snoc]
    exact hown.kept (grownBy_setCell' w1 bA v') (.inr (hv1.not_row (by decide) hown).symm)
  · refine (hoth bO hbO (Ne.symm h.m5) (fun q => ?_)).trans k1
    obtain ⟨_, cs2, hc2⟩ := hrb bO q.symm
    exact bears_ne hc2 (e' := 32) (by decide) ⟨_, k1⟩
  · refine ⟨k2.1, ?_⟩
    rcases k2.2 with q | ⟨g, cap, cur, rfl, hb, hgb, rest⟩
    · exact .inl q
    · refine .inr ⟨g, cap, cur, rfl, hb, (hlow g (k3 g rfl) (fun q => ?_) (Array.getElem?_eq_some_iff.1 hgb).1).trans hgb, rest⟩
      subst q
      exact bears_ne hgb (e' := 32) (by decide) ⟨_, hv⟩
  · exact h.bel.trans ⟨hg.os, hg.tape, hg.output, hsz, fun k hk => hlow k (by omega) (by omega) (by omega)⟩
  · rcases hn with hn | hn | hn | hn
    · exact hlow k (by omega) (by omega) hk
    · exact htyp k _ hn (by decide) (by decide)
    · exact htyp k _ hn (by decide) (by decide)
    · exact htyp k _ hn (by decide) (by decide)
end
theorem kpO_put {B0 s : Nat} (hB : B0 ≤ s) (W : World) (o o' : Obj) (ho : W.heap[s + 1]? = some o) (hc : o.isCells = false) : KpO B0 (s + 2) W (W.putObj (s + 1) o') :=
  ⟨by simp, fun k _ hn => World.putObj_heap_other (fun e => by
    subst e
    rcases hn with hn | hn | hn | hn
    · omega
    · exact bears_not ho hc hn
    · exact bears_not ho hc hn
    · exact bears_not ho hc hn), fun k o1 hk h1 _ => (World.putObj_heap_other (by omega)).trans h1⟩
theorem KpO.refl (B0 N : Nat) (A : World) : KpO B0 N A A := ⟨Nat.le_refl _, fun _ _ _ => rfl, fun _ _ _ h _ => h⟩
theorem KeepsAt.refl (s : Nat) (A : World) : KeepsAt s A A := fun _ _ _ h _ => h
theorem row_form {W : World} {B n sz : Nat} {e : TypeId} {v : Value} {xs : List Value} (h : W.ownsRow B e sz v n xs) : ∃ a c, v = .slice a n c := by
  rcases h.2 with ⟨rfl, h0⟩ | ⟨g, cap, cur, rfl, _⟩
  · exact ⟨none, 0, by rw [h0]⟩
  · exact ⟨_, _, rfl⟩
end Go.Proofs.Ytcgilgihmapipaa
