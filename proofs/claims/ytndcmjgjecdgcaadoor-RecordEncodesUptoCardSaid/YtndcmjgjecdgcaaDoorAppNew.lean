/- A copy of a list of one-cell elements, made by an append to a list of none: as a run, and as one step of a region that draws its order. Over any program. -/
import Derived.Test.YtndcmjgjecdgcaaDoorSlices
import Derived.Laws.Append
import Derived.Deep.RegionLaw
import Derived.WalkKit
import Derived.ChangeShapes
import Derived.WideShapes
import Derived.Deep.Slices
import Derived.Deep.AppendLies
namespace Go.Proofs.YtndcmjgjecdgcaaDoor
open Go.RowKit Go.ChangeShapes Go.WideShapes Go.Deep
theorem sl_news {w : World} {B : Nat} {A : Option Addr} {n : Nat} {f : Nat → Value} (h : SlOf w B A n f) (hn : 0 < n) :
    ∃ a, A = some a ∧ ∀ j v, ((List.range n).map f)[j]? = some v → w.cell? (a.add j) = some v := by
  obtain ⟨b, off, rfl, hb, hc⟩ := h 0 hn
  refine ⟨_, rfl, fun j v hj => ?_⟩
  have hjn : j < n := by
    have := (List.getElem?_eq_some_iff.1 hj).1
    simpa using this
  obtain ⟨b', off', e, _, hc'⟩ := h j hjn
  simp only [Option.some.injEq, Addr.mk.injEq, and_true] at e
  obtain ⟨rfl, rfl⟩ := e
  have hv : v = f j := by
    have := (List.getElem?_eq_some_iff.1 hj).2
    simpa using this.symm
  rw [add_plain, hv]
  exact hc'
theorem run_app_new {P : Program} (w : World) (t ty e : TypeId) (i : TypeInfo) (z : Value) (bytes : Nat) (ht : P.underlying t = some (.slice e)) (hi : P.info? e = some i) (hz : i.zero = some z) (hsz : i.size = 1) (hby : i.bytes = bytes)
    (b : Addr) (A : Option Addr) (n c B : Nat) (f : Nat → Value) (hS : SlOf w B A n f) (h63 : n ≤ 140737488351232) (h48 : n * bytes ≤ 281474976710656) :
    ∃ A' c' w', (Builtin.append_ #[t, t] ty #[.slice (some b) 0 0, .slice A n c]).run P w = .ok (.slice A' n c') w' ∧ Below w.heap.size w w' ∧ SlOf w' w'.heap.size A' n f ∧ (∀ g o, A' = some ⟨g, o, none⟩ → 0 < n → w.heap.size ≤ g) := by
  subst hby
  by_cases hn : n = 0
  · subst hn
    refine ⟨some b, 0, w, ?_, Below.refl _ _, fun i hi => absurd hi (by omega), fun _ _ _ h => absurd h (by omega)⟩
    simp [Builtin.append_, run_underlying ht, sizeOf, typeInfo, zeroValue, hi, hz, Builtin.lenOf, run_firstCells_none]
    have h1 : (Builtin.firstCells i.size 0 (Value.slice A 0 c)).run P w = .ok #[] w := by cases A <;> simp [Builtin.firstCells, loadCells, loadCellsFrom]
    have h2 : (storeCells (b.add 0) []).run P w = .ok () w := by simp [storeCells]
    rw [h1]
    simp only [Result.andThen]
    rw [h2]
  · obtain ⟨a, rfl, hnews⟩ := sl_news hS (by omega)
    have hg := run_append_grow (P := P) (w := w) t ty e i z ht hi hz b 0 0 [] (by simp) (by simp) a n c ((List.range n).map f) (by simp [hsz]) hnews (by omega) (by omega)
      (by rw [nextslicecap_zero (by omega)]; simpa using h48)
    rw [Nat.zero_add] at hg
    refine ⟨_, _, _, hg, ?_, fun j hj => ?_, fun g o hg _ => by injection hg with hg; injection hg with h1 _; omega⟩
    · have h := Below.refl w.heap.size w
      have hb : Below w.heap.size w w.drew := ⟨h.os, h.tape, h.output, h.size, h.block⟩
      exact hb.alloc (Nat.le_refl _) _
    · refine ⟨w.heap.size, 0, rfl, by simp, ?_⟩
      simp only [Nat.zero_add]
      refine (cell_of_row _ w.heap.size j _ e (0, 0) (heap_alloc_new w.drew _)).trans ?_
      simp [hj, Array.getElem?_append]
theorem step_app_new {P : Program} {ops : Array Oper} {o : Oper} {a : Act} {w : World} {K : Act → World → Prop} {Q : Exit → Act → World → Prop} {E : Prop}
    (hg : o.guard = none) (s x : Operand) (t : TypeId) (hop : o.op = Op.call { callee := Callee.builtin Builtin.append, args := #[s, x], argTypes := #[t, t] })
    (e : TypeId) (i : TypeInfo) (z : Value) (bytes : Nat) (ht : P.underlying t = some (.slice e)) (hi : P.info? e = some i) (hz : i.zero = some z) (hsz : i.size = 1) (hby : i.bytes = bytes)
    (b : Addr) (hs : a.eval s = .slice (some b) 0 0) (A : Option Addr) (n c B : Nat) (f : Nat → Value) (hx : a.eval x = .slice A n c) (hS : SlOf w B A n f) (h63 : n ≤ 140737488351232) (h48 : n * bytes ≤ 281474976710656)
    (hK : ∀ A' c' w', Below w.heap.size w w' → SlOf w' w'.heap.size A' n f → (∀ g o, A' = some ⟨g, o, none⟩ → 0 < n → w.heap.size ≤ g) → K (a.put o.dst (.slice A' n c')) w') :
    if Region.wanted o (yielded ops a.tmps) = true then Oper.wp P o a w K Q else E := by
  have hw : Region.wanted o (yielded ops a.tmps) = true := by simp [Region.wanted, hg]
  rw [if_pos hw]
  obtain ⟨A', c', w', hrun, h1, h2, h3⟩ := run_app_new (P := P) w t o.type e i z bytes ht hi hz hsz hby b A n c B f hS h63 h48
  unfold Oper.wp
  simp [execOp, hop, resolve, invoke, builtin, hs, hx, hrun, Result.andThen]
  exact hK A' c' w' h1 h2 h3
theorem SlOf.set {w : World} {B : Nat} {A : Option Addr} {n : Nat} {f : Nat → Value} (h : SlOf w B A n f) (r j : Nat) (u : Value) (hne : ∀ g o, A = some ⟨g, o, none⟩ → 0 < n → r < g) : SlOf (w.setCell ⟨r, j, none⟩ u) B A n f := fun i hi => by
  obtain ⟨b, off, e, hB, hc⟩ := h i hi
  refine ⟨b, off, e, hB, (World.cell?_setCell_other _ _ _ _ ?_).trans hc⟩
  intro e2
  injection e2 with e3 _
  have := hne b off e (by omega)
  omega
theorem SlOf.up {w : World} {B B' : Nat} {A : Option Addr} {n : Nat} {f : Nat → Value} (h : SlOf w B A n f) (hB : B ≤ B') : SlOf w B' A n f := fun i hi => by
  obtain ⟨b, off, e, h1, h2⟩ := h i hi
  exact ⟨b, off, e, by omega, h2⟩
end Go.Proofs.YtndcmjgjecdgcaaDoor
