/- A slice of one-cell elements as it came in. -/
import Derived.Below
import Derived.ChangeSlices
import Derived.WideShapes
import Derived.ProofKit
namespace Go.Proofs.Ytcgilgihmapipaa
open Go.RowKit Go.ChangeShapes Go.WideShapes

/-- the slice value holds f 0, f 1, .., all of them below B -/
def SlOf (w : World) (B : Nat) (A : Option Addr) (len : Nat) (f : Nat → Value) : Prop :=
  ∀ i, i < len → ∃ b off, A = some ⟨b, off, none⟩ ∧ b < B ∧ w.cell? ⟨b, off + i, none⟩ = some (f i)
theorem SlOf.below {w w' : World} {B : Nat} {A : Option Addr} {len : Nat} {f : Nat → Value} (h : SlOf w B A len f) (hb : Below B w w') : SlOf w' B A len f := fun i hi => by
  obtain ⟨b, off, e, hB, hc⟩ := h i hi
  exact ⟨b, off, e, hB, (hb.cell (p := ⟨b, _, none⟩) hB).trans hc⟩
theorem sl_of_cells {w : World} {a : Addr} {len : Nat} {f : Nat → Value} (h : ∀ i, i < len → w.cell? (a.add i) = some (f i)) : SlOf w w.heap.size (some a) len f := fun i hi => by
  have h0 := World.cell?_spot (h 0 (by omega))
  obtain ⟨b, off, spot⟩ := a
  have hspot : spot = none := by simpa [Addr.add] using h0
  subst hspot
  have hc := h i hi
  rw [add_plain] at hc
  refine ⟨b, off, rfl, ?_, hc⟩
  rcases Nat.lt_or_ge b w.heap.size with hlt | hge
  · exact hlt
  · simp [World.cell?, Array.getElem?_eq_none hge] at hc

section
variable {H : Type} {enc : TypeId × Value → H} {P : Program} {W : World} {base : Nat}
/-- an argument that is a slice of integers -/
theorem open_int_arg {t e : TypeId} {k : IntKind} {v : Value} {d : DataW H} {p : List MemPlace} (ht : P.underlying t = some (.slice e)) (he : P.underlying e = some (.int k)) (hc : P.cellsOf e = 1)
    (hv : Value.okWide P W .any base t v) (h : DataW.Trod enc P W 0 (fun _ => true) true t v d p) :
    ∃ (A : Option Addr) (len cap : Nat) (zs : List Int), v = .slice A len cap ∧ len ≤ maxLen ∧ len ≤ zs.length ∧ SlOf W W.heap.size A len (fun i => .int k (zs.getD i 0)) ∧ (∀ n ∈ zs, (Lit.int k n).wf = true) ∧
      ((d = .nil ∧ len = 0 ∧ zs = []) ∨ d = .slice (lits k (zs.take len)) (lits k (zs.drop len))) := by
  obtain ⟨A, len, cap, rfl⟩ := okWide_slice ht hv
  obtain ⟨fuel, hf⟩ := h
  rcases open_ints ht he hc hf with ⟨hcs, hx⟩ | ⟨a, len', cap', zs, hcs, _, hl, hm, hz, hx, hcell, hwz⟩
  · simp only [Value.cells, List.cons.injEq, and_true] at hcs
    injection hcs with e1 e2 e3
    subst e1 e2 e3
    simp only [Prod.mk.injEq] at hx
    exact ⟨none, 0, 0, [], rfl, Nat.zero_le _, Nat.zero_le _, fun i hi => absurd hi (by omega), by simp, .inl ⟨hx.1, rfl, rfl⟩⟩
  · simp only [Value.cells, List.cons.injEq, and_true] at hcs
    injection hcs with e1 e2 e3
    subst e1 e2 e3
    simp only [if_true] at hz
    simp only [Prod.mk.injEq] at hx
    exact ⟨some a, len, cap, zs, rfl, by omega, by omega, sl_of_cells (fun i hi => hcell i (by omega)), hwz, .inr hx.1⟩
end
end Go.Proofs.Ytcgilgihmapipaa
