/- A row of bytes of the call's own: it reads as a list of bytes; stores, draws, new blocks. Over any program. -/
import Derived.Below
import Derived.Deep.Draws
import Derived.Laws.IdiomStrings
import Derived.Laws.MakeOwn
import Derived.Laws.OwnMore
import Derived.OwnWalk
namespace Go.Proofs.Ytjlhnacdfpbchaa
open Go.RowKit

def Row8 (w : World) (g : Nat) (l : List UInt8) : Prop :=
  ∀ j (h : j < l.length), w.cell? ⟨g, j, none⟩ = some (.int .u8 (l[j].toNat : Int)) ∧ w.frozen? ⟨g, j, none⟩ = false
section
variable {w w' : World} {g : Nat} {l : List UInt8}
theorem Row8.cell (h : Row8 w g l) {j : Nat} (hj : j < l.length) : w.cell? ⟨g, j, none⟩ = some (.int .u8 (l[j].toNat : Int)) := (h j hj).1
theorem Row8.frozen (h : Row8 w g l) {j : Nat} (hj : j < l.length) : w.frozen? ⟨g, j, none⟩ = false := (h j hj).2
theorem Row8.drew (h : Row8 w g l) : Row8 w.drew g l := h
theorem Row8.drewN (h : Row8 w g l) (n : Nat) : Row8 (w.drewN n) g l := h
theorem Row8.below {B : Nat} (h : Row8 w g l) (hb : Below B w w') (hg : g < B) : Row8 w' g l := fun j hj =>
  ⟨(hb.cell (p := ⟨g, j, none⟩) hg).trans (h j hj).1, (hb.frozen (p := ⟨g, j, none⟩) hg).trans (h j hj).2⟩
theorem Row8.set (h : Row8 w g l) (j : Nat) (b : UInt8) : Row8 (w.setCell ⟨g, j, none⟩ (.int .u8 (b.toNat : Int))) g (l.set j b) := by
  intro i hi
  have hi' : i < l.length := by simpa using hi
  constructor
  · by_cases e : i = j
    · subst e
      simp only [List.getElem_set_self]
      exact World.cell?_setCell_same _ _ _ (h i hi').1
    · rw [World.cell?_setCell_other _ _ _ _ (by intro e2; injection e2 with _ e3 _; exact e e3.symm)]
      rw [List.getElem_set_ne (fun e2 => e e2.symm)]
      exact (h i hi').1
  · rw [World.frozen?_setCell]; exact (h i hi').2
theorem Row8.of_string (w : World) (s : ByteArray) (e : TypeId) (cap : Nat) :
    Row8 (w.alloc (.cells (bytesRow s cap) e ((bytesRow s cap).size, (bytesRow s cap).size + 1))) w.heap.size s.data.toList := by
  intro j hj
  have hj' : j < s.data.size := by simpa using hj
  refine ⟨?_, ?_⟩
  · rw [World.cell?_alloc_mark, bytesRow_at s cap j hj']
    simp
  · rw [World.frozen?_alloc_mark]
    have : s.data.size ≤ (bytesRow s cap).size := by unfold bytesRow; simp
    simp
    omega
theorem Row8.made (w : World) (e : TypeId) (n : Nat) : Row8 (w.alloc (.cells (madeCells #[.int .u8 0] n) e)) w.heap.size (List.replicate n 0) := by
  intro j hj
  have hj' : j < n := by simpa using hj
  refine ⟨?_, ?_⟩
  · rw [World.cell?_alloc_mark]
    unfold madeCells
    simp [hj', Nat.mod_one]
  · rw [World.frozen?_alloc_mark]
    simp
theorem Row8.back {P : Program} (h : Row8 w g l) (src dst e : TypeId) (cap : Nat) (hs : P.underlying src = some (.slice e)) (he : P.underlying e = some (.int .u8)) (hd : P.underlying dst = some .string) :
    (convert src dst (.slice (some ⟨g, 0, none⟩) l.length cap)).run P w = .ok (.string ⟨l.toArray⟩) w :=
  run_convert_bytes_back w src dst e ⟨g, 0, none⟩ cap l hs he hd (fun j hj => by
    have := (h j hj).1
    by_cases e : j = 0
    · subst e; exact this
    · simpa [Addr.add, e] using this)
end
end Go.Proofs.Ytjlhnacdfpbchaa
