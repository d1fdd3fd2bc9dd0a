/- Sorting rows of pairs of texts: the cells of a world of the sort's; exchanges. No program is read here. -/
import Derived.Test.YtmpeaondljpgiaaStbMath
import Derived.Test.YtmpeaondljpgiaaPlainKit
import Derived.Shelf.SlSortCmp.KitK
namespace Go.Proofs.Ytmpeaondljpgiaa
open Go.RowKit Go.Lib Go.Sort Go.Shelf

section
variable {α : Type} [Inhabited α] {K V : α → ByteArray} {w0 W : World} {blk off : Nat} {d0 dk : Array α}
/-- an element's two cells -/
abbrev encP (K V : α → ByteArray) (x : α) : List Value := [.string (K x), .string (V x)]
/-- the two cells of an element, in some world -/
structure El (W : World) (blk p : Nat) (k v : ByteArray) : Prop where
  c0 : W.cell? ⟨blk, p, none⟩ = some (.string k)
  c1 : W.cell? ⟨blk, p + 1, none⟩ = some (.string v)
  f0 : W.frozen? ⟨blk, p, none⟩ = false
  f1 : W.frozen? ⟨blk, p + 1, none⟩ = false
theorem el_of (h : SWK (encP K V) 2 w0 blk off dk W) (R : RowK (encP K V) 2 w0 blk off d0) (hs : dk.size = d0.size) (i : Nat) (hi : i < dk.size) : El W blk (off + i * 2) (K dk[i]!) (V dk[i]!) := by
  have hH := h.holds R.hblk R.hH hs
  have hc := HoldsK.cells hH R.hk hi
  have a0 := hc 0 (.string (K dk[i]!)) rfl
  have a1 := hc 1 (.string (V dk[i]!)) rfl
  have b0 := hH.cell hi (show 0 < 2 by decide)
  have b1 := hH.cell hi (show 1 < 2 by decide)
  refine ⟨?_, ?_, ?_, ?_⟩
  · rw [Addr.add_lit] at a0; exact a0
  · rw [Addr.add_lit] at a1; exact a1
  · exact b0.2
  · exact b1.2
theorem el_grown (h : SWK (encP K V) 2 w0 blk off dk W) (R : RowK (encP K V) 2 w0 blk off d0) (hs : dk.size = d0.size) (i : Nat) (hi : i < dk.size) : (∀ n os, (grow (W.drewN n) os).cell? ⟨blk, off + i * 2, none⟩ = some (.string (K dk[i]!))) ∧ ∀ n os, (grow (W.drewN n) os).cell? ⟨blk, off + i * 2 + 1, none⟩ = some (.string (V dk[i]!)) :=
  ⟨fun n os => (el_of (h.grown n os) R hs i hi).c0, fun n os => (el_of (h.grown n os) R hs i hi).c1⟩
/-- what stands behind the first stores of an exchange -/
theorem el_behind {W : World} {blk p q : Nat} {k v k' v' : ByteArray} (h : El W blk p k v) (h' : El W blk q k' v') (u1 u2 u3 : Value) :
    ((W.setCell ⟨blk, p, none⟩ u1).cell? ⟨blk, p + 1, none⟩ = some (.string v)) ∧ (∃ z, ((W.setCell ⟨blk, p, none⟩ u1).setCell ⟨blk, p + 1, none⟩ u2).cell? ⟨blk, q, none⟩ = some z) ∧ ∃ z, (((W.setCell ⟨blk, p, none⟩ u1).setCell ⟨blk, p + 1, none⟩ u2).setCell ⟨blk, q, none⟩ u3).cell? ⟨blk, q + 1, none⟩ = some z := by
  have some_on : ∀ (X : World) (a b : Addr) (u : Value), (∃ z, X.cell? b = some z) → ∃ z, (X.setCell a u).cell? b = some z := fun X a b u ⟨z, hz⟩ => by
    by_cases e : a = b
    · subst e; exact ⟨u, World.cell?_setCell_same' _ _ _ (by rw [hz]; rfl)⟩
    · exact ⟨z, (World.cell?_setCell_other _ _ _ _ e).trans hz⟩
  refine ⟨?_, ?_, ?_⟩
  · exact (World.cell?_setCell_other _ _ _ _ (by intro e; simp only [Addr.mk.injEq] at e; omega)).trans h.c1
  · exact some_on _ _ _ _ (some_on _ _ _ _ ⟨_, h'.c0⟩)
  · exact some_on _ _ _ _ (some_on _ _ _ _ (some_on _ _ _ _ ⟨_, h'.c1⟩))
theorem swapped_K (h : SWK (encP K V) 2 w0 blk off dk W) (R : RowK (encP K V) 2 w0 blk off d0) (i j : Nat) (hi : i < dk.size) (hj : j < dk.size) :
    SWK (encP K V) 2 w0 blk off (swp dk i j) (((((W.setCell ⟨blk, off + i * 2, none⟩ (.string (K dk[j]!))).setCell ⟨blk, off + i * 2 + 1, none⟩ (.string (V dk[j]!))).setCell ⟨blk, off + j * 2, none⟩ (.string (K dk[i]!))).setCell ⟨blk, off + j * 2 + 1, none⟩ (.string (V dk[i]!))).drew) := h.swapped R i j hi hj
/-- an exchange in one go: what the walk wants, and what it leaves -/
theorem exch_K (h : SWK (encP K V) 2 w0 blk off dk W) (R : RowK (encP K V) 2 w0 blk off d0) (hs : dk.size = d0.size) (i j : Nat) (hi : i < dk.size) (hj : j < dk.size) (x y : α) (gx : dk[i]! = x) (gy : dk[j]! = y) (z : Array α) (gs : swp dk i j = z) :
    El W blk (off + i * 2) (K x) (V x) ∧ El W blk (off + j * 2) (K y) (V y) ∧
    ((W.setCell ⟨blk, off + i * 2, none⟩ (.string (K y))).cell? ⟨blk, off + i * 2 + 1, none⟩ = some (.string (V x))) ∧ (∃ z, ((W.setCell ⟨blk, off + i * 2, none⟩ (.string (K y))).setCell ⟨blk, off + i * 2 + 1, none⟩ (.string (V y))).cell? ⟨blk, off + j * 2, none⟩ = some z) ∧ (∃ z, (((W.setCell ⟨blk, off + i * 2, none⟩ (.string (K y))).setCell ⟨blk, off + i * 2 + 1, none⟩ (.string (V y))).setCell ⟨blk, off + j * 2, none⟩ (.string (K x))).cell? ⟨blk, off + j * 2 + 1, none⟩ = some z) ∧
    Aside (SWK (encP K V) 2 w0 blk off z (((((W.setCell ⟨blk, off + i * 2, none⟩ (.string (K y))).setCell ⟨blk, off + i * 2 + 1, none⟩ (.string (V y))).setCell ⟨blk, off + j * 2, none⟩ (.string (K x))).setCell ⟨blk, off + j * 2 + 1, none⟩ (.string (V x))).drew)) := by
  have e1 := el_of h R hs i hi
  have e2 := el_of h R hs j hj
  have e3 := swapped_K h R i j hi hj
  rw [gx] at e1 e3
  rw [gy] at e2 e3
  rw [gs] at e3
  obtain ⟨e4, e5, e6⟩ := el_behind e1 e2 (.string (K y)) (.string (V y)) (.string (K x))
  exact ⟨e1, e2, e4, e5, e6, e3⟩
end
end Go.Proofs.Ytmpeaondljpgiaa
