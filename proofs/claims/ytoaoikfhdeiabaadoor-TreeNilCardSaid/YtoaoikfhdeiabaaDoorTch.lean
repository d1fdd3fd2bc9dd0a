/- What a call leaves as it was: all blocks but a few, and new ones. Over any program. -/
import Derived.Test.YtoaoikfhdeiabaaDoorRowAt
import Derived.Laws.AppendOwn
namespace Go.Proofs.YtoaoikfhdeiabaaDoor
open Go.RowKit

/-- nothing has turned but the blocks of S and new blocks -/
structure Tch (w w' : World) (S : Nat → Prop) : Prop where
  os : w'.os = w.os
  tape : w'.tape = w.tape
  output : w'.output = w.output
  size : w.heap.size ≤ w'.heap.size
  block : ∀ k, k < w.heap.size → ¬ S k → w'.heap[k]? = w.heap[k]?
theorem Tch.refl (w : World) (S : Nat → Prop) : Tch w w S := ⟨rfl, rfl, rfl, Nat.le_refl _, fun _ _ _ => rfl⟩
/-- .. where the second step may turn new blocks beside -/
theorem Tch.then {w w1 w2 : World} {S S' : Nat → Prop} (h : Tch w w1 S) (k : Tch w1 w2 S') (hS : ∀ i, i < w.heap.size → S' i → S i) : Tch w w2 S :=
  ⟨k.os.trans h.os, k.tape.trans h.tape, k.output.trans h.output, Nat.le_trans h.size k.size, fun i hi hn => (k.block i (Nat.lt_of_lt_of_le hi h.size) (fun e => hn (hS i hi e))).trans (h.block i hi hn)⟩
theorem Tch.mono {w w1 : World} {S S' : Nat → Prop} (h : Tch w w1 S) (hS : ∀ i, i < w.heap.size → S i → S' i) : Tch w w1 S' := ⟨h.os, h.tape, h.output, h.size, fun i hi hn => h.block i hi (fun e => hn (hS i hi e))⟩
theorem tch_below {w w' : World} (S : Nat → Prop) (h : Below w.heap.size w w') : Tch w w' S := ⟨h.os, h.tape, h.output, h.size, fun k hk _ => h.block k hk⟩
theorem Tch.below {w w' : World} {S : Nat → Prop} (h : Tch w w' S) (hS : ∀ i, i < w.heap.size → ¬ S i) : Below w.heap.size w w' := ⟨h.os, h.tape, h.output, h.size, fun k hk => h.block k hk (hS k hk)⟩
/-- seen from a world that lies before, whose blocks S spares -/
theorem Tch.from {w0 w w' : World} {S : Nat → Prop} (h : Tch w w' S) (hb : Below w0.heap.size w0 w) (hS : ∀ i, S i → w0.heap.size ≤ i) : Below w0.heap.size w0 w' :=
  ⟨h.os.trans hb.os, h.tape.trans hb.tape, h.output.trans hb.output, Nat.le_trans hb.size h.size, fun k hk => (h.block k (Nat.lt_of_lt_of_le hk hb.size) (fun e => by have := hS k e; omega)).trans (hb.block k hk)⟩
theorem tch_set (w : World) (a : Addr) (v : Value) : Tch w (w.setCell a v) (fun k => k = a.block) := ⟨rfl, rfl, rfl, by simp [World.setCell], fun k _ hn => Below.heap_setCell _ _ _ _ hn⟩
theorem tch_grown {w w' : World} {r : Option Nat} (h : w.grownBy w' r) : Tch w w' (fun k => some k = r) := ⟨h.os, h.tape, h.output, h.size, fun k hk hn => h.block k hk hn⟩
theorem tch_sole {w w' : World} {g : Nat} (h : Sole w w' g) : Tch w w' (fun k => k = g) := ⟨h.os, h.tape, h.output, Nat.le_of_eq h.size.symm, fun k _ hn => h.block k hn⟩
theorem tch_drew {w w' : World} {S : Nat → Prop} (h : Tch w w' S) : Tch w w'.drew S := ⟨h.os, h.tape, h.output, h.size, h.block⟩
theorem cell_eq {w w' : World} {k : Nat} (h : w'.heap[k]? = w.heap[k]?) (i : Nat) : w'.cell? ⟨k, i, none⟩ = w.cell? ⟨k, i, none⟩ := by simp [World.cell?, h]
theorem frozen_eq {w w' : World} {k : Nat} (h : w'.heap[k]? = w.heap[k]?) (i : Nat) : w'.frozen? ⟨k, i, none⟩ = w.frozen? ⟨k, i, none⟩ := by simp [World.frozen?, h]
/-- the type that a block's object bears -/
abbrev Bears (w : World) (b : Nat) (e : TypeId) : Prop := ∃ cs, w.heap[b]? = some (.cells cs e (0, 0))
theorem bears_apart {w : World} {b c : Nat} {e e' : TypeId} (h : Bears w b e) (h' : Bears w c e') (he : e ≠ e') : ¬ b = c := by
  rintro rfl
  obtain ⟨_, h⟩ := h
  obtain ⟨_, h'⟩ := h'
  rw [h] at h'
  injection h' with h'
  injection h' with _ h' _
  exact he h'
theorem Bears.lt {w : World} {b : Nat} {e : TypeId} (h : Bears w b e) : b < w.heap.size := by
  obtain ⟨_, h⟩ := h
  exact (Array.getElem?_eq_some_iff.1 h).1
theorem bears_set {w : World} {p i : Nat} {e : TypeId} (v : Value) (h : Bears w p e) : Bears (w.setCell ⟨p, i, none⟩ v) p e := by
  obtain ⟨cs, h⟩ := h
  simp [Bears, World.setCell, Array.getElem?_modify, h]
theorem Bears.tch {w w' : World} {S : Nat → Prop} {b : Nat} {e : TypeId} (h : Bears w b e) (t : Tch w w' S) (hn : ¬ S b) : Bears w' b e := by
  have hl := h.lt
  obtain ⟨cs, h⟩ := h
  exact ⟨cs, (t.block b hl hn).trans h⟩
/-- a cell ahead of a row is set: the row stays -/
theorem RowAt.setOut {w : World} {e : TypeId} {sz g o cap : Nat} {xs : List Value} (h : RowAt w e sz g o cap xs) (i : Nat) (hi : i < o) (v : Value) : RowAt (w.setCell ⟨g, i, none⟩ v) e sz g o cap xs := by
  obtain ⟨cur, hg, h1, h2⟩ := h.blk
  refine ⟨h.le, cur.setIfInBounds i v, by simp [World.setCell, Array.getElem?_modify, hg], by simpa using h1, ?_⟩
  rw [← h2]
  rw [Array.toList_setIfInBounds, List.drop_set_of_lt hi, h2]
  exact h2
end Go.Proofs.YtoaoikfhdeiabaaDoor
