/- Several disks beside each other, in the cells of one block. -/
import Derived.Test.YtjlhnacdfpbchaaDkActs
namespace Go.Proofs.Ytjlhnacdfpbchaa
open Go.RowKit Go.Maps

/-- disks 0 to k of m, pointed to by the cells of block g -/
structure TD (W w : World) (g m : Nat) (cp : Nat → Int) (p : Nat → Nat) (S : Nat → Nat → Prop) (st : Nat → Fs × List Chg) (N : Nat → Nat) (k : Nat) : Prop where
  bel : Below W.heap.size W w
  lo : W.heap.size ≤ g
  lt : g < w.heap.size
  cell : ∀ j, j < k → w.cell? ⟨g, j, none⟩ = some (.pointer (some ⟨p j, 0, none⟩))
  emp : ∀ j, k ≤ j → j < m → w.cell? ⟨g, j, none⟩ = some (.pointer none)
  fr : ∀ i, w.frozen? ⟨g, i, none⟩ = false
  dk : ∀ j, j < k → ∃ n, n ≤ N j ∧ DK W w (p j) (S j) (cp j) n (st j).1 (st j).2
  dis : ∀ i j, i < k → j < k → ¬ i = j → ∀ b, S i b → ¬ S j b
  off : ∀ j, j < k → ¬ S j g
def putN {α : Type} (f : Nat → α) (i : Nat) (x : α) (j : Nat) : α := if j = i then x else f j
theorem putN_same {α : Type} (f : Nat → α) (i : Nat) (x : α) : putN f i x i = x := if_pos rfl
theorem putN_other {α : Type} (f : Nat → α) {i j : Nat} (x : α) (h : ¬ j = i) : putN f i x j = f j := if_neg h
theorem DK.tch {w0 w w' : World} {p : Nat} {S S' : Nat → Prop} {cp : Int} {n : Nat} {L : Fs} {cs : List Chg} (h : DK w0 w p S cp n L cs) (t : Tch w w' S') (hd : ∀ b, S b → ¬ S' b) (hS : ∀ b, S' b → w0.heap.size ≤ b) : DK w0 w' p S cp n L cs :=
  ⟨bel_tch2 h.bel t hS, h.m.tch t hd⟩
theorem TD.own {W w : World} {g m : Nat} {cp : Nat → Int} {p : Nat → Nat} {S : Nat → Nat → Prop} {st : Nat → Fs × List Chg} {N : Nat → Nat} {k : Nat} (h : TD W w g m cp p S st N k) {j : Nat} (hj : j < k) : ∀ b, S j b → W.heap.size ≤ b ∧ b < w.heap.size := by
  obtain ⟨n, _, hd⟩ := h.dk j hj
  exact hd.m.own
/-- behind a call of disk i -/
theorem TD.step {W w w' : World} {g m : Nat} {cp : Nat → Int} {p : Nat → Nat} {S : Nat → Nat → Prop} {st : Nat → Fs × List Chg} {N : Nat → Nat} {k i n' : Nat} {L' : Fs} {cs' : List Chg} (h : TD W w g m cp p S st N k) (hi : i < k) (d : DK W w' (p i) (grow (S i) w w') (cp i) n' L' cs') (t : Tch w w' (S i)) :
    TD W w' g m cp p (putN S i (grow (S i) w w')) (putN st i (L', cs')) (putN N i n') k := by
  have hg := h.off i hi
  have e := t.block g h.lt hg
  refine ⟨d.bel, h.lo, Nat.lt_of_lt_of_le h.lt t.size, fun j hj => (cell_eq e j).trans (h.cell j hj), fun j h1 h2 => (cell_eq e j).trans (h.emp j h1 h2), fun j => (frozen_eq e j).trans (h.fr j), fun j hj => ?_, fun a b ha hb hne x hx hy => ?_, fun j hj => ?_⟩
  · by_cases e2 : j = i
    · subst e2
      rw [putN_same, putN_same, putN_same]
      exact ⟨n', Nat.le_refl _, d⟩
    · rw [putN_other _ _ e2, putN_other _ _ e2, putN_other _ _ e2]
      obtain ⟨n, h1, h2⟩ := h.dk j hj
      exact ⟨n, h1, h2.tch t (fun b hb hb2 => h.dis j i hj hi e2 b hb hb2) (fun b hb => (h.own hi b hb).1)⟩
  · by_cases e1 : a = i <;> by_cases e2 : b = i
    · exact hne (e1.trans e2.symm)
    · subst e1
      rw [putN_same] at hx
      rw [putN_other _ _ e2] at hy
      rcases hx with hx | ⟨hx, _⟩
      · exact h.dis a b ha hb hne x hx hy
      · have := (h.own hb x hy).2; omega
    · subst e2
      rw [putN_same] at hy
      rw [putN_other _ _ e1] at hx
      rcases hy with hy | ⟨hy, _⟩
      · exact h.dis a b ha hb hne x hx hy
      · have := (h.own ha x hx).2; omega
    · rw [putN_other _ _ e1] at hx
      rw [putN_other _ _ e2] at hy
      exact h.dis a b ha hb hne x hx hy
  · by_cases e2 : j = i
    · subst e2
      rw [putN_same]
      intro hx
      rcases hx with hx | ⟨hx, _⟩
      · exact hg hx
      · have := h.lt; omega
    · rw [putN_other _ _ e2]
      exact h.off j hj
theorem TD.below {W w w' : World} {g m : Nat} {cp : Nat → Int} {p : Nat → Nat} {S : Nat → Nat → Prop} {st : Nat → Fs × List Chg} {N : Nat → Nat} {k : Nat} (h : TD W w g m cp p S st N k) (hb : Below w.heap.size w w') : TD W w' g m cp p S st N k := by
  have e := hb.block g h.lt
  exact ⟨h.bel.trans (hb.mono h.bel.size), h.lo, Nat.lt_of_lt_of_le h.lt hb.size, fun j hj => (cell_eq e j).trans (h.cell j hj), fun j h1 h2 => (cell_eq e j).trans (h.emp j h1 h2), fun j => (frozen_eq e j).trans (h.fr j), fun j hj => by
    obtain ⟨n, h1, h2⟩ := h.dk j hj
    exact ⟨n, h1, h2.below hb⟩, h.dis, h.off⟩
/-- a disk more -/
theorem TD.add {W w w' : World} {g m : Nat} {cp : Nat → Int} {p : Nat → Nat} {S : Nat → Nat → Prop} {st : Nat → Fs × List Chg} {N : Nat → Nat} {k : Nat} (h : TD W w g m cp p S st N k) {q n : Nat} {S' : Nat → Prop} {L : Fs} {cs : List Chg} (hk : k < m) (hb : Below w.heap.size w w') (d : DK W w' q S' (cp k) n L cs) (hS : ∀ b, S' b → w.heap.size ≤ b) :
    TD W (w'.setCell ⟨g, k, none⟩ (.pointer (some ⟨q, 0, none⟩))) g m cp (putN p k q) (putN S k S') (putN st k (L, cs)) (putN N k n) (k + 1) := by
  have h1 := h.below hb
  have ts := tch_set w' ⟨g, k, none⟩ (.pointer (some ⟨q, 0, none⟩))
  have hgS : ¬ S' g := fun e => by have := hS g e; have := h.lt; omega
  have hne : ∀ (X : Nat → Prop), ¬ X g → ∀ b, X b → ¬ (fun i => i = (⟨g, k, none⟩ : Addr).block) b := fun X hX b hb e => hX (by
    have e : b = g := e
    exact e ▸ hb)
  have hgl : ∀ b, (fun i => i = (⟨g, k, none⟩ : Addr).block) b → W.heap.size ≤ b := fun b e => by
    have e : b = g := e
    rw [e]; exact h.lo
  refine ⟨bel_tch2 h1.bel ts hgl, h.lo, by have := h1.lt; simpa using this, fun j hj => ?_, fun j h2 h3 => ?_, fun j => by rw [World.frozen?_setCell]; exact h1.fr j, fun j hj => ?_, fun a b ha hb2 hab x hx hy => ?_, fun j hj => ?_⟩
  · by_cases e : j = k
    · subst e
      rw [putN_same]
      exact World.cell?_setCell_same _ _ _ (h1.emp j (Nat.le_refl _) hk)
    · rw [putN_other _ _ e]
      exact (World.cell?_setCell_other _ _ _ _ (by intro e2; injection e2 with _ e2 _; exact e e2.symm)).trans (h1.cell j (by omega))
  · exact (World.cell?_setCell_other _ _ _ _ (by intro e2; injection e2 with _ e2 _; omega)).trans (h1.emp j (by omega) h3)
  · by_cases e : j = k
    · subst e
      rw [putN_same, putN_same, putN_same, putN_same]
      exact ⟨n, Nat.le_refl _, d.tch ts (hne S' hgS) hgl⟩
    · rw [putN_other _ _ e, putN_other _ _ e, putN_other _ _ e, putN_other _ _ e]
      obtain ⟨n0, q1, q2⟩ := h1.dk j (by omega)
      exact ⟨n0, q1, q2.tch ts (hne (S j) (h.off j (by omega))) hgl⟩
  · have hold : ∀ j, j < k → ∀ b, S j b → b < w.heap.size := fun j hj b hb => (h.own hj b hb).2
    by_cases e1 : a = k <;> by_cases e2 : b = k
    · exact hab (e1.trans e2.symm)
    · subst e1
      rw [putN_same] at hx
      rw [putN_other _ _ e2] at hy
      have := hS x hx
      have := hold b (by omega) x hy
      omega
    · subst e2
      rw [putN_same] at hy
      rw [putN_other _ _ e1] at hx
      have := hS x hy
      have := hold a (by omega) x hx
      omega
    · rw [putN_other _ _ e1] at hx
      rw [putN_other _ _ e2] at hy
      exact h.dis a b (by omega) (by omega) hab x hx hy
  · by_cases e : j = k
    · subst e
      rw [putN_same]; exact hgS
    · rw [putN_other _ _ e]; exact h.off j (by omega)
theorem TD.congr {W w : World} {g m : Nat} {cp : Nat → Int} {p : Nat → Nat} {S : Nat → Nat → Prop} {st st' : Nat → Fs × List Chg} {N : Nat → Nat} {k : Nat} (h : TD W w g m cp p S st N k) (he : ∀ j, j < k → st j = st' j) : TD W w g m cp p S st' N k :=
  ⟨h.bel, h.lo, h.lt, h.cell, h.emp, h.fr, fun j hj => by rw [← he j hj]; exact h.dk j hj, h.dis, h.off⟩
end Go.Proofs.Ytjlhnacdfpbchaa
