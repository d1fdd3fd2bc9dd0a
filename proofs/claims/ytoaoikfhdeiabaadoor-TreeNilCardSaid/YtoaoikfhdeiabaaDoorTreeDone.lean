/- Package tree: what stands where behind a node was put. -/
import Derived.Test.YtoaoikfhdeiabaaDoorTreeChg
namespace Go.Proofs.YtoaoikfhdeiabaaDoor
open Go.RowKit Go.Maps
theorem dsOf_mem {d : Nat → Nat} {k b : Nat} (h : b ∈ dsOf d k) : ∃ i, i ≤ k ∧ d i = b := by
  obtain ⟨i, hi1, hi2⟩ := List.mem_map.1 h
  exact ⟨i, by have := List.mem_range.1 hi1; omega, hi2⟩
section
variable {w w' : World} {d : Nat → Nat} {k qn : Nat} {mv : Value} {G : Blk} {nm : ByteArray} {b9 : Nd} {cs : Nat → Int} {more : Int}
/-- a block that is neither an ancestor nor the parent's map stays -/
theorem Done1.block (h : Done1 w w' d k mv qn G nm b9 cs more) {b : Nat} (hb : b < w.heap.size) (hd : ∀ i, i ≤ k → d i ≠ b) (hm : ∀ m, mv = .map (some m) → b ≠ m) : w'.heap[b]? = w.heap[b]? := by
  obtain ⟨w0, w1, h0, h1, h2⟩ := h
  have hb0 : b < w0.heap.size := Nat.lt_of_lt_of_le hb h0.size
  obtain ⟨mv', p1, p2, p3, p4, p5, p6, p7, p8, p9, p10⟩ := h1
  refine (h2.far b (Nat.lt_of_lt_of_le hb0 p4) (fun hi => ?_)).trans ((p10 b hb0 (fun e => hd k (Nat.le_refl _) e.symm) hm).trans (h0.block b hb))
  obtain ⟨i, h5, h6⟩ := dsOf_mem hi
  exact hd i h5 h6
/-- the ancestors' other cells stay -/
theorem Done1.anc (h : Done1 w w' d k mv qn G nm b9 cs more) (hm : DM w mv qn G) {i j : Nat} {v : Value} (hi : i ≤ k) (hj : j ≠ 1) (hk : d i = d k → j ≠ 2) (hc : w.cell? ⟨d i, j, none⟩ = some v) : w'.cell? ⟨d i, j, none⟩ = some v := by
  obtain ⟨w0, w1, h0, h1, h2⟩ := h
  have h3 := h2.oth i (by rw [dsOf_len]; omega) j hj
  rw [dsOf_at] at h3
  refine h3.trans (h1.cell (dm_below hm h0) ((h0.cell (p := ⟨d i, j, none⟩) (cell_lt hc)).trans hc) ?_)
  by_cases e : d i = d k
  · exact .inr (hk e)
  · exact .inl e
theorem Done1.cnt (h : Done1 w w' d k mv qn G nm b9 cs more) {i : Nat} (hi : i ≤ k) : w'.cell? ⟨d i, 1, none⟩ = some (.int .i64 (cs i + more)) ∧ w'.frozen? ⟨d i, 1, none⟩ = false := by
  obtain ⟨w0, w1, h0, h1, h2⟩ := h
  have h3 := h2.cnt i (by rw [dsOf_len]; omega)
  rw [dsOf_at, if_pos (by omega)] at h3
  exact h3
/-- the parent's map -/
theorem Done1.map (h : Done1 w w' d k mv qn G nm b9 cs more) (hm : DM w mv qn G) (hc : ∀ i, i ≤ k → ∃ v, w.cell? ⟨d i, 1, none⟩ = some v) : ∃ mv', w'.cell? ⟨d k, 2, none⟩ = some mv' ∧ DM w' mv' (qn + 1) (updG G nm b9) ∧ (mv' = mv ∨ ∃ m, mv' = .map (some m) ∧ w.heap.size ≤ m) := by
  obtain ⟨w0, w1, h0, h1, h2⟩ := h
  have hc1 : ∀ i, i ≤ k → ∃ v, w1.cell? ⟨d i, 1, none⟩ = some v := fun i hi => by
    obtain ⟨v, hv⟩ := hc i hi
    exact ⟨v, h1.cell (dm_below hm h0) ((h0.cell (p := ⟨d i, 1, none⟩) (cell_lt hv)).trans hv) (.inr (by decide))⟩
  obtain ⟨mv', p1, p2, p3, p4, p5, p6, p7, p8, p9, p10⟩ := h1
  have h3 := h2.oth k (by rw [dsOf_len]; omega) 2 (by decide)
  rw [dsOf_at] at h3
  refine ⟨mv', h3.trans p1, dm_same p2 (fun m em => ?_), ?_⟩
  · rcases p2 with ⟨e1, _⟩ | ⟨m', e1, hg⟩
    · rw [e1] at em; cases em
    · rw [e1] at em
      cases em
      refine h2.far _ hg.lt (fun hi => ?_)
      obtain ⟨i, h5, h6⟩ := dsOf_mem hi
      obtain ⟨v, hv⟩ := hc1 i h5
      exact ne_map hv hg h6
  · rcases p3 with e | ⟨m, e, hm⟩
    · exact .inl e
    · exact .inr ⟨m, e, Nat.le_trans h0.size hm⟩
/-- all that was below stays, where the ancestors and the parent's map lie above -/
theorem Done1.bel (h : Done1 w w' d k mv qn G nm b9 cs more) {B : Nat} (hB : B ≤ w.heap.size) (hd : ∀ i, i ≤ k → B ≤ d i) (hm : ∀ m, mv = .map (some m) → B ≤ m) : Below B w w' := by
  have hbk : ∀ b, b < B → w'.heap[b]? = w.heap[b]? := fun b hb => h.block (by omega) (fun i hi e => by have := hd i hi; omega) (fun m e => by have := hm m e; omega)
  obtain ⟨w0, w1, h0, h1, h2⟩ := h
  obtain ⟨mv', p1, p2, p3, p4, p5, p6, p7, p8, p9, p10⟩ := h1
  exact ⟨h2.os.trans (p5.trans h0.os), h2.tape.trans (p6.trans h0.tape), h2.output.trans (p7.trans h0.output), Nat.le_trans h0.size (Nat.le_trans p4 h2.size), hbk⟩
end
end Go.Proofs.YtoaoikfhdeiabaaDoor
