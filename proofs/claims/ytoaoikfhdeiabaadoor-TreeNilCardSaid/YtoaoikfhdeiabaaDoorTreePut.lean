/- Package tree: a node is put into a directory; all ancestors are told. -/
import Derived.Test.YtoaoikfhdeiabaaDoorTreeRow
namespace Go.Proofs.YtoaoikfhdeiabaaDoor
open Go.RowKit Go.Maps
/-- the world is as before, but for what lies anew, the map of a directory and its third cell -/
def PutAt (w w' : World) (d : Nat) (mv : Value) (n : Nat) (G : Blk) (name : ByteArray) (b : Nd) : Prop :=
  ∃ mv', w'.cell? ⟨d, 2, none⟩ = some mv' ∧ DM w' mv' (n + 1) (updG G name b) ∧ (mv' = mv ∨ ∃ m, mv' = .map (some m) ∧ w.heap.size ≤ m) ∧ w.heap.size ≤ w'.heap.size ∧ w'.os = w.os ∧ w'.tape = w.tape ∧ w'.output = w.output ∧ (∀ k, w'.frozen? ⟨d, k, none⟩ = w.frozen? ⟨d, k, none⟩) ∧
  (∀ k, k ≠ 2 → w'.cell? ⟨d, k, none⟩ = w.cell? ⟨d, k, none⟩) ∧ ∀ k, k < w.heap.size → k ≠ d → (∀ m, mv = .map (some m) → k ≠ m) → w'.heap[k]? = w.heap[k]?
theorem fe {w w' : World} {b : Nat} (e : w'.heap[b]? = w.heap[b]?) (k : Nat) : w'.frozen? ⟨b, k, none⟩ = w.frozen? ⟨b, k, none⟩ := by unfold World.frozen?; dsimp only; rw [e]
theorem ce {w w' : World} {b : Nat} (e : w'.heap[b]? = w.heap[b]?) (k : Nat) : w'.cell? ⟨b, k, none⟩ = w.cell? ⟨b, k, none⟩ := by unfold World.cell?; dsimp only; rw [e]
theorem ne_map {w : World} {d k m n : Nat} {v : Value} {G : Blk} (hc : w.cell? ⟨d, k, none⟩ = some v) (h : GM w m n G) : d ≠ m := by
  rintro rfl
  obtain ⟨es, cl, h1⟩ := h.map
  unfold World.cell? at hc
  dsimp only at hc
  rw [h1] at hc
  cases hc
theorem cell_lt {w : World} {d k : Nat} {v : Value} (hc : w.cell? ⟨d, k, none⟩ = some v) : d < w.heap.size := by
  unfold World.cell? at hc
  dsimp only at hc
  cases ho : w.heap[d]? with
  | none => rw [ho] at hc; cases hc
  | some o => exact (Array.getElem?_eq_some_iff.1 ho).1
theorem map_nil_no (m : Nat) (w : World) : (binOp BinOp.eql 63 (.map (some m)) (.map none)).run Tryd.prog w = .ok (.bool false) w := by kernel_rfl
theorem map_nil_yes (w : World) : (binOp BinOp.eql 63 (.map none) (.map none)).run Tryd.prog w = .ok (.bool true) w := by kernel_rfl
set_option maxRecDepth 100000 in
set_option maxHeartbeats 4000000 in
theorem put_any (d n : Nat) (mv : Value) (G : Blk) (name : ByteArray) (b : Nd) (w : World) (hm0 : w.cell? ⟨d, 2, none⟩ = some mv) (hf : w.frozen? ⟨d, 2, none⟩ = false) (hm : DM w mv n G) (hn : n < 1048576) (hs : name.size ≤ maxLen) :
    Calls Tryd.prog 67 #[.pointer (some ⟨d, 0, none⟩), .string name, nvo (some b)] w fun e w' => e = .returned (.tuple #[]) ∧ PutAt w w' d mv n G name b := by
  rcases hm with ⟨rfl, rfl, rfl⟩ | ⟨m, rfl, h⟩
  · obtain ⟨w1, hw1⟩ : ∃ w1, w1 = (w.alloc (.map #[] 0)).setCell ⟨d, 2, none⟩ (.map (some w.heap.size)) := ⟨_, rfl⟩
    have hdl : d < w.heap.size := by
      unfold World.cell? at hm0
      dsimp only at hm0
      cases ho : w.heap[d]? with
      | none => rw [ho] at hm0; cases hm0
      | some o => exact (Array.getElem?_eq_some_iff.1 ho).1
    have hg1 : GM w1 w.heap.size 0 (fun _ => none) := by
      rw [hw1]
      exact (gm_made w).same (Below.heap_setCell _ _ _ _ (by show w.heap.size ≠ d; omega))
    obtain ⟨w2, hrun, hg2, hgr⟩ := put_gm (b := b) (q := name) hg1 (by unfold maxLen; omega) hs
    go_enter Tryd.func67, Tryd.ntmps67
    have hno := map_nil_no w.heap.size
    have hyes := map_nil_yes
    have hmk : ∀ w : World, (Instr.makeMap 63 none).run Tryd.prog w = .ok (.map (some w.heap.size)) (w.alloc (.map #[] 0)) := fun w => by kernel_rfl
    have hd2 : (w.alloc (.map #[] 0)).cell? ⟨d, 2, none⟩ = some (.map none) := (((Below.refl w.heap.size w).alloc (Nat.le_refl _) (.map #[] 0)).cell (p := ⟨d, 2, none⟩) hdl).trans hm0
    have hf2 : (w.alloc (.map #[] 0)).frozen? ⟨d, 2, none⟩ = false := (((Below.refl w.heap.size w).alloc (Nat.le_refl _) (.map #[] 0)).frozen (p := ⟨d, 2, none⟩) hdl).trans hf
    have hd3 : w1.cell? ⟨d, 2, none⟩ = some (.map (some w.heap.size)) := by
      rw [hw1]
      exact World.cell?_setCell_same _ _ _ hd2
    have HF := Lib.hid (And.intro hw1 (And.intro hdl (And.intro hg2 hgr)))
    go_upto_if 10 with (fail)
    go_cut [] (fun wx => Hid (w1 = wx))
    case first =>
      clear hrun hd3
      go_wp2
      go_meet
      have h9 := HF.out.2.1
      exact Lib.hid (by rw [HF.out.1]; simp [go_sem, h9])
    case rest =>
      obtain rfl := hcut.out
      clear hmk hd2 hf2 hno hyes hg1 hw1
      go_wp2
      go_end0
      obtain ⟨e1, e2, e3, e4⟩ := HF.out
      have b0 : w1.heap.size = w.heap.size + 1 := by rw [e1]; simp [World.setCell]
      have hne : d ≠ w.heap.size := by omega
      have hbd : w2.heap[d]? = w1.heap[d]? := e4.block d (by omega) (fun q => by cases q; exact hne rfl)
      refine ⟨rfl, .map (some w.heap.size), (ce hbd 2).trans hd3, .inr ⟨_, rfl, e3⟩, .inr ⟨_, rfl, Nat.le_refl _⟩, by have := e4.size; omega, e4.os.trans (by rw [e1]; rfl), e4.tape.trans (by rw [e1]; rfl), e4.output.trans (by rw [e1]; rfl), fun k => (fe hbd k).trans (by rw [e1]; exact (by rw [World.frozen?_setCell] : _ = (w.alloc (.map #[] 0)).frozen? ⟨d, k, none⟩).trans (((Below.refl w.heap.size w).alloc (Nat.le_refl _) (.map #[] 0)).frozen (p := ⟨d, k, none⟩) e2)), fun k hk => (ce hbd k).trans ?_, fun k hk h1 _ => (e4.block k (by omega) (fun q => by cases q; omega)).trans ?_⟩
      · rw [e1]
        refine (World.cell?_setCell_other _ _ _ _ (by intro q; injection q with _ q _; exact hk q.symm)).trans ?_
        exact ((Below.refl w.heap.size w).alloc (Nat.le_refl _) (.map #[] 0)).cell (p := ⟨d, k, none⟩) e2
      · rw [e1]
        exact (Below.heap_setCell _ _ _ _ h1).trans (Below.heap_alloc _ _ _ hk)
  · have hno := map_nil_no m
    obtain ⟨w2, hrun, hg2, hgr⟩ := put_gm (b := b) (q := name) h (by unfold maxLen; omega) hs
    go_enter Tryd.func67, Tryd.ntmps67
    go_wp2
    go_end0
    refine ⟨rfl, .map (some m), ?_, .inr ⟨m, rfl, hg2⟩, .inl rfl, hgr.size, hgr.os, hgr.tape, hgr.output, fun k => fe (hgr.block d (cell_lt hm0) (fun e => by cases e; exact ne_map hm0 h rfl)) k, fun k _ => ?_, fun k hk h1 h2 => hgr.block k hk (fun e => by cases e; exact h2 m rfl rfl)⟩
    · exact (ce (hgr.block d (cell_lt hm0) (fun e => by cases e; exact ne_map hm0 h rfl)) 2).trans hm0
    · exact ce (hgr.block d (cell_lt hm0) (fun e => by cases e; exact ne_map hm0 h rfl)) k
end Go.Proofs.YtoaoikfhdeiabaaDoor
