/- Package disk: the names of an empty disk's files: none. -/
import Derived.Test.YtmlikkjahkdilaaGreatDoorDiskFirst
import Derived.Test.YtmlikkjahkdilaaGreatDoorShelf
import Derived.Deep.DeepCutAuto
import Derived.IntWalk
namespace Go.Proofs.YtmlikkjahkdilaaGreatDoor
open Go.RowKit

theorem make0s (w : World) : (Instr.makeSlice 36 (.int .i64 0) (.int .i64 0)).run Tryz.prog w = .ok (.slice (some ⟨w.heap.size, 0, none⟩) 0 0) (w.alloc (.cells #[] 9)) := by kernel_rfl
theorem range0 (w : World) : (Instr.range 62 (.map none)).run Tryz.prog w = .ok (.pointer (some ⟨w.heap.size, 0, none⟩)) (w.alloc (.mapIter none 0 #[] 0)) := by kernel_rfl
theorem next0 (r : Nat) (t : TypeId) (w : World) (h : w.heap[r]? = some (.mapIter none 0 #[] 0)) : (Instr.next (.pointer (some ⟨r, 0, none⟩)) false t).run Tryz.prog w = .ok (.tuple #[.bool false]) w := by
  simp only [Instr.next, getObj, Sem.run_bind, Sem.run, h, Result.andThen]
  rfl
set_option maxRecDepth 100000 in
set_option maxHeartbeats 2000000 in
theorem dlist_empty (p : Nat) (cp used : Int) (last chg : Value) (w : World) (hd : DiskAt w p cp last chg (.map none) used) :
    Calls Tryz.prog 16 #[.pointer (some ⟨p, 0, none⟩)] w fun e w' => (∃ a c, e = .returned (.slice a 0 c)) ∧ Below w.heap.size w w' := by
  have c3 := hd.c3
  have hmk := make0s w
  have hbl : Below w.heap.size w (w.alloc (.cells #[] 9)) := (Below.refl _ w).alloc (Nat.le_refl _) _
  have hlt : p < w.heap.size := by
    obtain ⟨cs, h⟩ := hd.ty
    exact (Array.getElem?_eq_some_iff.1 h).1
  have d3 : (w.alloc (.cells #[] 9)).cell? ⟨p, 3, none⟩ = some (.map none) := (cell_eq (hbl.block p hlt) 3).trans c3
  have hb2 := hbl.alloc (show w.heap.size ≤ (w.alloc (.cells #[] 9)).heap.size by simp) (.mapIter none 0 #[] 0)
  have hrg := range0 (w.alloc (.cells #[] 9))
  have hnx := fun t => next0 (w.alloc (.cells #[] 9)).heap.size t _ (heap_alloc_new (w.alloc (.cells #[] 9)) (.mapIter none 0 #[] 0))
  have HB := Lib.hid hb2
  simp only [World.size_alloc] at hrg hnx
  clear hbl hlt hd hb2
  go_enter Tryz.func16, Tryz.ntmps16
  go_wp2_with (fail)
  obtain ⟨w1, hw1⟩ : ∃ w1, w1 = (w.alloc (.cells #[] 9)).alloc (.mapIter none 0 #[] 0) := ⟨_, rfl⟩
  rw [← hw1] at hnx HB ⊢
  clear hrg hmk d3 c3 hw1
  go_loopw [3, 4] (fun s3 _ wr => s3 = .slice (some ⟨w.heap.size, 0, none⟩) 0 0 ∧ wr = w1) (fun _ _ _ => 0)
  case atStart => exact ⟨rfl, rfl⟩
  case round =>
    obtain ⟨rfl, rfl⟩ := hrel
    go_wp2_with (fail)
    refine (Tryz.slices_Sort_string_none _ _ _).mono ?_
    rintro e w2 ⟨rfl, rfl⟩
    go_wp2
    go_ret
    exact ⟨⟨_, _, rfl⟩, HB.out⟩
end Go.Proofs.YtmlikkjahkdilaaGreatDoor
