/- Package store: the list of a store that knows nothing. -/
import Derived.Test.YtmlikkjahkdilaaGreatDoorStoBad
import Derived.Maps.RangeRun
import Derived.Laws.IdiomRangeMap
namespace Go.Proofs.YtmlikkjahkdilaaGreatDoor
open Go.RowKit Go.Maps
theorem make0b (w : World) : (Instr.makeSlice 33 (.int .i64 0) (.int .i64 0)).run Tryz.prog w = .ok (.slice (some ⟨w.heap.size, 0, none⟩) 0 0) (w.alloc (.cells #[] 23)) := by kernel_rfl
set_option maxRecDepth 100000 in
set_option maxHeartbeats 1000000 in
theorem len64_0 (w : World) : Calls Tryz.prog 81 #[.int .u64 0] w fun e w' => e = .returned (.int .i64 0) ∧ w = w' := by
  go_enter Tryz.func81, Tryz.ntmps81
  have e8 : wrap64 (wrap64 (Lib.len8 0)) = 0 := by kernel_rfl
  go_wp2
  go_ret
  refine ⟨?_, rfl⟩
  show Ending.returned (.int .i64 (wrap64 (wrap64 (Lib.len8 0)))) = _
  rw [e8]
set_option maxRecDepth 100000 in
set_option maxHeartbeats 1000000 in
theorem len_0 (w : World) : Calls Tryz.prog 55 #[.int .u64 0] w fun e w' => e = .returned (.int .i64 0) ∧ w = w' := by
  go_enter Tryz.func55, Tryz.ntmps55
  go_wp2_with (fail)
  refine (len64_0 w).mono ?_
  rintro e w1 ⟨rfl, rfl⟩
  go_wp2
  go_ret
  exact ⟨rfl, rfl⟩
set_option maxRecDepth 100000 in
set_option maxHeartbeats 1000000 in
theorem insb_0 (v f : Value) (w : World) : Calls Tryz.prog 72 #[v, .int .i64 0, .int .i64 0, f] w fun e w' => e = .returned (.tuple #[]) ∧ w = w' := by
  go_enter Tryz.func72, Tryz.ntmps72
  go_wp2_with (fail)
  go_loopw [8] (fun i wr => i = .int .i64 1 ∧ wr = w) (fun _ _ => 0)
  case atStart => exact ⟨rfl, rfl⟩
  case round =>
    obtain ⟨rfl, rfl⟩ := hrel
    go_wp2
    first
      | (go_end0; exact ⟨rfl, rfl⟩)
      | exact bodyPost_ret (v := .tuple #[]) (results_none rfl _ _ _) rfl ⟨rfl, rfl⟩
set_option maxRecDepth 100000 in
set_option maxHeartbeats 2000000 in
theorem pdqb_0 (v f : Value) (w : World) : Calls Tryz.prog 54 #[v, .int .i64 0, .int .i64 0, .int .i64 0, f] w fun e w' => e = .returned (.tuple #[]) ∧ w = w' := by
  go_enter Tryz.func54, Tryz.ntmps54
  go_wp2_with (fail)
  go_loopw [1, 2, 3] (fun s1 s2 s3 wr => s1 = .int .i64 0 ∧ s2 = .int .i64 0 ∧ s3 = .int .i64 0 ∧ wr = w) (fun _ _ _ _ => 0)
  case atStart => exact ⟨rfl, rfl, rfl, rfl⟩
  case round =>
    obtain ⟨rfl, rfl, rfl, rfl⟩ := hrel
    go_wp2_with (fail)
    refine (insb_0 v f wr).mono ?_
    rintro e w1 ⟨rfl, rfl⟩
    go_wp2
    first
      | (go_end0; exact ⟨rfl, rfl⟩)
      | exact bodyPost_ret (v := .tuple #[]) (results_none rfl _ _ _) rfl ⟨rfl, rfl⟩
set_option maxRecDepth 100000 in
set_option maxHeartbeats 1000000 in
theorem sortb_0 (a : Option Addr) (c : Nat) (f : Value) (w : World) : Calls Tryz.prog 32 #[.slice a 0 c, f] w fun e w' => e = .returned (.tuple #[]) ∧ w = w' := by
  go_enter Tryz.func32, Tryz.ntmps32
  go_wp2_with (fail)
  refine (len_0 w).mono ?_
  rintro e w1 ⟨rfl, rfl⟩
  go_wp2_with (fail)
  refine (pdqb_0 _ f w).mono ?_
  rintro e w1 ⟨rfl, rfl⟩
  go_wp2
  first
    | (go_end0; exact ⟨rfl, rfl⟩)
    | exact bodyPost_ret (v := .tuple #[]) (results_none rfl _ _ _) rfl ⟨rfl, rfl⟩
theorem own_empty {w : World} {m : Nat} {D : DataW Unit} (h : OwnB w m 0 D) : ∃ c, w.heap[m]? = some (.map #[] c) := by
  obtain ⟨es, clock, h1, F, hs, _⟩ := h
  have : es = #[] := Array.eq_empty_of_size_eq_zero (by omega)
  subst this
  exact ⟨clock, h1⟩
set_option maxRecDepth 100000 in
set_option maxHeartbeats 4000000 in
theorem list_0 {W w : World} {s p m n : Nat} {S : Nat → Prop} {cp : Int} {L : Fs} {cs : List Chg} {K : Blk → Bool} (h : Hid (SS W w s p m S cp n L cs 0 K)) :
    Calls Tryz.prog 12 #[.pointer (some ⟨s, 0, none⟩)] w fun e w' => (∃ a c, e = .returned (.slice a 0 c)) ∧ Below w.heap.size w w' := by
  obtain ⟨D, hD, _⟩ := h.out.own
  obtain ⟨c, hm⟩ := own_empty hD
  have hlen : ∀ ty, (Builtin.len_ #[44] ty #[.map (some m)]).run Tryz.prog w = .ok (.int .i64 0) w := fun ty => by
    have h1 := hD.len Tryz.underlying44 ty
    have h2 := hD.size_le
    rwa [show Maps.size D = 0 by omega] at h1
  have hlen0 := hlen 3
  have c1 := h.out.c1
  have hmk := make0b w
  have hbl : Below w.heap.size w (w.alloc (.cells #[] 23)) := (Below.refl _ w).alloc (Nat.le_refl _) _
  have d1 : (w.alloc (.cells #[] 23)).cell? ⟨s, 1, none⟩ = some (.map (some m)) := (hbl.cell (p := ⟨s, 1, none⟩) h.out.sl).trans c1
  have hm1 : (w.alloc (.cells #[] 23)).heap[m]? = some (.map #[] c) := (hbl.block m h.out.ml).trans hm
  have hrg := run_range_map (P := Tryz.prog) (w.alloc (.cells #[] 23)) 44 _ _ m #[] c Tryz.underlying44 hm1
  have hb2 := hbl.alloc (show w.heap.size ≤ (w.alloc (.cells #[] 23)).heap.size by simp) (.mapIter (some m) c #[] c)
  have hm2 : ((w.alloc (.cells #[] 23)).alloc (.mapIter (some m) c #[] c)).heap[m]? = some (.map #[] c) := (hb2.block m h.out.ml).trans hm
  have hnx : ∀ ty, (Instr.next (.pointer (some ⟨(w.alloc (.cells #[] 23)).heap.size, 0, none⟩)) false ty).run Tryz.prog ((w.alloc (.cells #[] 23)).alloc (.mapIter (some m) c #[] c)) = .ok (.tuple #[.bool false]) ((w.alloc (.cells #[] 23)).alloc (.mapIter (some m) c #[] c)) := fun ty => by
    rcases run_next_at (P := Tryz.prog) _ ty _ m c c #[] #[] c (heap_alloc_new (w.alloc (.cells #[] 23)) (.mapIter (some m) c #[] c)) hm2 (fun x hx => by cases hx) (Nat.le_refl _) with h1 | ⟨e, he, _⟩
    · exact h1.2
    · simp [leftOf] at he
  have HB := Lib.hid hb2
  simp only [World.size_alloc] at hrg hnx
  clear hbl hb2 hm hm1 hm2 hD h hlen
  go_enter Tryz.func12, Tryz.ntmps12
  go_wp2_with (fail)
  obtain ⟨w1, hw1⟩ : ∃ w1, w1 = (w.alloc (.cells #[] 23)).alloc (.mapIter (some m) c #[] c) := ⟨_, rfl⟩
  rw [← hw1] at hnx HB ⊢
  clear hrg hmk d1 c1 hw1 hlen0
  go_loopw [3, 4] (fun s3 _ wr => s3 = .slice (some ⟨w.heap.size, 0, none⟩) 0 0 ∧ wr = w1) (fun _ _ _ => 0)
  case atStart => exact ⟨rfl, rfl⟩
  case round =>
    obtain ⟨rfl, rfl⟩ := hrel
    go_wp2_with (fail)
    refine (sortb_0 _ _ _ _).mono ?_
    rintro e w2 ⟨rfl, rfl⟩
    go_wp2
    go_ret
    exact ⟨⟨_, _, rfl⟩, HB.out⟩
end Go.Proofs.YtmlikkjahkdilaaGreatDoor
