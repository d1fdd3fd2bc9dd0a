/- where.Near of an empty list. -/
import Derived.Test.YtjjmflkdfgneoaaNear
namespace Go.Proofs.Ytjjmflkdfgneoaa
open Go.RowKit Go.Lib Go.Sort Go.Shelf

theorem make64_0 (w : World) : (Instr.makeSlice 28 (.int .i64 0) (.int .i64 0)).run Try.prog w =
    .ok (.slice (some ⟨w.heap.size, 0, none⟩) 0 0) (w.alloc (.cells #[] 3)) := by kernel_rfl
theorem insertion_nil (blk cap : Nat) (W : World) (cm : Value) :
    Calls Try.prog 35 #[.slice (some ⟨blk, 0, none⟩) 0 cap, .int .i64 0, .int .i64 0, cm] W fun e w' => e = .returned (.tuple #[]) ∧ W = w' := insertion_none (blk := blk) (off := 0) cap 0 0 (by omega) W cm
set_option maxRecDepth 100000 in
set_option maxHeartbeats 4000000 in
theorem stable_nil (blk cap : Nat) (W : World) (cm : Value) :
    Calls Try.prog 30 #[.slice (some ⟨blk, 0, none⟩) 0 cap, .int .i64 0, cm] W fun e w' => e = .returned (.tuple #[]) ∧ W = w' := by
  have mixed : Try.prog.follows Departure.mixedOrders = true := by kernel_rfl
  have hcall := insertion_nil blk cap W cm
  go_enter Try.func30, Try.ntmps30
  go_wp2
  go_loopw [7, 8] (fun va vb wr => va = .int .i64 0 ∧ vb = .int .i64 20 ∧ W = wr) (fun _ _ _ => 0)
  case atStart => exact ⟨rfl, rfl, rfl⟩
  case round =>
    obtain ⟨rfl, rfl, rfl⟩ := hrel
    go_wp2_with fail
    refine hcall.mono ?_
    rintro e w' ⟨rfl, rfl⟩
    go_wp2
    go_loopw [6] (fun vs wr => vs = .int .i64 20 ∧ W = wr) (fun _ _ => 0)
    case atStart => exact ⟨rfl, rfl⟩
    case round =>
      obtain ⟨rfl, rfl⟩ := hrel
      go_wp2
      first
        | (go_end0; exact ⟨rfl, rfl⟩)
        | (go_ret; exact ⟨rfl, rfl⟩)
set_option maxRecDepth 100000 in
set_option maxHeartbeats 4000000 in
theorem sortStable_nil (blk cap : Nat) (W : World) (cm : Value) :
    Calls Try.prog 25 #[.slice (some ⟨blk, 0, none⟩) 0 cap, cm] W fun e w' => e = .returned (.tuple #[]) ∧ W = w' := by
  have mixed : Try.prog.follows Departure.mixedOrders = true := by kernel_rfl
  have hcall := stable_nil blk cap W cm
  go_enter Try.func25, Try.ntmps25
  go_wp2_with fail
  refine hcall.mono ?_
  rintro e w' ⟨rfl, rfl⟩
  go_wp2
  first
    | (go_end0; exact ⟨rfl, rfl⟩)
    | (go_ret; exact ⟨rfl, rfl⟩)
set_option maxRecDepth 100000 in
set_option maxHeartbeats 4000000 in
theorem near_nil (cap a b : Nat) (A : Option Addr) (W : World) :
    Calls Try.prog 23 #[.complex .f64 a b, .slice A 0 cap] W fun e w' => e = .returned (.slice (some ⟨W.heap.size, 0, none⟩) 0 0) ∧ Below W.heap.size W w' := by
  have mixed : Try.prog.follows Departure.mixedOrders = true := by kernel_rfl
  have hmk := make64_0
  have HB : Hid (Below W.heap.size W (((W.alloc (.cells #[] 3)).alloc (.cells #[] 3)).alloc (.cells #[.slice (some ⟨W.heap.size + 1, 0, none⟩) 0 0] 28))) := Lib.hid ((((Below.refl _ _).alloc (Nat.le_refl _) _).alloc (by simp) _).alloc (by simp; omega) _)
  have hcall := fun wr => sortStable_nil W.heap.size 0 wr
  go_enter Try.func23, Try.ntmps23
  go_wp2_with fail
  clear hmk
  go_loopw [17] (fun vi wr => vi = .int .i64 0 ∧ Hid (Below W.heap.size W wr)) (fun _ _ => 0)
  case atStart => exact ⟨rfl, HB⟩
  case round =>
    obtain ⟨rfl, HR⟩ := hrel
    go_wp2_with fail
    refine (hcall _ _).mono ?_
    rintro e w' ⟨rfl, rfl⟩
    go_wp2
    first
      | (go_end0; exact ⟨rfl, HR.out⟩)
      | (go_ret; exact ⟨rfl, HR.out⟩)
end Go.Proofs.Ytjjmflkdfgneoaa
