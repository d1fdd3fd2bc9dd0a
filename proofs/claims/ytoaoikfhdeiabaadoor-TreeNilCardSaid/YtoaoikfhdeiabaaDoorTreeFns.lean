/- Package tree: the contracts at no tree. -/
import Derived.Test.YtoaoikfhdeiabaaDoorPathOps
namespace Go.Proofs.YtoaoikfhdeiabaaDoor
open Go.RowKit

set_option maxHeartbeats 1000000 in
theorem stat_nil (s : ByteArray) (w : World) : Calls Tryd.prog 5 #[.pointer none, .string s] w fun e w' =>
    e = .returned (.tuple #[.agg #[.bool false, .bool false, .int .i64 0, .int .i64 0, .int .i64 0, .int .i64 0, .slice none 0 0], .int .i64 2]) ∧ Below w.heap.size w w' := by
  go_enter Tryd.func5, Tryd.ntmps5
  go_wp2
  refine bodyPost_ret (v := .tuple #[.agg #[.bool false, .bool false, .int .i64 0, .int .i64 0, .int .i64 0, .int .i64 0, .slice none 0 0], .int .i64 2]) ?_ rfl ⟨rfl, ?_⟩
  · simp [results, Tryd.results5, go_sem]
  · exact (Below.refl _ w).alloc (Nat.le_refl _) _
set_option maxHeartbeats 1000000 in
theorem list_nil (s : ByteArray) (w : World) : Calls Tryd.prog 6 #[.pointer none, .string s] w fun e w' =>
    e = .returned (.tuple #[.slice none 0 0, .int .i64 2]) ∧ w = w' := by
  go_enter Tryd.func6, Tryd.ntmps6
  go_wp2
  go_ret2
  exact ⟨rfl, rfl⟩
set_option maxHeartbeats 1000000 in
theorem entries_nil (w : World) : Calls Tryd.prog 10 #[.pointer none] w fun e w' =>
    e = .returned (.slice none 0 0) ∧ w = w' := by
  go_enter Tryd.func10, Tryd.ntmps10
  go_wp2
  go_ret
  exact ⟨rfl, rfl⟩
/-- the cells of an Op -/
abbrev opV (k : Int) (p t : ByteArray) (c b0 b1 b2 z : Int) (s q : Int) : Value := .agg #[.int .i64 k, .string p, .string t, .int .i64 c, .int .i64 b0, .int .i64 b1, .int .i64 b2, .int .i64 z, .int .u32 s, .int .i64 q]
set_option maxHeartbeats 1000000 in
theorem change_nil (k : Int) (p t : ByteArray) (c b0 b1 b2 z s q : Int) (w : World) : Calls Tryd.prog 15 #[.pointer none, opV k p t c b0 b1 b2 z s q] w fun e w' =>
    (∃ v, e = .returned (.tuple #[v, .int .i64 2])) ∧ Below w.heap.size w w' := by
  go_enter Tryd.func15, Tryd.ntmps15
  go_wp2
  go_ret2
  exact ⟨⟨_, rfl⟩, (Below.refl _ w).alloc (Nat.le_refl _) _⟩
set_option maxHeartbeats 1000000 in
theorem apply_nil (k : Int) (p t : ByteArray) (c b0 b1 b2 z s q : Int) (w : World) : Calls Tryd.prog 7 #[.pointer none, opV k p t c b0 b1 b2 z s q] w fun e w' =>
    e = .returned (.int .i64 2) ∧ Below w.heap.size w w' := by
  go_enter Tryd.func7, Tryd.ntmps7
  go_wp2_with (fail)
  refine (change_nil k p t c b0 b1 b2 z s q _).mono ?_
  rintro e w1 ⟨⟨v, rfl⟩, hb⟩
  have HB := Lib.hid hb
  clear hb
  go_wp2
  go_ret
  exact ⟨rfl, ((Below.refl _ w).alloc (Nat.le_refl _) _).trans (HB.out.mono (by simp))⟩
set_option maxHeartbeats 1000000 in
theorem would_nil (k : Int) (p t : ByteArray) (c b0 b1 b2 z s q : Int) (w : World) : Calls Tryd.prog 9 #[.pointer none, opV k p t c b0 b1 b2 z s q] w fun e w' =>
    e = .returned (.int .i64 2) ∧ Below w.heap.size w w' := by
  go_enter Tryd.func9, Tryd.ntmps9
  go_wp2_with (fail)
  refine (change_nil k p t c b0 b1 b2 z s q _).mono ?_
  rintro e w1 ⟨⟨v, rfl⟩, hb⟩
  have HB := Lib.hid hb
  clear hb
  go_wp2
  go_ret
  exact ⟨rfl, ((Below.refl _ w).alloc (Nat.le_refl _) _).trans (HB.out.mono (by simp))⟩
set_option maxHeartbeats 1000000 in
theorem new_tree (w : World) : Calls Tryd.prog 11 #[] w fun e w' =>
    e = .returned (.pointer (some ⟨w.heap.size, 0, none⟩)) ∧ w' = w.alloc (.cells #[.int .i64 0, .int .i64 0, .map none] 67) := by
  go_enter Tryd.func11, Tryd.ntmps11
  go_wp2
  go_ret
  exact ⟨rfl, rfl⟩
/-- the two paths of the laws' own check -/
def sA : ByteArray := ⟨#[47, 97]⟩
def sAF : ByteArray := ⟨#[47, 97, 47, 102]⟩
theorem pp_A : Path.pp (Ls sA) = some [[97]] := by decide
theorem pp_AF : Path.pp (Ls sAF) = some [[97], [102]] := by decide
end Go.Proofs.YtoaoikfhdeiabaaDoor
